/- WindowDoes. -/
import Derived.Test.YtcfphpcakigekaaRngA
import Derived.Test.YtcfphpcakigekaaWinI
set_option linter.unusedVariables false
namespace Go.Proofs.Ytcfphpcakigekaa.LawDoes
open Go.RowKit Go.Proofs.Ytcfphpcakigekaa.Sums Go.Proofs.Ytcfphpcakigekaa.Mem Go.Proofs.Ytcfphpcakigekaa.Blk Go.Proofs.Ytcfphpcakigekaa.Longs Go.Proofs.Ytcfphpcakigekaa.WinD Go.Proofs.Ytcfphpcakigekaa.WinR Go.Proofs.Ytcfphpcakigekaa.WinA Go.Proofs.Ytcfphpcakigekaa.WinI Go.Proofs.Ytcfphpcakigekaa.Rng1 Go.Proofs.Ytcfphpcakigekaa.Rng2 Go.Proofs.Ytcfphpcakigekaa.Rng4 Go.Proofs.Ytcfphpcakigekaa.RngU Go.Proofs.Ytcfphpcakigekaa.RngA

theorem but_below' {g B : Nat} {q : Option Nat} {w0 w w' : World} (h : Below B w0 w) (hb : But g q w w') (h1 : B ≤ g) (h2 : ∀ k, q = some k → B ≤ k) (hB : B ≤ w.heap.size) : Below B w0 w' :=
  ⟨hb.os.trans h.os, hb.tape.trans h.tape, hb.output.trans h.output, Nat.le_trans h.size hb.size, fun k hk => (hb.block k (by omega) (by omega) (fun e => by have := h2 k e.symm; omega)).trans (h.block k hk)⟩
/-- The code's window and the document's, side by side. -/
structure Two (B : Nat) (w0 w : World) (g gr g2 : Nat) (v : Value) (S : Nat) (wd : Bool) (L : List Nat) : Prop where
  run : Run B w0 w g gr S wd L
  win : Win w B g2 v S wd L
  n1 : g2 ≠ g
  n2 : g2 ≠ gr
  n3 : v.ownBlock ≠ some g
  n4 : v.ownBlock ≠ some gr
  gB : B ≤ g2
section
variable {B : Nat} {w0 w w' w2 : World} {g gr g2 S : Nat} {v v' : Value} {wd : Bool} {L L' : List Nat}
theorem Two.up (h : Two B w0 w g gr g2 v S wd L) (hb : Below w.heap.size w w') : Two B w0 w' g gr g2 v S wd L := ⟨h.run.up hb, h.win.up hb, h.n1, h.n2, h.n3, h.n4, h.gB⟩
theorem win_but {k : Nat} {q : Option Nat} {base : Nat} (h : Win w base g2 v S wd L) (hb : But k q w w') (h1 : g2 ≠ k) (h2 : some g2 ≠ q) (h3 : v.ownBlock ≠ some k) (h4 : v.ownBlock = none ∨ v.ownBlock ≠ q) : Win w' base g2 v S wd L := by
  refine ⟨(hb.block g2 (Blk.lt h.blk) h1 h2).trans h.blk, ?_, h.ne, h.lt, h.len, h.sz⟩
  refine ⟨h.own.1, ?_⟩
  rcases h.own.2 with hn | ⟨b, cap, cur, rfl, hb', hg, rest⟩
  · exact .inl hn
  · refine .inr ⟨b, cap, cur, rfl, hb', ?_, rest⟩
    refine (hb.block b ?_ (fun e => h3 (by rw [e]; rfl)) (fun e => ?_)).trans hg
    · rcases Nat.lt_or_ge b w.heap.size with q | q
      · exact q
      · rw [Array.getElem?_eq_none q] at hg; cases hg
    · rcases h4 with z | z
      · cases z
      · exact z e
theorem Two.accept (h : Two B w0 w g gr g2 v S wd L) (hr : Run B w0 w' g gr S wd L') (hb : But g (some gr) w w') (hw : Win w2 B g2 v' S wd L') (hb2 : But g2 v.ownBlock w' w2)
    (hv : v'.ownBlock = v.ownBlock ∨ ∃ k, v'.ownBlock = some k ∧ w'.heap.size ≤ k) : Two B w0 w2 g gr g2 v' S wd L' := by
  have lg := has_lt hr.has
  refine ⟨⟨hr.has.but hb2 (fun e => h.n1 e.symm) (fun e => h.n2 e.symm) (fun e => h.n3 e.symm) (fun e => h.n4 e.symm), but_below' hr.bel hb2 h.gB (fun k hk => ?_) hr.size, hr.g0, hr.gr0, hr.b0⟩, hw, h.n1, h.n2, ?_, ?_, h.gB⟩
  · exact (h.win.own.lt k hk).1
  · rcases hv with e | ⟨k, e, hk⟩
    · rw [e]; exact h.n3
    · rw [e]; intro q; injection q; omega
  · rcases hv with e | ⟨k, e, hk⟩
    · rw [e]; exact h.n4
    · rw [e]; intro q; injection q; omega
theorem two_new (h : Run B w0 w g gr S wd []) (hS : S ≤ 1048576) : Two B w0 (w.alloc (.cells (wcells S wd (.slice none 0 0)) 30)) g gr w.heap.size (.slice none 0 0) S wd [] := by
  have lg := has_lt h.has
  have b1 := (Below.refl w.heap.size w).alloc (Nat.le_refl _) (.cells (wcells S wd (.slice none 0 0)) 30)
  exact ⟨h.up b1, ⟨Blk.new w _ _, QOwn.nil _ _, fun e => (by cases e), fun _ h => (by cases h), Nat.zero_le _, hS⟩, by omega, by omega, fun e => (by cases e), fun e => (by cases e), h.size⟩
end

set_option maxRecDepth 100000 in
set_option maxHeartbeats 2000000 in
theorem does_any (a0 : Int) (wd : Bool) (A : Option Addr) (n c : Nat) (l : List Nat) (W : World) (hh : QRow W W.heap.size A n c l) : Calls Try.prog 3 #[.int .i64 a0, .bool wd, .slice A n c] W fun e W' => e = .returned (.bool true) ∧ Below W.heap.size W W' := by
  have AW := Lib.hid awake_any
  by_cases hn : 200 < n
  · have g1 : decide ((200 : Int) < (n : Int)) = true := decide_eq_true (by omega)
    clear hh hn
    go_enter Try.func3, Try.ntmps3
    go_wp2_with fail
    go_ret
    exact ⟨rfl, Below.refl _ _⟩
  have gn : decide ((200 : Int) < (n : Int)) = false := decide_eq_false (by omega)
  by_cases hs : a0 < 64 ∨ 1024 < a0
  · have CN := Lib.hid (new_bad a0 wd W hs)
    clear hh hn
    rcases hs with hs | hs
    · have g2 : decide (a0 < 64) = true := decide_eq_true hs
      go_enter Try.func3, Try.ntmps3
      go_wp2_with fail
      refine CN.out.mono ?_
      rintro e w1 ⟨rfl, rfl⟩
      go_wp2_with fail
      refine (AW.out _).mono ?_
      rintro e w2 ⟨rfl, hb⟩
      go_wp2_with fail
      go_ret
      exact ⟨rfl, hb⟩
    · have g2 : decide (a0 < 64) = false := decide_eq_false (by omega)
      have g3 : decide (1024 < a0) = true := decide_eq_true hs
      go_enter Try.func3, Try.ntmps3
      go_wp2_with fail
      refine CN.out.mono ?_
      rintro e w1 ⟨rfl, rfl⟩
      go_wp2_with fail
      refine (AW.out _).mono ?_
      rintro e w2 ⟨rfl, hb⟩
      go_wp2_with fail
      go_ret
      exact ⟨rfl, hb⟩
  obtain ⟨S, rfl⟩ : ∃ n : Nat, a0 = (n : Int) := ⟨a0.toNat, by omega⟩
  have sl : 64 ≤ S := by omega
  have sb : S ≤ 1024 := by omega
  have n2 : n ≤ 200 := by omega
  have CN := Lib.hid (new_run (B := W.heap.size) (w0 := W) (w := W) S wd (Nat.le_refl _) (Below.refl _ _) sl sb)
  have g2 : decide ((S : Int) < 64) = false := decide_eq_false (by omega)
  have g3 : decide ((1024 : Int) < (S : Int)) = false := decide_eq_false (by omega)
  have HQ := Lib.hid hh
  clear hs hn hh
  go_enter Try.func3, Try.ntmps3
  go_wp2_with fail
  refine CN.out.mono ?_
  rintro e w1 ⟨g, gr, rfl, h, _, _⟩
  have T0 := Lib.hid (two_new h (by omega))
  clear CN h
  go_wp2_with fail
  go_loopw [10] (fun kv wr => ∃ (k : Nat) (v : Value) (L : List Nat), kv = .int .i64 (k : Int) ∧ k ≤ n ∧ Hid (Two W.heap.size W wr g gr w1.heap.size v S wd L) ∧ Hid (L.length ≤ k)) (fun kv _ => n - (intOf kv).toNat)
  case atStart => exact ⟨0, _, [], rfl, by omega, T0, Lib.hid (Nat.le_refl _)⟩
  case round =>
    obtain ⟨k, v, L, rfl, hk, HT, HL⟩ := hrel
    clear T0
    by_cases hlt : k < n
    · have LQ := Lib.hid (HQ.out.lt hlt)
      obtain ⟨b, o, rfl, hb, hc⟩ := (HQ.out.below HT.out.run.bel).2.2 (by omega)
      have c3 := hc k hlt
      clear hc hb
      have AL := Lib.hid (acc_len S wd L (l.getD k 0))
      generalize l.getD k 0 = y at *
      have yb : y < 18446744073709551616 := LQ.out
      obtain ⟨lo, hlo⟩ : ∃ lo, lo = y % 4294967296 := ⟨_, rfl⟩
      have m0 : ((y : Int)).tmod 4294967296 = (lo : Int) := by rw [Int.tmod_eq_emod_of_nonneg (by omega), hlo]; rfl
      have i1 : IntKind.i64.wrap (lo : Int) = (lo : Int) := IntWalk.i64_in _ (by omega)
      have u1 : IntKind.u64.wrap (lo : Int) = (lo : Int) := IntWalk.u64_in _ (by omega)
      clear hlo yb
      go_wp2_with fail
      refine (infer_run HT.out.run (lo : Int)).mono ?_
      rintro e x1 ⟨rfl, _, hb⟩
      have H1 := Lib.hid (HT.out.up hb)
      clear hb HT
      go_wp2_with fail
      refine (infer_ref _ _ _ _ _ _ (lo : Int) x1 H1.out.win).mono ?_
      rintro e x2 ⟨rfl, rfl⟩
      generalize (inf S wd L (lo : Int)).1 = p1 at *
      generalize (inf S wd L (lo : Int)).2 = p2 at *
      go_wp2_with fail
      refine (check_run H1.out.run y LQ.out).mono ?_
      rintro e x2 ⟨rfl, _, hb⟩
      have H2 := Lib.hid (H1.out.up hb)
      clear hb H1
      go_wp2_with fail
      refine (check_ref _ _ _ _ _ _ y x2 H2.out.win LQ.out).mono ?_
      rintro e x3 ⟨rfl, hb⟩
      have H3 := Lib.hid (H2.out.up hb)
      clear hb H2
      obtain ⟨p3, hp3⟩ : ∃ p, p = chk S wd L y := ⟨_, rfl⟩
      rw [← hp3]
      have HP3 := Lib.hid hp3
      clear hp3
      go_wp2_with fail
      refine (accept_run H3.out.run y LQ.out).mono ?_
      rw [← HP3.out]
      rintro e x4 ⟨rfl, hr, hb⟩
      have HR4 := Lib.hid hr
      have HB4 := Lib.hid hb
      have HW4 := Lib.hid (win_but H3.out.win hb H3.out.n1 (fun e => H3.out.n2 (by injection e)) H3.out.n3 (.inr H3.out.n4))
      clear hr hb
      go_wp2_with fail
      refine (accept_ref _ _ _ _ _ _ y x4 HW4.out LQ.out (by have := HL.out; omega) HR4.out.size).mono ?_
      rw [← HP3.out]
      rintro e x5 ⟨rfl, hb, v', hw, hv⟩
      have H5 := Lib.hid (H3.out.accept HR4.out HB4.out hw hb hv)
      clear hb hw hv H3 HR4 HB4 HW4
      go_wp2_with fail
      refine (top_run H5.out.run).mono ?_
      rintro e x6 ⟨rfl, rfl⟩
      go_wp2_with fail
      refine (top_ref _ _ _ _ _ _ x5 H5.out.win).mono ?_
      rintro e x6 ⟨rfl, rfl⟩
      generalize top (acc S wd L y) = p4 at *
      go_wp2_with fail
      go_roundw
      case rel => exact ⟨k + 1, v', acc S wd L y, by go_num, by omega, H5, Lib.hid (by have := AL.out; have := HL.out; omega)⟩
      case measure => simp [intOf]; omega
    · obtain rfl : k = n := by omega
      have i1 : inf S wd L (-1) = (0, 1) := if_pos (.inl (by decide))
      have i2 : inf S wd L 4294967296 = (0, 1) := if_pos (.inr (by decide))
      have C1 := infer_run HT.out.run (-1)
      rw [i1] at C1
      replace C1 := Lib.hid C1
      go_wp2_with fail
      refine C1.out.mono ?_
      rintro e x1 ⟨rfl, hr, hb⟩
      have H1 := Lib.hid hr
      clear C1 hr hb HT
      go_wp2_with fail
      have C1 := infer_run H1.out 4294967296
      rw [i2] at C1
      refine C1.mono ?_
      rintro e x2 ⟨rfl, hr, hb⟩
      have H2 := Lib.hid hr
      clear C1 hr hb H1
      go_wp2_with fail
      refine (AW.out _).mono ?_
      rintro e x3 ⟨rfl, hb⟩
      have HB := Lib.hid (H2.out.bel.trans (hb.mono H2.out.size))
      clear hb
      go_wp2_with fail
      go_ret
      exact ⟨rfl, HB.out⟩
end Go.Proofs.Ytcfphpcakigekaa.LawDoes
