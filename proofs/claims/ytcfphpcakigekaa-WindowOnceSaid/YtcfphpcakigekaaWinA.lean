/- The document's window: the contracts of Check, Accept. -/
import Derived.Test.YtcfphpcakigekaaWinR
set_option linter.unusedVariables false
namespace Go.Proofs.Ytcfphpcakigekaa.WinA
open Go.RowKit Go.Proofs.Ytcfphpcakigekaa.Sums Go.Proofs.Ytcfphpcakigekaa.Mem Go.Proofs.Ytcfphpcakigekaa.Blk Go.Proofs.Ytcfphpcakigekaa.Longs Go.Proofs.Ytcfphpcakigekaa.WinD Go.Proofs.Ytcfphpcakigekaa.WinR

theorem check_ref (base g : Nat) (v : Value) (S : Nat) (wd : Bool) (l : List Nat) (n : Nat) (w : World) (h : Win w base g v S wd l) (hn : n < Q64) :
    Calls Try.prog 13 #[.pointer (some ⟨g, 0, none⟩), .int .u64 (n : Int)] w fun e w' => e = .returned (.int .i64 ((chk S wd l n : Nat) : Int)) ∧ Below w.heap.size w w' := by
  by_cases hb : wd = false ∧ 4294967295 < n
  · have E : Hid (chk S wd l n = 1) := Lib.hid (if_pos hb)
    obtain ⟨rfl, hg⟩ := hb
    have c1 := h.wide
    have g2 : decide ((4294967295 : Int) < (n : Int)) = true := decide_eq_true (by omega)
    clear h
    go_enter Try.func13, Try.ntmps13
    go_wp2_with fail
    go_ret
    exact ⟨by rw [E.out]; rfl, Below.refl _ _⟩
  · have E : chk S wd l n = if n = 0 ∨ old S l n = true then 120 else 0 := if_neg hb
    rw [E]
    exact check_in base g v S wd l n w h hn hb

/-- But for the block g and the row's block r all that was is as it was. -/
structure But (g : Nat) (r : Option Nat) (w w' : World) : Prop where
  os : w'.os = w.os
  tape : w'.tape = w.tape
  output : w'.output = w.output
  size : w.heap.size ≤ w'.heap.size
  block : ∀ k, k < w.heap.size → k ≠ g → some k ≠ r → w'.heap[k]? = w.heap[k]?
theorem But.of_below {g : Nat} {r : Option Nat} {w w' : World} (h : Below w.heap.size w w') : But g r w w' := ⟨h.os, h.tape, h.output, h.size, fun k hk _ _ => h.block k hk⟩
theorem grown_set (w : World) (g o : Nat) (u : Value) : w.grownBy (w.setCell ⟨g, o, none⟩ u) (some g) :=
  ⟨rfl, rfl, rfl, by simp, fun k hk hne => Below.heap_setCell w ⟨g, o, none⟩ u k (fun e => hne (by rw [e]))⟩

set_option maxHeartbeats 1000000 in
theorem accept_ref (base g : Nat) (v : Value) (S : Nat) (wd : Bool) (l : List Nat) (n : Nat) (w : World) (h : Win w base g v S wd l) (hn : n < Q64) (hl : l.length < 1000000) (hB : base ≤ w.heap.size) :
    Calls Try.prog 15 #[.pointer (some ⟨g, 0, none⟩), .int .u64 (n : Int)] w fun e w' => e = .returned (.int .i64 ((chk S wd l n : Nat) : Int)) ∧ But g v.ownBlock w w' ∧
      ∃ v', Win w' base g v' S wd (acc S wd l n) ∧ (v'.ownBlock = v.ownBlock ∨ ∃ k, v'.ownBlock = some k ∧ w.heap.size ≤ k) := by
  have C := Lib.hid (check_ref base g v S wd l n w h hn)
  have HN := Lib.hid hn
  have AC : Hid (acc S wd l n = if chk S wd l n = 0 then l ++ [n] else l) := Lib.hid rfl
  obtain ⟨L2, hL2⟩ : ∃ L2, L2 = acc S wd l n := ⟨_, rfl⟩
  obtain ⟨r, hr0⟩ : ∃ r, r = chk S wd l n := ⟨_, rfl⟩
  rw [← hL2, ← hr0] at AC ⊢
  rw [← hr0] at C
  obtain ⟨A, c, rfl, _⟩ := h.shape
  obtain ⟨N, hN⟩ : ∃ N, N = l.length := ⟨_, rfl⟩
  rw [← hN] at h hl ⊢
  have H := Lib.hid h
  have HL := Lib.hid hl
  have NL := Lib.hid hN
  clear h hn hl hL2 hr0 hN
  go_enter Try.func15, Try.ntmps15
  go_wp2_with fail
  refine C.out.mono ?_
  rintro e w1 ⟨rfl, hb⟩
  have H1 := Lib.hid (H.out.up hb)
  have BU := Lib.hid (But.of_below (g := g) (r := (Value.slice A N c).ownBlock) hb)
  have SZ := hb.size
  clear hb C H
  by_cases hr : r = 0
  · subst hr
    have E : L2 = l ++ [n] := AC.out
    subst E
    clear AC
    have c2 := H1.out.row
    go_wp2_with (at_builtin
                 refine wpList_append_long rfl (.tmp 15) (.tmp 17) rfl base (.slice A N c) l rfl (H1.out.own.alloc _) w1.heap.size 1 [n] rfl (fun i hi => ?_) (Nat.lt_succ_self 0) (by have := HL.out; have := NL.out; show l.length + 1 ≤ 1048576; omega) (by simp; omega) ?_
                 · obtain rfl : i = 0 := by simpa using hi
                   exact Blk.cell (Blk.new w1 _ _) 0
                 intro g2 cap w2 o2 gr2 at2 lt2
                 have K2 : Blk w2 g 30 (wcells S wd (.slice A N c)) := Blk.grown (Blk.alloc H1.out.blk _) gr2 (fun e => H1.out.ne e.symm)
                 have c9 := Blk.cell K2 2
                 have f9 := Blk.frozen K2 2
                 have O2 : Hid (QOwn w2 base (.slice (some ⟨g2, 0, none⟩) (l.length + 1) cap) (l ++ [n])) := Lib.hid (by
                   have q := o2
                   rw [List.length_append] at q
                   exact q)
                 have R2 := Lib.hid gr2
                 have A2 := Lib.hid at2
                 have KK := Lib.hid K2
                 clear o2 gr2 at2 K2)
    go_ret
    have gl : g < w1.heap.size := Blk.lt H1.out.blk
    have hs : (w1.alloc (.cells #[.int .u64 (n : Int)] 31)).heap.size = w1.heap.size + 1 := by simp
    have ng : g2 ≠ g := by
      rcases A2.out with q | q
      · intro e; exact H1.out.ne (by rw [q, e])
      · rw [hs] at q; omega
    refine ⟨rfl, ?_, _, ⟨Blk.put KK.out 2 _, O2.out.kept (grown_set w2 g 2 _) (.inr (fun e => ng (by injection e))), fun e => ng (by injection e), ?_, ?_, H1.out.sz⟩, ?_⟩
    · refine ⟨R2.out.os.trans BU.out.os, R2.out.tape.trans BU.out.tape, R2.out.output.trans BU.out.output, ?_, fun k hk hkg hkr => ?_⟩
      · have := R2.out.size
        rw [hs] at this
        simp
        omega
      · refine (Below.heap_setCell w2 ⟨g, 2, none⟩ _ k hkg).trans ?_
        refine (R2.out.block k (by rw [hs]; omega) hkr).trans ?_
        exact (Below.heap_alloc w1 _ k (by omega)).trans (BU.out.block k hk hkg hkr)
    · intro x hx
      rcases List.mem_append.1 hx with q | q
      · exact H1.out.lt x q
      · rw [List.mem_singleton.1 q]; exact HN.out
    · have := HL.out
      have := NL.out
      simp
      omega
    · rcases A2.out with q | q
      · exact .inl q.symm
      · exact .inr ⟨g2, rfl, by rw [hs] at q; omega⟩
  · have E : L2 = l := by rw [AC.out, if_neg hr]
    subst E
    have g1 : ((r : Int) == 0) = false := by rw [beq_eq_false_iff_ne]; omega
    clear AC
    go_wp2_with fail
    go_ret
    exact ⟨rfl, BU.out, _, H1.out, .inl rfl⟩
end Go.Proofs.Ytcfphpcakigekaa.WinA
