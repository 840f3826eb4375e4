/- The document's window: how it lies; the contracts of Top, Check. -/
import Derived.Test.YtppnkkpjfjhfkaaDoorM04
import Derived.Deep.QuietTactic
set_option linter.unusedVariables false
namespace Go.Proofs.YtppnkkpjfjhfkaaDoor.WinR
open Go.RowKit Go.Proofs.YtppnkkpjfjhfkaaDoor.Sums Go.Proofs.YtppnkkpjfjhfkaaDoor.Mem Go.Proofs.YtppnkkpjfjhfkaaDoor.Blk Go.Proofs.YtppnkkpjfjhfkaaDoor.Longs Go.Proofs.YtppnkkpjfjhfkaaDoor.WinD

def wcells (S : Nat) (wd : Bool) (v : Value) : Array Value := #[.int .i64 (S : Int), .bool wd, v]
/-- A window lies at block g; its numbers are the row v. -/
structure Win (w : World) (base g : Nat) (v : Value) (S : Nat) (wd : Bool) (l : List Nat) : Prop where
  blk : Blk w g 89 (wcells S wd v)
  own : QOwn w base v l
  ne : v.ownBlock ≠ some g
  lt : ∀ x ∈ l, x < Q64
  len : l.length ≤ 1000000
  sz : S ≤ 1048576
section
variable {w w' : World} {base g S : Nat} {v : Value} {wd : Bool} {l : List Nat}
theorem Win.size (h : Win w base g v S wd l) : w.cell? ⟨g, 0, none⟩ = some (.int .i64 (S : Int)) := Blk.cell h.blk 0
theorem Win.wide (h : Win w base g v S wd l) : w.cell? ⟨g, 1, none⟩ = some (.bool wd) := Blk.cell h.blk 1
theorem Win.row (h : Win w base g v S wd l) : w.cell? ⟨g, 2, none⟩ = some v := Blk.cell h.blk 2
theorem Win.up (h : Win w base g v S wd l) (hb : Below w.heap.size w w') : Win w' base g v S wd l := ⟨Blk.below h.blk hb (Blk.lt h.blk), h.own.up hb, h.ne, h.lt, h.len, h.sz⟩
theorem Win.drewN (h : Win w base g v S wd l) (n : Nat) : Win (w.drewN n) base g v S wd l := ⟨h.blk, h.own, h.ne, h.lt, h.len, h.sz⟩
theorem Win.kept {r : Option Nat} (h : Win w base g v S wd l) (hb : w.grownBy w' r) (h1 : some g ≠ r) (h2 : v.ownBlock = none ∨ v.ownBlock ≠ r) : Win w' base g v S wd l := ⟨Blk.grown h.blk hb h1, h.own.kept hb h2, h.ne, h.lt, h.len, h.sz⟩
theorem Win.shape (h : Win w base g v S wd l) : ∃ A c, v = .slice A l.length c ∧ (0 < l.length → ∃ b, A = some ⟨b, 0, none⟩ ∧ ∀ k, k < l.length → w.cell? ⟨b, k, none⟩ = some (.int .u64 ((l.getD k 0 : Nat) : Int))) := by
  by_cases h0 : 0 < l.length
  · obtain ⟨b, c, rfl, _⟩ := h.own.form h0
    exact ⟨_, c, rfl, fun _ => ⟨b, rfl, fun k hk => h.own.cell hk⟩⟩
  · obtain ⟨A, c, rfl⟩ := h.own.shape
    exact ⟨A, c, rfl, fun q => absurd q h0⟩
end

set_option maxHeartbeats 1000000 in
theorem top_ref (base g : Nat) (v : Value) (S : Nat) (wd : Bool) (l : List Nat) (w : World) (h : Win w base g v S wd l) :
    Calls Tryd.prog 62 #[.pointer (some ⟨g, 0, none⟩)] w fun e w' => e = .returned (.int .u64 ((top l : Nat) : Int)) ∧ w = w' := by
  have c2 := h.row
  obtain ⟨A, c, rfl, hA⟩ := h.shape
  have HA := Lib.hid hA
  have ln := h.len
  clear h hA
  obtain ⟨n, hn⟩ : ∃ n, n = l.length := ⟨_, rfl⟩
  rw [← hn] at c2 ln HA
  have HN := Lib.hid hn
  clear hn
  go_enter Tryd.func62, Tryd.ntmps62
  go_wp2_with fail
  go_loopw [3, 4] (fun tv kv wr => ∃ k t : Nat, tv = .int .u64 (t : Int) ∧ kv = .int .i64 (k : Int) ∧ k ≤ n ∧ Hid (t = top (l.take k)) ∧ Hid (wr = w)) (fun _ kv _ => n - (intOf kv).toNat)
  case atStart => exact ⟨0, 0, rfl, rfl, by omega, Lib.hid rfl, Lib.hid rfl⟩
  case round =>
    obtain ⟨k, t, rfl, rfl, hk, HT, HW⟩ := hrel
    obtain rfl := HW.out
    by_cases hlt : k < n
    · obtain ⟨b, rfl, hc⟩ := HA.out (by omega)
      have c3 := hc k hlt
      have TN : Hid (top (l.take (k + 1)) = max t (l.getD k 0)) := Lib.hid (by rw [HT.out]; exact top_take (by rw [← HN.out]; exact hlt))
      generalize l.getD k 0 = y at *
      clear hc HT
      go_wp2_with fail
      go_roundw
      case rel => exact ⟨k + 1, max t y, by first | rfl | (congr 1; omega), by go_num, by omega, Lib.hid TN.out.symm, Lib.hid (by trivial)⟩
      case measure => simp [intOf]; omega
    · obtain rfl : k = n := by omega
      have F : Hid (t = top l) := Lib.hid (by rw [HT.out, List.take_of_length_le (by rw [HN.out]; exact Nat.le_refl _)])
      clear HT
      go_wp2_with fail
      go_ret
      exact ⟨by rw [F.out]; rfl, rfl⟩

-- a row of skipped operations is else unfolded by every 'refine' that looks whether its goal is a function
attribute [local irreducible] wpQuiet
set_option maxHeartbeats 2000000 in
theorem check_in (base g : Nat) (v : Value) (S : Nat) (wd : Bool) (l : List Nat) (n : Nat) (w : World) (h : Win w base g v S wd l) (hn : n < Q64) (hb : ¬ (wd = false ∧ 4294967295 < n)) :
    Calls Tryd.prog 49 #[.pointer (some ⟨g, 0, none⟩), .int .u64 (n : Int)] w fun e w' => e = .returned (.int .i64 ((if n = 0 ∨ old S l n = true then 120 else 0 : Nat) : Int)) ∧ Below w.heap.size w w' := by
  have W0 := Lib.hid h
  obtain ⟨r, hr⟩ : ∃ r : Nat, r = (if n = 0 ∨ old S l n = true then 120 else 0) := ⟨_, rfl⟩
  rw [← hr]
  have RE := Lib.hid hr
  clear hr
  have TOP : Hid (∀ q, Calls Tryd.prog 62 #[.pointer (some ⟨g, 0, none⟩)] (w.drewN q) fun e w' => e = .returned (.int .u64 ((top l : Nat) : Int)) ∧ w' = w.drewN q) := Lib.hid fun q => (top_ref base g v S wd l _ (h.drewN q)).mono fun _ _ z => ⟨z.1, z.2.symm⟩
  have tb := top_lt h.lt
  have sb := h.sz
  unfold Q64 at tb hn
  obtain ⟨t, ht⟩ : ∃ t, t = top l := ⟨_, rfl⟩
  rw [← ht] at TOP tb
  have LE : Hid (left S l n = (decide (S ≤ t) && decide (n ≤ t - S))) := Lib.hid (by rw [ht]; rfl)
  have OD : Hid (old S l n = (left S l n || was l n)) := Lib.hid rfl
  clear ht
  have c0 := h.size
  have c1 := h.wide
  have f1 : IntKind.u64.wrap (S : Int) = (S : Int) := IntWalk.u64_in _ (by omega)
  have g2 : wd = false → decide ((4294967295 : Int) < (n : Int)) = false := fun q => decide_eq_false (fun z => hb ⟨q, by omega⟩)
  have CS : Hid (∃ (m : Nat) (a b : Bool), IntKind.u64.wrap ((t : Int) - (S : Int)) = (m : Int) ∧ decide (S ≤ t) = a ∧ decide (n ≤ m) = b ∧ (a && b) = left S l n) := Lib.hid (by
    by_cases q : S ≤ t
    · exact ⟨t - S, true, decide (n ≤ t - S), by rw [IntWalk.u64_in _ (by omega)]; omega, decide_eq_true q, rfl, by rw [LE.out, decide_eq_true q]⟩
    · exact ⟨(IntKind.u64.wrap ((t : Int) - (S : Int))).toNat, false, _, by rw [IntKind.wrap_u64]; omega, decide_eq_false q, rfl, by rw [LE.out, decide_eq_false q, Bool.false_and, Bool.false_and]⟩)
  clear hb LE tb
  obtain ⟨m, a, b, f3, g3, g4, AB⟩ := CS.out
  replace AB := Lib.hid AB
  clear CS
  go_enter Tryd.func49, Tryd.ntmps49
  have MID : Hid (∀ nq, Win (w.drewN nq) base g v S wd l) := Lib.hid fun nq => W0.out.drewN nq
  cases wd <;> cases a <;> cases b
  all_goals first | (replace g2 := g2 rfl) | clear g2
  all_goals go_wp2_with fail
  all_goals go_quiet (first | with_reducible exact Calls.quiet_of_same (TOP.out _))
  all_goals (have WQ := Lib.hid (MID.out nq); have BQ := Lib.hid (below_drewN (Below.refl w.heap.size w) nq))
  all_goals (generalize w.drewN nq = w1 at *)
  all_goals (clear TOP MID W0 c0 c1 f1 f3 g3 g4)
  all_goals
    have ln := WQ.out.len
    have c2 := WQ.out.row
    obtain ⟨A, c, rfl, hA⟩ := WQ.out.shape
    obtain ⟨N, hN⟩ : ∃ N, N = l.length := ⟨_, rfl⟩
    rw [← hN] at c2 ln hA
    have HA := Lib.hid hA
    have HN := Lib.hid hN
    clear hA hN WQ
    go_wp2_with fail
    go_loopw [5, 6] (fun qv kv wr => ∃ (k : Nat) (q : Bool), qv = .bool q ∧ kv = .int .i64 (k : Int) ∧ k ≤ N ∧ Hid (q = (left S l n || was (l.take k) n)) ∧ Hid (wr = w1)) (fun _ kv _ => N - (intOf kv).toNat)
    case atStart => exact ⟨0, _, rfl, rfl, by omega, Lib.hid (by rw [← AB.out]; rfl), Lib.hid rfl⟩
    case round =>
      obtain ⟨k, q, rfl, rfl, hk, HT, HW⟩ := hrel
      obtain rfl := HW.out
      by_cases hlt : k < N
      · obtain ⟨b, rfl, hc⟩ := HA.out (by omega)
        have c3 := hc k hlt
        have TN : Hid ((left S l n || was (l.take (k + 1)) n) = (q || (l.getD k 0 == n))) := Lib.hid (by rw [was_take (by rw [← HN.out]; exact hlt), ← Bool.or_assoc, ← HT.out])
        generalize l.getD k 0 = y at *
        obtain ⟨z, hz⟩ : ∃ z, z = (y == n) := ⟨_, rfl⟩
        have g1 : ((y : Int) == (n : Int)) = z := by
          rw [hz]
          by_cases e : y = n
          · subst e; simp
          · rw [beq_eq_false_iff_ne.2 e]; rw [beq_eq_false_iff_ne]; omega
        rw [← hz] at TN
        have g2 := hz.symm
        clear hc HT hz
        cases q <;> cases z
        all_goals go_wp2_with fail
        all_goals go_roundw
        all_goals first | exact ⟨k + 1, _, rfl, by go_num, by omega, Lib.hid TN.out.symm, Lib.hid (by trivial)⟩ | (simp [intOf]; omega)
      · obtain rfl : k = N := by omega
        have F : Hid (q = old S l n) := Lib.hid (by rw [HT.out, OD.out, List.take_of_length_le (by rw [HN.out]; exact Nat.le_refl _)])
        obtain ⟨z, hz⟩ : ∃ z, z = (n == 0) := ⟨_, rfl⟩
        have g1 : ((n : Int) == 0) = z := by
          rw [hz]
          by_cases e : n = 0
          · subst e; rfl
          · rw [beq_eq_false_iff_ne.2 e]; rw [beq_eq_false_iff_ne]; omega
        have g2 := hz.symm
        have FIN : Hid (r = if (z || q) = true then 120 else 0) := Lib.hid (by
          rw [RE.out, ← F.out, hz]
          by_cases e : n = 0
          · subst e; simp
          · cases q <;> simp [e])
        clear HT F hz RE
        cases z <;> cases q
        all_goals go_wp2_with fail
        all_goals go_ret
        all_goals exact ⟨by rw [FIN.out]; rfl, BQ.out⟩
end Go.Proofs.YtppnkkpjfjhfkaaDoor.WinR

/- The document's window: the contracts of Check, Accept. -/
set_option linter.unusedVariables false
namespace Go.Proofs.YtppnkkpjfjhfkaaDoor.WinA
open Go.RowKit Go.Proofs.YtppnkkpjfjhfkaaDoor.Sums Go.Proofs.YtppnkkpjfjhfkaaDoor.Mem Go.Proofs.YtppnkkpjfjhfkaaDoor.Blk Go.Proofs.YtppnkkpjfjhfkaaDoor.Longs Go.Proofs.YtppnkkpjfjhfkaaDoor.WinD Go.Proofs.YtppnkkpjfjhfkaaDoor.WinR

theorem check_ref (base g : Nat) (v : Value) (S : Nat) (wd : Bool) (l : List Nat) (n : Nat) (w : World) (h : Win w base g v S wd l) (hn : n < Q64) :
    Calls Tryd.prog 49 #[.pointer (some ⟨g, 0, none⟩), .int .u64 (n : Int)] w fun e w' => e = .returned (.int .i64 ((chk S wd l n : Nat) : Int)) ∧ Below w.heap.size w w' := by
  by_cases hb : wd = false ∧ 4294967295 < n
  · have E : Hid (chk S wd l n = 1) := Lib.hid (if_pos hb)
    obtain ⟨rfl, hg⟩ := hb
    have c1 := h.wide
    have g2 : decide ((4294967295 : Int) < (n : Int)) = true := decide_eq_true (by omega)
    clear h
    go_enter Tryd.func49, Tryd.ntmps49
    go_wp2_with fail
    go_ret
    exact ⟨by rw [E.out]; rfl, Below.refl _ _⟩
  · have E : chk S wd l n = if n = 0 ∨ old S l n = true then 120 else 0 := if_neg hb
    rw [E]
    exact check_in base g v S wd l n w h hn hb

/-- But for the block g and the row's block r all that was is as it was. -/
structure But (g : Nat) (r : Option Nat) (w w' : World) : Prop where
  os : w'.os = w.os
  tape : w'.tape = w.tape
  output : w'.output = w.output
  size : w.heap.size ≤ w'.heap.size
  block : ∀ k, k < w.heap.size → k ≠ g → some k ≠ r → w'.heap[k]? = w.heap[k]?
theorem But.of_below {g : Nat} {r : Option Nat} {w w' : World} (h : Below w.heap.size w w') : But g r w w' := ⟨h.os, h.tape, h.output, h.size, fun k hk _ _ => h.block k hk⟩
theorem grown_set (w : World) (g o : Nat) (u : Value) : w.grownBy (w.setCell ⟨g, o, none⟩ u) (some g) :=
  ⟨rfl, rfl, rfl, by simp, fun k hk hne => Below.heap_setCell w ⟨g, o, none⟩ u k (fun e => hne (by rw [e]))⟩

set_option maxHeartbeats 1000000 in
theorem accept_ref (base g : Nat) (v : Value) (S : Nat) (wd : Bool) (l : List Nat) (n : Nat) (w : World) (h : Win w base g v S wd l) (hn : n < Q64) (hl : l.length < 1000000) (hB : base ≤ w.heap.size) :
    Calls Tryd.prog 50 #[.pointer (some ⟨g, 0, none⟩), .int .u64 (n : Int)] w fun e w' => e = .returned (.int .i64 ((chk S wd l n : Nat) : Int)) ∧ But g v.ownBlock w w' ∧
      ∃ v', Win w' base g v' S wd (acc S wd l n) ∧ (v'.ownBlock = v.ownBlock ∨ ∃ k, v'.ownBlock = some k ∧ w.heap.size ≤ k) := by
  have C := Lib.hid (check_ref base g v S wd l n w h hn)
  have HN := Lib.hid hn
  have AC : Hid (acc S wd l n = if chk S wd l n = 0 then l ++ [n] else l) := Lib.hid rfl
  obtain ⟨L2, hL2⟩ : ∃ L2, L2 = acc S wd l n := ⟨_, rfl⟩
  obtain ⟨r, hr0⟩ : ∃ r, r = chk S wd l n := ⟨_, rfl⟩
  rw [← hL2, ← hr0] at AC ⊢
  rw [← hr0] at C
  obtain ⟨A, c, rfl, _⟩ := h.shape
  obtain ⟨N, hN⟩ : ∃ N, N = l.length := ⟨_, rfl⟩
  rw [← hN] at h hl ⊢
  have H := Lib.hid h
  have HL := Lib.hid hl
  have NL := Lib.hid hN
  clear h hn hl hL2 hr0 hN
  go_enter Tryd.func50, Tryd.ntmps50
  go_wp2_with fail
  refine C.out.mono ?_
  rintro e w1 ⟨rfl, hb⟩
  have H1 := Lib.hid (H.out.up hb)
  have BU := Lib.hid (But.of_below (g := g) (r := (Value.slice A N c).ownBlock) hb)
  have SZ := hb.size
  clear hb C H
  by_cases hr : r = 0
  · subst hr
    have E : L2 = l ++ [n] := AC.out
    subst E
    clear AC
    have c2 := H1.out.row
    go_wp2_with (at_builtin
                 refine wpList_append_long rfl (.tmp 15) (.tmp 17) rfl base (.slice A N c) l rfl (H1.out.own.alloc _) w1.heap.size 1 [n] rfl (fun i hi => ?_) (Nat.lt_succ_self 0) (by have := HL.out; have := NL.out; show l.length + 1 ≤ 1048576; omega) (by simp; omega) ?_
                 · obtain rfl : i = 0 := by simpa using hi
                   exact Blk.cell (Blk.new w1 _ _) 0
                 intro g2 cap w2 o2 gr2 at2 lt2
                 have K2 : Blk w2 g 89 (wcells S wd (.slice A N c)) := Blk.grown (Blk.alloc H1.out.blk _) gr2 (fun e => H1.out.ne e.symm)
                 have c9 := Blk.cell K2 2
                 have f9 := Blk.frozen K2 2
                 have O2 : Hid (QOwn w2 base (.slice (some ⟨g2, 0, none⟩) (l.length + 1) cap) (l ++ [n])) := Lib.hid (by
                   have q := o2
                   rw [List.length_append] at q
                   exact q)
                 have R2 := Lib.hid gr2
                 have A2 := Lib.hid at2
                 have KK := Lib.hid K2
                 clear o2 gr2 at2 K2)
    go_ret
    have gl : g < w1.heap.size := Blk.lt H1.out.blk
    have hs : (w1.alloc (.cells #[.int .u64 (n : Int)] 30)).heap.size = w1.heap.size + 1 := by simp
    have ng : g2 ≠ g := by
      rcases A2.out with q | q
      · intro e; exact H1.out.ne (by rw [q, e])
      · rw [hs] at q; omega
    refine ⟨rfl, ?_, _, ⟨Blk.put KK.out 2 _, O2.out.kept (grown_set w2 g 2 _) (.inr (fun e => ng (by injection e))), fun e => ng (by injection e), ?_, ?_, H1.out.sz⟩, ?_⟩
    · refine ⟨R2.out.os.trans BU.out.os, R2.out.tape.trans BU.out.tape, R2.out.output.trans BU.out.output, ?_, fun k hk hkg hkr => ?_⟩
      · have := R2.out.size
        rw [hs] at this
        simp
        omega
      · refine (Below.heap_setCell w2 ⟨g, 2, none⟩ _ k hkg).trans ?_
        refine (R2.out.block k (by rw [hs]; omega) hkr).trans ?_
        exact (Below.heap_alloc w1 _ k (by omega)).trans (BU.out.block k hk hkg hkr)
    · intro x hx
      rcases List.mem_append.1 hx with q | q
      · exact H1.out.lt x q
      · rw [List.mem_singleton.1 q]; exact HN.out
    · have := HL.out
      have := NL.out
      simp
      omega
    · rcases A2.out with q | q
      · exact .inl q.symm
      · exact .inr ⟨g2, rfl, by rw [hs] at q; omega⟩
  · have E : L2 = l := by rw [AC.out, if_neg hr]
    subst E
    have g1 : ((r : Int) == 0) = false := by rw [beq_eq_false_iff_ne]; omega
    clear AC
    go_wp2_with fail
    go_ret
    exact ⟨rfl, BU.out, _, H1.out, .inl rfl⟩
end Go.Proofs.YtppnkkpjfjhfkaaDoor.WinA

