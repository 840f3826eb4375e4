/- The code's window: the contracts of old, high, Infer, Check. -/
import Derived.Test.YtppnkkpjfjhfkaaDoorM22
set_option linter.unusedVariables false
namespace Go.Proofs.YtppnkkpjfjhfkaaDoor.Rng2
open Go.RowKit Go.Proofs.YtppnkkpjfjhfkaaDoor.Sums Go.Proofs.YtppnkkpjfjhfkaaDoor.Mem Go.Proofs.YtppnkkpjfjhfkaaDoor.Blk Go.Proofs.YtppnkkpjfjhfkaaDoor.Longs Go.Proofs.YtppnkkpjfjhfkaaDoor.WinD Go.Proofs.YtppnkkpjfjhfkaaDoor.WinA Go.Proofs.YtppnkkpjfjhfkaaDoor.RngD Go.Proofs.YtppnkkpjfjhfkaaDoor.Rng1

section
attribute [local irreducible] wpQuiet
set_option maxHeartbeats 1000000 in
theorem old_c (g gr S : Nat) (wd : Bool) (T : Nat) (r : List Bool) (n : Nat) (w : World) (h : Cw w g gr S wd T r) (hn : n < Q64) : Calls Tryd.prog 59 #[.pointer (some ⟨g, 0, none⟩), .int .u64 (n : Int)] w fun e w' => e = .returned (.bool (oldc S T r n)) ∧ Below w.heap.size w w' := by
  have c1 := h.c1
  have tq := h.tq
  obtain ⟨b, hb⟩ : ∃ b, b = oldc S T r n := ⟨_, rfl⟩
  rw [← hb]
  by_cases h1 : T < n
  · have E : Hid (b = false) := Lib.hid (by rw [hb]; unfold oldc; rw [decide_eq_true h1]; rfl)
    have g1 : decide (T < n) = true := decide_eq_true h1
    clear hb h tq
    go_enter Tryd.func59, Tryd.ntmps59
    go_wp2_with fail
    go_ret
    exact ⟨by rw [E.out]; rfl, Below.refl _ _⟩
  · have g1 : decide (T < n) = false := decide_eq_false h1
    have PL : Hid (∀ q, Calls Tryd.prog 56 #[.pointer (some ⟨g, 0, none⟩), .int .u64 (n : Int)] (w.drewN q) fun e w' => e = .returned (.int .i64 ((n % S : Nat) : Int)) ∧ w' = w.drewN q) := Lib.hid fun q => (place_c g gr S wd T r n _ (h.drewN q) hn).mono fun _ _ z => ⟨z.1, z.2.symm⟩
    have c2 := h.c2
    have sb := h.hi
    have sl := h.lo
    have il := Nat.mod_lt n (show 0 < S by omega)
    have c3 := h.at_ il
    unfold Q64 at hn tq
    have f2 : IntKind.u64.wrap (S : Int) = (S : Int) := IntWalk.u64_in _ (by omega)
    obtain ⟨d, hd⟩ : ∃ d, d = T - n := ⟨_, rfl⟩
    have f1 : IntKind.u64.wrap ((T : Int) - (n : Int)) = (d : Int) := by rw [IntWalk.u64_in _ (by omega)]; omega
    obtain ⟨a, ha⟩ : ∃ a, a = decide (S ≤ d) := ⟨_, rfl⟩
    have g2 := ha.symm
    have E : Hid (b = (a || r.getD (n % S) false)) := Lib.hid (by rw [hb, ha, hd]; unfold oldc; rw [g1]; rfl)
    generalize r.getD (n % S) false = z at *
    generalize n % S = i at *
    clear hb h ha hd tq hn
    have BQ := Lib.hid fun q => below_drewN (Below.refl w.heap.size w) q
    go_enter Tryd.func59, Tryd.ntmps59
    cases a
    all_goals go_wp2_with fail
    all_goals go_quiet (first | with_reducible exact Calls.quiet_of_same (PL.out _))
    all_goals go_wp2_with fail
    all_goals go_ret
    all_goals exact ⟨by rw [E.out]; first | rfl | (cases z <;> rfl), BQ.out _⟩
end

/-- What Infer answers: T the top. -/
def infT (S : Nat) (wd : Bool) (T : Nat) (low : Int) : Nat × Nat :=
  if low < 0 ∨ 4294967295 < low then (0, 1) else if wd = false then (low.toNat, 0)
  else if hi S T low.toNat < 0 ∨ 4294967295 < hi S T low.toNat then (0, 120) else (4294967296 * (hi S T low.toNat).toNat + low.toNat, 0)
theorem inf_eq (S : Nat) (wd : Bool) (l : List Nat) (low : Int) : inf S wd l low = infT S wd (top l) low := rfl
theorem hi_bounds {S T low : Nat} (h : T < Q64) : -1 ≤ hi S T low ∧ hi S T low ≤ 4294967296 := by
  unfold Q64 at h
  unfold hi
  split <;> split <;> omega

set_option maxHeartbeats 1000000 in
theorem high_c (g gr S : Nat) (wd : Bool) (T : Nat) (r : List Bool) (low : Nat) (w : World) (h : Cw w g gr S wd T r) (hl : low ≤ 4294967295) : Calls Tryd.prog 58 #[.pointer (some ⟨g, 0, none⟩), .int .i64 (low : Int)] w fun e w' => e = .returned (.int .i64 (hi S T low)) ∧ Below w.heap.size w w' := by
  have c1 := h.c1
  have c2 := h.c2
  have tq := h.tq
  have sb := h.hi
  have sl := h.lo
  clear h
  obtain ⟨X, hX⟩ : ∃ X, X = hi S T low := ⟨_, rfl⟩
  rw [← hX]
  unfold hi at hX
  unfold Q64 at tq
  obtain ⟨a, ha⟩ : ∃ a : Int, a = ((T % 4294967296 : Nat) : Int) := ⟨_, rfl⟩
  obtain ⟨b, hb⟩ : ∃ b : Int, b = ((T / 4294967296 : Nat) : Int) := ⟨_, rfl⟩
  rw [← ha, ← hb] at hX
  have ta : ((T : Int)).tmod 4294967296 = a := by rw [Int.tmod_eq_emod_of_nonneg (by omega)]; omega
  have tb : ((T : Int)).tdiv 4294967296 = b := by rw [Int.tdiv_eq_ediv_of_nonneg (by omega)]; omega
  have a0 : 0 ≤ a := by omega
  have a1 : a ≤ 4294967295 := by omega
  have b0 : 0 ≤ b := by omega
  have b1 : b ≤ 4294967295 := by omega
  clear ha hb tq
  have u1 : IntKind.u64.wrap a = a := IntWalk.u64_in _ (by omega)
  have u2 : IntKind.u64.wrap b = b := IntWalk.u64_in _ (by omega)
  have i1 : IntKind.i64.wrap a = a := IntWalk.i64_in _ (by omega)
  have i2 : IntKind.i64.wrap b = b := IntWalk.i64_in _ (by omega)
  obtain ⟨p, hp⟩ : ∃ p : Int, p = (S : Int) - 1 := ⟨_, rfl⟩
  have f1 : IntKind.i64.wrap ((S : Int) - 1) = p := by rw [IntWalk.i64_in _ (by omega), hp]
  obtain ⟨d1, hd1⟩ : ∃ d, d = a - p := ⟨_, rfl⟩
  have f2 : IntKind.i64.wrap (a - p) = d1 := by rw [IntWalk.i64_in _ (by omega), hd1]
  obtain ⟨e1, he1⟩ : ∃ d, d = 4294967296 + a := ⟨_, rfl⟩
  have f3 : IntKind.i64.wrap (4294967296 + a) = e1 := by rw [IntWalk.i64_in _ (by omega), he1]
  obtain ⟨e2, he2⟩ : ∃ d, d = e1 - p := ⟨_, rfl⟩
  have f4 : IntKind.i64.wrap (e1 - p) = e2 := by rw [IntWalk.i64_in _ (by omega), he2]
  obtain ⟨bp, hbp⟩ : ∃ d, d = b + 1 := ⟨_, rfl⟩
  obtain ⟨bm, hbm⟩ : ∃ d, d = b - 1 := ⟨_, rfl⟩
  have f9 : IntKind.i64.wrap (b + 1) = bp := by rw [IntWalk.i64_in _ (by omega), hbp]
  have f11 : IntKind.i64.wrap (b - 1) = bm := by rw [IntWalk.i64_in _ (by omega), hbm]
  have XE : Hid (X = if (low : Int) < d1 then bp else if e2 ≤ (low : Int) then bm else b) := Lib.hid (by
    rw [hX]
    repeat (split)
    all_goals omega)
  clear hX hp hd1 he1 he2 hbp hbm a0 a1 b0 b1 sl sb hl
  obtain ⟨L, hL⟩ : ∃ L : Int, L = (low : Int) := ⟨_, rfl⟩
  rw [← hL] at XE ⊢
  clear hL
  have BQ := Lib.hid fun q => below_drewN (Below.refl w.heap.size w) q
  go_enter Tryd.func58, Tryd.ntmps58
  by_cases k1 : L < d1
  · have g1 : decide (L < d1) = true := decide_eq_true k1
    have E : Hid (X = bp) := Lib.hid (by rw [XE.out, if_pos k1])
    clear XE
    go_wp2_with fail
    go_quiet (fail)
    go_wp2_with fail
    go_ret
    exact ⟨by rw [E.out]; rfl, BQ.out _⟩
  · have g1 : decide (L < d1) = false := decide_eq_false k1
    by_cases k2 : e2 ≤ L
    · have g2 : decide (e2 ≤ L) = true := decide_eq_true k2
      have E : Hid (X = bm) := Lib.hid (by rw [XE.out, if_neg k1, if_pos k2])
      clear XE
      go_wp2_with fail
      go_quiet (fail)
      go_wp2_with fail
      go_ret
      exact ⟨by rw [E.out]; rfl, BQ.out _⟩
    · have g2 : decide (e2 ≤ L) = false := decide_eq_false k2
      have E : Hid (X = b) := Lib.hid (by rw [XE.out, if_neg k1, if_neg k2])
      clear XE
      go_wp2_with fail
      go_quiet (fail)
      go_wp2_with fail
      go_ret
      exact ⟨by rw [E.out]; rfl, BQ.out _⟩

theorem infer_nil (low : Int) (w : World) : Calls Tryd.prog 43 #[.pointer none, .int .i64 low] w fun e w' => e = .returned (.tuple #[.int .u64 0, .int .i64 3]) ∧ w = w' := by
  go_enter Tryd.func43, Tryd.ntmps43
  go_wp2_with fail
  go_ret2
  exact ⟨rfl, rfl⟩
set_option maxHeartbeats 1000000 in
theorem infer_c (g gr S : Nat) (wd : Bool) (T : Nat) (r : List Bool) (low : Int) (w : World) (h : Cw w g gr S wd T r) : Calls Tryd.prog 43 #[.pointer (some ⟨g, 0, none⟩), .int .i64 low] w fun e w' => e = .returned (.tuple #[.int .u64 (((infT S wd T low).1 : Nat) : Int), .int .i64 (((infT S wd T low).2 : Nat) : Int)]) ∧ Below w.heap.size w w' := by
  have c0 := h.c0
  obtain ⟨a, ha⟩ : ∃ a, a = infT S wd T low := ⟨_, rfl⟩
  rw [← ha]
  by_cases hL : low < 0 ∨ 4294967295 < low
  · have E : Hid (a = (0, 1)) := Lib.hid (by rw [ha]; exact if_pos hL)
    clear ha h c0
    go_enter Tryd.func43, Tryd.ntmps43
    rcases hL with q | q
    · have g1 : decide (low < 0) = true := decide_eq_true q
      go_wp2_with fail
      go_ret2
      exact ⟨by rw [E.out]; rfl, Below.refl _ _⟩
    · have g1 : decide (low < 0) = false := decide_eq_false (by omega)
      have g2 : decide (4294967296 ≤ low) = true := decide_eq_true (by omega)
      go_wp2_with fail
      go_ret2
      exact ⟨by rw [E.out]; rfl, Below.refl _ _⟩
  have l0 : 0 ≤ low := by omega
  have l1 : low ≤ 4294967295 := by omega
  have g1 : decide (low < 0) = false := decide_eq_false (by omega)
  have g2 : decide (4294967296 ≤ low) = false := decide_eq_false (by omega)
  have fl : IntKind.u64.wrap low = low := IntWalk.u64_in _ (by omega)
  cases wd with
  | false =>
    have E : Hid (a = (low.toNat, 0)) := Lib.hid (by rw [ha]; unfold infT; rw [if_neg hL, if_pos rfl])
    have LT : Hid (((low.toNat : Nat) : Int) = low) := Lib.hid (by omega)
    clear ha hL h
    go_enter Tryd.func43, Tryd.ntmps43
    go_wp2_with fail
    go_ret2
    exact ⟨by rw [E.out]; show _ = Ending.returned (.tuple #[.int .u64 ((low.toNat : Nat) : Int), .int .i64 0]); rw [LT.out]; rfl, Below.refl _ _⟩
  | true =>
    have C := high_c g gr S true T r low.toNat w h (by omega)
    have LT : ((low.toNat : Nat) : Int) = low := by omega
    rw [LT] at C
    have XB := hi_bounds (S := S) (low := low.toNat) h.tq
    obtain ⟨X, hX⟩ : ∃ X, X = hi S T low.toNat := ⟨_, rfl⟩
    have RE : Hid (a = if X < 0 ∨ 4294967295 < X then (0, 120) else (4294967296 * X.toNat + low.toNat, 0)) := Lib.hid (by rw [ha, hX]; unfold infT; rw [if_neg hL, if_neg (by decide)])
    rw [← hX] at C XB
    replace C := Lib.hid C
    clear ha h hX hL
    go_enter Tryd.func43, Tryd.ntmps43
    go_wp2_with fail
    refine C.out.mono ?_
    rintro e w1 ⟨rfl, hb⟩
    have HB := Lib.hid hb
    clear C hb c0
    by_cases t0 : X < 0
    · have E : Hid (a = (0, 120)) := Lib.hid (by rw [RE.out, if_pos (Or.inl t0)])
      have k0 : decide (X < 0) = true := decide_eq_true t0
      clear RE
      go_wp2_with fail
      go_ret2
      exact ⟨by rw [E.out]; rfl, HB.out⟩
    have k0 : decide (X < 0) = false := decide_eq_false t0
    by_cases t1 : 4294967296 ≤ X
    · have E : Hid (a = (0, 120)) := Lib.hid (by rw [RE.out, if_pos (Or.inr (by omega))])
      have k1 : decide (4294967296 ≤ X) = true := decide_eq_true t1
      clear RE
      go_wp2_with fail
      go_ret2
      exact ⟨by rw [E.out]; rfl, HB.out⟩
    have k1 : decide (4294967296 ≤ X) = false := decide_eq_false t1
    have E : Hid (a = (4294967296 * X.toNat + low.toNat, 0)) := Lib.hid (by rw [RE.out, if_neg (by omega)])
    have v1 : IntKind.u64.wrap X = X := IntWalk.u64_in _ (by omega)
    obtain ⟨Y, hY⟩ : ∃ Y, Y = X * 4294967296 := ⟨_, rfl⟩
    have v2 : IntKind.u64.wrap (X * 4294967296) = Y := by rw [IntWalk.u64_in _ (by omega), hY]
    obtain ⟨Z, hZ⟩ : ∃ Z, Z = Y + low := ⟨_, rfl⟩
    have v3 : IntKind.u64.wrap (Y + low) = Z := by rw [IntWalk.u64_in _ (by omega), hZ]
    have ZE : Hid (Z = ((4294967296 * X.toNat + low.toNat : Nat) : Int)) := Lib.hid (by omega)
    clear RE hY hZ LT XB
    go_wp2_with fail
    go_ret2
    exact ⟨by rw [E.out]; show _ = Ending.returned (.tuple #[.int .u64 ((4294967296 * X.toNat + low.toNat : Nat) : Int), .int .i64 0]); rw [← ZE.out]; rfl, HB.out⟩

/-- What Check answers; o: is it old? -/
def chkT (wd : Bool) (n : Nat) (o : Bool) : Nat := if wd = false ∧ 4294967295 < n then 1 else if n = 0 ∨ o = true then 120 else 0
theorem chk_eq (S : Nat) (wd : Bool) (l : List Nat) (n : Nat) : chk S wd l n = chkT wd n (old S l n) := rfl
theorem check_nil (n : Nat) (w : World) : Calls Tryd.prog 44 #[.pointer none, .int .u64 (n : Int)] w fun e w' => e = .returned (.int .i64 3) ∧ w = w' := by
  go_enter Tryd.func44, Tryd.ntmps44
  go_wp2_with fail
  go_ret
  exact ⟨rfl, rfl⟩
set_option maxHeartbeats 1000000 in
theorem check_c (g gr S : Nat) (wd : Bool) (T : Nat) (r : List Bool) (n : Nat) (w : World) (h : Cw w g gr S wd T r) (hn : n < Q64) : Calls Tryd.prog 44 #[.pointer (some ⟨g, 0, none⟩), .int .u64 (n : Int)] w fun e w' => e = .returned (.int .i64 ((chkT wd n (oldc S T r n) : Nat) : Int)) ∧ Below w.heap.size w w' := by
  have c0 := h.c0
  have C := Lib.hid (old_c g gr S wd T r n w h hn)
  clear h hn
  generalize oldc S T r n = o at *
  obtain ⟨a, ha⟩ : ∃ a, a = chkT wd n o := ⟨_, rfl⟩
  rw [← ha]
  by_cases h1 : wd = false ∧ 4294967295 < n
  · have E : Hid (a = 1) := Lib.hid (by rw [ha]; exact if_pos h1)
    obtain ⟨rfl, h2⟩ := h1
    have g1 : decide ((4294967296 : Int) ≤ (n : Int)) = true := decide_eq_true (by omega)
    clear ha C
    go_enter Tryd.func44, Tryd.ntmps44
    go_wp2_with fail
    go_ret
    exact ⟨by rw [E.out]; rfl, Below.refl _ _⟩
  have RE : a = if n = 0 ∨ o = true then 120 else 0 := by rw [ha]; exact if_neg h1
  have g1 : wd = false → decide ((4294967296 : Int) ≤ (n : Int)) = false := fun q => decide_eq_false (fun z => h1 ⟨q, by omega⟩)
  clear ha h1
  by_cases h2 : n = 0
  · have E : Hid (a = 120) := Lib.hid (by rw [RE]; exact if_pos (.inl h2))
    have g2 : ((n : Int) == 0) = true := by subst h2; rfl
    clear RE C h2
    go_enter Tryd.func44, Tryd.ntmps44
    cases wd
    · replace g1 := g1 rfl
      go_wp2_with fail
      go_ret
      exact ⟨by rw [E.out]; rfl, Below.refl _ _⟩
    · clear g1
      go_wp2_with fail
      go_ret
      exact ⟨by rw [E.out]; rfl, Below.refl _ _⟩
  · have E : Hid (a = if o = true then 120 else 0) := Lib.hid (by
      rw [RE]
      cases o
      · rw [if_neg (by simp [h2])]; rfl
      · rw [if_pos (.inr rfl)]; rfl)
    have g2 : ((n : Int) == 0) = false := by rw [beq_eq_false_iff_ne]; omega
    clear RE h2
    go_enter Tryd.func44, Tryd.ntmps44
    cases wd <;> cases o
    all_goals first | (replace g1 := g1 rfl) | clear g1
    all_goals
      go_wp2_with fail
      refine C.out.mono ?_
      rintro e w1 ⟨rfl, hb⟩
      have HB := Lib.hid hb
      clear C hb c0
      go_wp2_with fail
      go_ret
      exact ⟨by rw [E.out]; rfl, HB.out⟩
end Go.Proofs.YtppnkkpjfjhfkaaDoor.Rng2

