/- Contracts: Between, opening, mostUnits, size, within, misplaced, wellSized of the code; Between, in, ext of the document. -/
import Derived.Test.YtjfieoleoodfdaaPkt6
import Derived.Test.YtjfieoleoodfdaaErrno6
import Derived.Test.YtjfieoleoodfdaaLoads
import Derived.Lib.QuietBelow
import Derived.BigQuiet
set_option linter.unusedVariables false
namespace Go.Proofs.Ytjfieoleoodfdaa.Small6
open Go.RowKit Go.Sort Go.Proofs.Ytjfieoleoodfdaa.Sums Go.Proofs.Ytjfieoleoodfdaa.Mem Go.Proofs.Ytjfieoleoodfdaa.P6 Go.Proofs.Ytjfieoleoodfdaa.Blk

theorem between_code (k : Int) (w : World) : Calls Try.prog 13 #[.int .i64 k] w fun e w' => e = .returned (.bool (btw k)) ∧ w = w' := by
  have e : Hid (btw k = (k == 0 || k == 43 || k == 44 || k == 60)) := Lib.hid rfl
  by_cases h0 : k = 0
  · subst h0
    go_enter Try.func13, Try.ntmps13
    go_wp2
    go_ret
    exact ⟨rfl, rfl⟩
  by_cases h1 : k = 43
  · subst h1
    go_enter Try.func13, Try.ntmps13
    go_wp2
    go_ret
    exact ⟨rfl, rfl⟩
  by_cases h2 : k = 44
  · subst h2
    go_enter Try.func13, Try.ntmps13
    go_wp2
    go_ret
    exact ⟨rfl, rfl⟩
  by_cases h3 : k = 60
  · subst h3
    go_enter Try.func13, Try.ntmps13
    go_wp2
    go_ret
    exact ⟨rfl, rfl⟩
  have b0 : (k == 0) = false := beq_eq_false_iff_ne.2 h0
  have b1 : (k == 43) = false := beq_eq_false_iff_ne.2 h1
  have b2 : (k == 44) = false := beq_eq_false_iff_ne.2 h2
  have b3 : (k == 60) = false := beq_eq_false_iff_ne.2 h3
  have E : Hid (btw k = false) := Lib.hid (by rw [e.out, b0, b1, b2, b3]; rfl)
  go_enter Try.func13, Try.ntmps13
  go_wp2
  go_ret
  exact ⟨by rw [E.out]; rfl, rfl⟩

theorem between_ref (k : Int) (w : World) : Calls Try.prog 14 #[.int .i64 k] w fun e w' => e = .returned (.bool (btw k)) ∧ w = w' := by
  have e : Hid (btw k = (k == 0 || k == 43 || k == 44 || k == 60)) := Lib.hid rfl
  by_cases h0 : k = 0
  · subst h0
    go_enter Try.func14, Try.ntmps14
    go_wp2
    go_ret
    exact ⟨rfl, rfl⟩
  by_cases h1 : k = 43
  · subst h1
    go_enter Try.func14, Try.ntmps14
    go_wp2
    go_ret
    exact ⟨rfl, rfl⟩
  by_cases h2 : k = 44
  · subst h2
    go_enter Try.func14, Try.ntmps14
    go_wp2
    go_ret
    exact ⟨rfl, rfl⟩
  by_cases h3 : k = 60
  · subst h3
    go_enter Try.func14, Try.ntmps14
    go_wp2
    go_ret
    exact ⟨rfl, rfl⟩
  have b0 : (k == 0) = false := beq_eq_false_iff_ne.2 h0
  have b1 : (k == 43) = false := beq_eq_false_iff_ne.2 h1
  have b2 : (k == 44) = false := beq_eq_false_iff_ne.2 h2
  have b3 : (k == 60) = false := beq_eq_false_iff_ne.2 h3
  have E : Hid (btw k = false) := Lib.hid (by rw [e.out, b0, b1, b2, b3]; rfl)
  go_enter Try.func14, Try.ntmps14
  go_wp2
  go_ret
  exact ⟨by rw [E.out]; rfl, rfl⟩

theorem within_any (n m : Int) (w : World) : Calls Try.prog 36 #[.int .i64 n, .int .i64 m] w fun e w' => e = .returned (.bool (wi n m)) ∧ w = w' := by
  by_cases h : 0 ≤ n <;> by_cases k : n ≤ m
  all_goals
    have e : Hid (wi n m = (decide (0 ≤ n) && decide (n ≤ m))) := Lib.hid rfl
    go_enter Try.func36, Try.ntmps36
    go_wp2
    go_ret
    rw [e.out]
    simp [h, k]
theorem in_any (n m : Int) (w : World) : Calls Try.prog 23 #[.int .i64 n, .int .i64 m] w fun e w' => e = .returned (.bool (wi n m)) ∧ w = w' := by
  by_cases h : 0 ≤ n <;> by_cases k : n ≤ m
  all_goals
    have e : Hid (wi n m = (decide (0 ≤ n) && decide (n ≤ m))) := Lib.hid rfl
    go_enter Try.func23, Try.ntmps23
    go_wp2
    go_ret
    rw [e.out]
    simp [h, k]

theorem opening_any (k : Int) (w : World) : Calls Try.prog 34 #[.int .i64 k] w fun e w' => e = .returned (.int .i64 (opn k : Int)) ∧ w = w' := by
  by_cases h : k = 44
  · subst h
    go_enter Try.func34, Try.ntmps34
    go_wp2
    go_ret
    exact ⟨rfl, rfl⟩
  · have b : (k == 44) = false := beq_eq_false_iff_ne.2 h
    have E : Hid (opn k = 2) := Lib.hid (by unfold opn; rw [if_neg h])
    go_enter Try.func34, Try.ntmps34
    go_wp2
    go_ret
    exact ⟨by rw [E.out]; rfl, rfl⟩

/-- How many units there may be. -/
def most (k : Int) : Int := if k = 44 then 1 else 256
theorem most_any (k : Int) (w : World) : Calls Try.prog 44 #[.int .i64 k] w fun e w' => e = .returned (.int .i64 (most k)) ∧ w = w' := by
  by_cases h : k = 44
  · subst h
    go_enter Try.func44, Try.ntmps44
    go_wp2
    go_ret
    exact ⟨rfl, rfl⟩
  · have b : (k == 44) = false := beq_eq_false_iff_ne.2 h
    have E : Hid (most k = 256) := Lib.hid (by unfold most; rw [if_neg h])
    go_enter Try.func44, Try.ntmps44
    go_wp2
    go_ret
    exact ⟨by rw [E.out]; rfl, rfl⟩

def mis (k i : Int) : Bool := k == 0 && decide (0 < i)
theorem misplaced_any (k i : Int) (w : World) : Calls Try.prog 37 #[.int .i64 k, .int .i64 i] w fun e w' => e = .returned (.bool (mis k i)) ∧ w = w' := by
  have E : Hid (mis k i = (k == 0 && decide (0 < i))) := Lib.hid rfl
  by_cases h : k = 0
  · subst h
    by_cases h2 : 0 < i
    all_goals
      go_enter Try.func37, Try.ntmps37
      go_wp2
      go_ret
      exact ⟨by rw [E.out]; simp [h2], rfl⟩
  · have b : (k == 0) = false := beq_eq_false_iff_ne.2 h
    go_enter Try.func37, Try.ntmps37
    go_wp2
    go_ret
    exact ⟨by rw [E.out, b]; rfl, rfl⟩

theorem size_any (k : Int) (d : ByteArray) (w : World) (hd : d.size ≤ 140737488355328) : Calls Try.prog 22 #[.agg #[.int .i64 k, .string d]] w fun e w' => e = .returned (.int .i64 (sz (k, d) : Int)) ∧ Below w.heap.size w w' := by
  have O := opn_le k
  have B0 := Lib.hid ((Below.refl w.heap.size w).alloc (Nat.le_refl _) (.cells #[.int .i64 k, .string d] 43))
  have S : Hid ((sz (k, d) : Int) = (opn k : Int) + (d.size : Int)) := Lib.hid (by unfold sz; simp)
  have e1 : IntKind.i64.wrap ((opn k : Int) + (d.size : Int)) = (opn k : Int) + (d.size : Int) := IntWalk.i64_in _ (by omega)
  go_enter Try.func22, Try.ntmps22
  go_wp2_with fail
  go_quiet ((go_at_call 34; exact Calls.quiet_of_same ((opening_any _ _).mono fun _ _ h => ⟨h.1, h.2.symm⟩)))
  go_wp2_with fail
  go_ret
  exact ⟨by rw [S.out]; rfl, below_drewN B0.out _⟩

/-- Has it whole units, and a number of them that it may have? -/
def ws (x : Int × ByteArray) : Bool := decide (sz x % 8 = 0) && (decide (8 ≤ sz x) && decide ((sz x : Int) ≤ most x.1 * 8))
theorem fits_ws (x : Int × ByteArray) (i : Nat) : fits x (i == 0) = (btw x.1 && (!mis x.1 i && ws x)) := by
  obtain ⟨k, d⟩ := x
  unfold fits mis ws sz opn most
  simp only
  by_cases h : k = 44
  · subst h
    simp
    by_cases h7 : d.size = 7
    · simp [h7, btw]
    · have : (d.size == 7) = false := beq_eq_false_iff_ne.2 h7
      rw [this]
      by_cases a : (1 + d.size) % 8 = 0 <;> by_cases b : 8 ≤ 1 + d.size <;> by_cases c : (1 : Int) + (d.size : Int) ≤ 8 <;> simp [a, b, c] <;> omega
  · have e : (k == 44) = false := beq_eq_false_iff_ne.2 h
    rw [if_neg h, if_neg h, if_neg h]
    cases hb : btw k
    · simp
    · simp only [Bool.true_and]
      have A : ((i == 0) || (k != 0)) = !(k == 0 && decide (0 < (i : Int))) := by
        cases i with
        | zero => simp
        | succ j =>
          have : decide (0 < ((j + 1 : Nat) : Int)) = true := by rw [decide_eq_true_eq]; omega
          rw [this]
          cases h : (k == 0) <;> simp_all [bne]
      rw [A]
      congr 1
      rw [Bool.eq_iff_iff]
      simp only [Bool.and_eq_true, beq_iff_eq, decide_eq_true_eq]
      omega

theorem wellSized_any (k : Int) (d : ByteArray) (w : World) (hd : d.size ≤ 140737488355328) : Calls Try.prog 38 #[.agg #[.int .i64 k, .string d]] w fun e w' => e = .returned (.bool (ws (k, d))) ∧ Below w.heap.size w w' := by
  have O := opn_le k
  have S := Lib.hid (fun W => size_any k d W hd)
  have M := Lib.hid (fun W => (most_any k W).mono fun e w' (h : e = .returned (.int .i64 (most k)) ∧ W = w') => (⟨h.1, by rw [h.2]; exact Below.refl _ _⟩ : e = .returned (.int .i64 (most k)) ∧ Below W.heap.size W w'))
  have W0 : Hid (ws (k, d) = (decide (sz (k, d) % 8 = 0) && (decide (8 ≤ sz (k, d)) && decide ((sz (k, d) : Int) ≤ most k * 8)))) := Lib.hid rfl
  have m1 : most k = 1 ∨ most k = 256 := by unfold most; split <;> simp
  have s1 : sz (k, d) ≤ 140737488355330 := by unfold sz; simp only; omega
  have B0 := Lib.hid ((Below.refl w.heap.size w).alloc (Nat.le_refl _) (.cells #[.int .i64 k, .string d] 43))
  have c0 : (w.alloc (.cells #[.int .i64 k, .string d] 43)).cell? ⟨w.heap.size, 0, none⟩ = some (.int .i64 k) := by simp
  have c1 : (w.alloc (.cells #[.int .i64 k, .string d] 43)).cell? ⟨w.heap.size, 1, none⟩ = some (.string d) := by simp
  generalize hZ : sz (k, d) = Z at *
  generalize hM : most k = m at *
  have e1 : IntKind.i64.wrap (m * 8) = m * 8 := IntWalk.i64_in _ (by omega)
  have e2 : (Z : Int).tmod 8 = (Z : Int) % 8 := Int.tmod_eq_emod_of_nonneg (by omega)
  clear hZ hM
  by_cases q1 : Z % 8 = 0
  · have p1 : ((Z : Int) % 8 == 0) = true := by rw [beq_iff_eq]; omega
    by_cases q2 : 8 ≤ Z
    · have p2 : decide ((8 : Int) ≤ (Z : Int)) = true := by rw [decide_eq_true_eq]; omega
      go_enter Try.func38, Try.ntmps38
      go_wp2_with fail
      generalize w.alloc (.cells #[.int .i64 k, .string d] 43) = w0 at *
      have g0 := fun d' os => cell_regrown c0 d' os
      have g1 := fun d' os => cell_regrown c1 d' os
      refine wp_region_quiet_below (by kernel_rfl) (by kernel_rfl) ?_
      repeat (go_big_quiet_step (first | with_reducible exact Calls.regrown_of (S.out _) | with_reducible exact Calls.regrown_of (M.out _)))
      refine wpQuiet_nil ?_
      intro _ hw'
      obtain ⟨⟨dq, osq⟩, hw''⟩ := hw'
      subst hw''
      go_wp2_with fail
      go_ret
      exact ⟨by rw [W0.out]; simp [q1, q2], B0.out.trans ((below_regrown w0 dq osq).mono B0.out.size)⟩
    · have p2 : decide ((8 : Int) ≤ (Z : Int)) = false := by rw [decide_eq_false_iff_not]; omega
      go_enter Try.func38, Try.ntmps38
      go_wp2_with fail
      generalize w.alloc (.cells #[.int .i64 k, .string d] 43) = w0 at *
      have g0 := fun d' os => cell_regrown c0 d' os
      have g1 := fun d' os => cell_regrown c1 d' os
      refine wp_region_quiet_below (by kernel_rfl) (by kernel_rfl) ?_
      repeat (go_big_quiet_step (first | with_reducible exact Calls.regrown_of (S.out _) | with_reducible exact Calls.regrown_of (M.out _)))
      refine wpQuiet_nil ?_
      intro _ hw'
      obtain ⟨⟨dq, osq⟩, hw''⟩ := hw'
      subst hw''
      go_wp2_with fail
      go_ret
      exact ⟨by rw [W0.out]; simp [q1, q2], B0.out.trans ((below_regrown w0 dq osq).mono B0.out.size)⟩
  · have p1 : ((Z : Int) % 8 == 0) = false := by rw [beq_eq_false_iff_ne]; omega
    go_enter Try.func38, Try.ntmps38
    go_wp2_with fail
    generalize w.alloc (.cells #[.int .i64 k, .string d] 43) = w0 at *
    have g0 := fun d' os => cell_regrown c0 d' os
    have g1 := fun d' os => cell_regrown c1 d' os
    refine wp_region_quiet_below (by kernel_rfl) (by kernel_rfl) ?_
    repeat (go_big_quiet_step (first | with_reducible exact Calls.regrown_of (S.out _) | with_reducible exact Calls.regrown_of (M.out _)))
    refine wpQuiet_nil ?_
    intro _ hw'
    obtain ⟨⟨dq, osq⟩, hw''⟩ := hw'
    subst hw''
    go_wp2_with fail
    go_ret
    exact ⟨by rw [W0.out]; simp [q1], B0.out.trans ((below_regrown w0 dq osq).mono B0.out.size)⟩
end Go.Proofs.Ytjfieoleoodfdaa.Small6
