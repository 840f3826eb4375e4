/- WindowInfers. -/
import Derived.Test.YtcfphpcakigekaaRngA
set_option linter.unusedVariables false
namespace Go.Proofs.Ytcfphpcakigekaa.LawInfers
open Go.RowKit Go.Proofs.Ytcfphpcakigekaa.Sums Go.Proofs.Ytcfphpcakigekaa.Mem Go.Proofs.Ytcfphpcakigekaa.Blk Go.Proofs.Ytcfphpcakigekaa.Longs Go.Proofs.Ytcfphpcakigekaa.WinD Go.Proofs.Ytcfphpcakigekaa.Rng1 Go.Proofs.Ytcfphpcakigekaa.Rng2 Go.Proofs.Ytcfphpcakigekaa.Rng4 Go.Proofs.Ytcfphpcakigekaa.RngU Go.Proofs.Ytcfphpcakigekaa.RngA

theorem chk_one (S T : Nat) (h : 0 < S) : chk S true [] T = if T = 0 then 120 else 0 := by
  rw [chk_eq]
  unfold chkT old left was
  have e : top [] = 0 := rfl
  rw [e, decide_eq_false (show ¬ S ≤ 0 by omega)]
  simp
theorem near {S T n : Nat} (h0 : 64 ≤ S) (h1 : S ≤ 1024) (hT : T < Q64) (hn : n < Q64) (hl : T < S ∨ T - S < n) (hh : n < T ∨ n - T < 4294967296 - S) : inf S true [T] ((n % 4294967296 : Nat) : Int) = (n, 0) := by
  have e : top [T] = T := by simp [top]
  unfold inf
  rw [e, if_neg (by omega), if_neg (by decide), Int.toNat_natCast]
  unfold Q64 at hT hn
  have E : hi S T (n % 4294967296) = ((n / 4294967296 : Nat) : Int) := by
    unfold hi
    split <;> split <;> omega
  rw [E, if_neg (by omega), Int.toNat_natCast]
  rw [Prod.mk.injEq]
  exact ⟨by omega, rfl⟩

set_option maxHeartbeats 1000000 in
theorem infers_any (a0 a1 a2 : Int) (W : World) (h1 : 0 ≤ a1 ∧ a1 ≤ 18446744073709551615) (h2 : 0 ≤ a2 ∧ a2 ≤ 18446744073709551615) : Calls Try.prog 5 #[.int .i64 a0, .int .u64 a1, .int .u64 a2] W fun e W' => e = .returned (.bool true) ∧ Below W.heap.size W W' := by
  obtain ⟨T, rfl⟩ : ∃ n : Nat, a1 = (n : Int) := ⟨a1.toNat, by omega⟩
  obtain ⟨n, rfl⟩ : ∃ n : Nat, a2 = (n : Int) := ⟨a2.toNat, by omega⟩
  have AW := Lib.hid awake_any
  have HT : Hid (T < Q64) := Lib.hid (by unfold Q64; omega)
  have HN : Hid (n < Q64) := Lib.hid (by unfold Q64; omega)
  by_cases hs : a0 < 64 ∨ 1024 < a0
  · have CN := Lib.hid (new_bad a0 true W hs)
    clear h1 h2 hs
    go_enter Try.func5, Try.ntmps5
    go_wp2_with fail
    refine CN.out.mono ?_
    rintro e w1 ⟨rfl, rfl⟩
    go_wp2_with fail
    refine (AW.out _).mono ?_
    rintro e w2 ⟨rfl, hb⟩
    go_wp2_with fail
    go_ret
    exact ⟨rfl, hb⟩
  obtain ⟨S, rfl⟩ : ∃ n : Nat, a0 = (n : Int) := ⟨a0.toNat, by omega⟩
  have sl : 64 ≤ S := by omega
  have sb : S ≤ 1024 := by omega
  have CN := Lib.hid (new_run (B := W.heap.size) (w0 := W) (w := W) S true (Nat.le_refl _) (Below.refl _ _) sl sb)
  have f1 : IntKind.u64.wrap (S : Int) = (S : Int) := IntWalk.u64_in _ (by omega)
  clear hs
  go_enter Try.func5, Try.ntmps5
  go_wp2_with fail
  refine CN.out.mono ?_
  rintro e w1 ⟨g, gr, rfl, h, _, _⟩
  have H1 := Lib.hid h
  clear CN h
  go_wp2_with fail
  have C1 := accept_run H1.out T HT.out
  rw [chk_one S T (by omega)] at C1
  by_cases hz : T = 0
  · rw [if_pos hz] at C1
    refine C1.mono ?_
    rintro e w2 ⟨rfl, h, _⟩
    have H2 := Lib.hid h
    clear C1 H1 h
    go_wp2_with fail
    refine (AW.out _).mono ?_
    rintro e w3 ⟨rfl, hb⟩
    have HB := Lib.hid (H2.out.bel.trans (hb.mono H2.out.size))
    clear hb
    go_wp2_with fail
    go_ret
    exact ⟨rfl, HB.out⟩
  rw [if_neg hz] at C1
  refine C1.mono ?_
  rintro e w2 ⟨rfl, h, _⟩
  have H2 : Hid (Run W.heap.size W w2 g gr S true [T]) := Lib.hid (by
    have := h
    unfold acc at this
    rw [chk_one S T (by omega), if_neg hz, if_pos rfl] at this
    exact this)
  clear C1 H1 h
  obtain ⟨m1, hm1⟩ : ∃ m : Nat, (m : Int) = IntKind.u64.wrap ((T : Int) - (S : Int)) := ⟨(IntKind.u64.wrap ((T : Int) - (S : Int))).toNat, by rw [IntKind.wrap_u64]; omega⟩
  obtain ⟨m2, hm2⟩ : ∃ m : Nat, (m : Int) = IntKind.u64.wrap ((n : Int) - (T : Int)) := ⟨(IntKind.u64.wrap ((n : Int) - (T : Int))).toNat, by rw [IntKind.wrap_u64]; omega⟩
  have v1 : S ≤ T → m1 = T - S := fun q => by
    rw [IntWalk.u64_in _ (by omega)] at hm1; omega
  have v2 : T ≤ n → m2 = n - T := fun q => by
    rw [IntWalk.u64_in _ (by omega)] at hm2; omega
  obtain ⟨K, hK⟩ : ∃ K : Nat, K = 4294967296 - S := ⟨_, rfl⟩
  have f4 : IntKind.u64.wrap (4294967296 - (S : Int)) = (K : Int) := by rw [IntWalk.u64_in _ (by omega)]; omega
  have f2 := hm1.symm
  have f3 := hm2.symm
  have m0 : ((n : Int)).tmod 4294967296 = ((n % 4294967296 : Nat) : Int) := by rw [Int.tmod_eq_emod_of_nonneg (by omega)]; rfl
  have NE : Hid (((S ≤ T ∧ n ≤ m1) ∨ (T ≤ n ∧ K ≤ m2)) ∨ inf S true [T] ((n % 4294967296 : Nat) : Int) = (n, 0)) := Lib.hid (by
    by_cases q : (S ≤ T ∧ n ≤ m1) ∨ (T ≤ n ∧ K ≤ m2)
    · exact .inl q
    · exact .inr (near sl sb HT.out HN.out (by
        by_cases z : S ≤ T
        · have := v1 z; omega
        · omega) (by
        by_cases z : T ≤ n
        · have := v2 z; omega
        · omega)))
  have lb : n % 4294967296 < 4294967296 := Nat.mod_lt _ (by omega)
  obtain ⟨lo, hlo⟩ : ∃ x, x = n % 4294967296 := ⟨_, rfl⟩
  rw [← hlo] at m0 NE lb
  have i1 : IntKind.i64.wrap (lo : Int) = (lo : Int) := IntWalk.i64_in _ (by omega)
  clear hm1 hm2 v1 v2 hK hlo h1 h2 hz
  obtain ⟨A, hA⟩ : ∃ A, decide (S ≤ T) = A := ⟨_, rfl⟩
  obtain ⟨B, hB⟩ : ∃ B, decide (n ≤ m1) = B := ⟨_, rfl⟩
  obtain ⟨C, hC⟩ : ∃ C, decide (T ≤ n) = C := ⟨_, rfl⟩
  obtain ⟨D, hD⟩ : ∃ D, decide (K ≤ m2) = D := ⟨_, rfl⟩
  have OUT : Hid (((A && B) || (C && D)) = true ∨ inf S true [T] (lo : Int) = (n, 0)) := Lib.hid (by
    rcases NE.out with (⟨x, y⟩ | ⟨x, y⟩) | x
    · left; rw [← hA, ← hB, decide_eq_true x, decide_eq_true y]; rfl
    · left; rw [← hC, ← hD, decide_eq_true x, decide_eq_true y]; cases A <;> cases B <;> rfl
    · exact .inr x)
  clear NE sl sb lb
  by_cases q : ((A && B) || (C && D)) = true
  · clear OUT
    cases A <;> cases B <;> cases C <;> cases D
    all_goals first | (exfalso; revert q; decide) | skip
    all_goals
      clear q
      go_wp2_with fail
      refine (AW.out _).mono ?_
      rintro e w3 ⟨rfl, hb⟩
      have HB := Lib.hid (H2.out.bel.trans (hb.mono H2.out.size))
      clear hb
      go_wp2_with fail
      go_ret
      exact ⟨rfl, HB.out⟩
  · have IN := OUT.out.resolve_left q
    have CI := infer_run H2.out (lo : Int)
    rw [IN] at CI
    replace CI := Lib.hid CI
    clear OUT IN
    cases A <;> cases B <;> cases C <;> cases D
    all_goals first | (exfalso; revert q; decide) | skip
    all_goals
      clear q
      go_wp2_with fail
      refine CI.out.mono ?_
      rintro e w3 ⟨rfl, h, _⟩
      have H3 := Lib.hid h
      clear h CI H2
      go_wp2_with fail
      refine (AW.out _).mono ?_
      rintro e w4 ⟨rfl, hb⟩
      have HB := Lib.hid (H3.out.bel.trans (hb.mono H3.out.size))
      clear hb
      go_wp2_with fail
      go_ret
      exact ⟨rfl, HB.out⟩
end Go.Proofs.Ytcfphpcakigekaa.LawInfers
