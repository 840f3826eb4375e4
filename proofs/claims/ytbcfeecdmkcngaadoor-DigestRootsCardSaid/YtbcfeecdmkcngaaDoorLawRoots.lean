/- The law of roots. -/
import Derived.Test.YtbcfeecdmkcngaaDoorRoot
import Derived.Test.YtbcfeecdmkcngaaDoorDigA
set_option linter.unusedVariables false
namespace Go.Proofs.YtbcfeecdmkcngaaDoor.LawRoots
open Go.RowKit Go.Proofs.YtbcfeecdmkcngaaDoor.Sums Go.Proofs.YtbcfeecdmkcngaaDoor.Mem Go.Proofs.YtbcfeecdmkcngaaDoor.ShaD Go.Proofs.YtbcfeecdmkcngaaDoor.ShaC Go.Proofs.YtbcfeecdmkcngaaDoor.ShaP Go.Proofs.YtbcfeecdmkcngaaDoor.Root Go.Proofs.YtbcfeecdmkcngaaDoor.Dig1 Go.Proofs.YtbcfeecdmkcngaaDoor.DigA

theorem kAt_in {n : Nat} (h : n < 72) : kAt (n : Int) = K.getD n 0 := by unfold kAt; rw [if_neg (by omega), Int.toNat_natCast]
theorem cn_step (k : Nat) : cn (k + 1) = cn k + (if isP (k + 2) then 1 else 0) := by rw [cn]
theorem rootB_true (wh c p : Nat) : rootB wh c p true = third (num wh c) p := by unfold rootB; rw [if_pos rfl]
theorem rootB_false (wh c p : Nat) : rootB wh c p false = second (num wh c) p := by unfold rootB; rw [if_neg (by decide)]
/-- Some whole number is the right one. -/
theorem found {at_ k : Nat} (h72 : at_ < 72) (hk : cn k = at_ % 64) (hp : isP (k + 2) = true) : ∃ w, w < 19 ∧ rootB (w + 1) (K.getD at_ 0) (k + 2) (decide (at_ < 64)) = true := by
  have kb : k < 310 := cn_bound (t := at_ % 64) (Nat.mod_lt _ (by decide)) (by rw [hk]; exact Nat.le_refl _)
  by_cases h : at_ < 64
  · have e : at_ % 64 = at_ := Nat.mod_eq_of_lt h
    have := roots_third ⟨k, kb⟩ hp
    obtain ⟨w, hw, hr⟩ := List.any_eq_true.1 this
    refine ⟨w, List.mem_range.1 hw, ?_⟩
    simp only at hr
    rw [hk, e] at hr
    rw [decide_eq_true h, rootB_true]
    exact hr
  · have e : 64 + cn k = at_ := by omega
    have c8 : cn k < 8 := by omega
    have k18 := cn_small c8
    have := roots_second ⟨k, by omega⟩ hp c8
    obtain ⟨w, hw, hr⟩ := List.any_eq_true.1 this
    refine ⟨w, List.mem_range.1 hw, ?_⟩
    simp only at hr
    rw [e] at hr
    rw [decide_eq_false h, rootB_false]
    exact hr

set_option maxHeartbeats 400000 in
theorem roots_any (a0 : Int) (W : World) (hT : Tab W) :
    Calls Tryd.prog 5 #[.int .i64 a0] W fun e w' => e = .returned (.bool true) ∧ Below W.heap.size W w' := by
  have AW := Lib.hid (awake_any W hT)
  have HT := Lib.hid hT
  clear hT
  by_cases h : a0 < 0 ∨ 71 < a0
  · have E : Hid (kAt a0 = 0) := Lib.hid (by unfold kAt; rw [if_pos h])
    rcases h with h | h
    · have g1 : decide (a0 < 0) = true := decide_eq_true h
      go_enter Tryd.func5, Tryd.ntmps5
      go_wp2_with fail
      refine AW.out.mono ?_
      rintro e w1 ⟨rfl, hb⟩
      have B1 := Lib.hid hb
      have C := Lib.hid (constant_no a0 w1 (HT.out.up hb))
      rw [E.out] at C
      clear hb
      go_wp2_with fail
      refine C.out.mono ?_
      rintro e w' ⟨rfl, rfl⟩
      go_wp2_with fail
      go_ret
      exact ⟨rfl, B1.out⟩
    · have g1 : decide (a0 < 0) = false := decide_eq_false (by omega)
      have g2 : decide (71 < a0) = true := decide_eq_true h
      go_enter Tryd.func5, Tryd.ntmps5
      go_wp2_with fail
      refine AW.out.mono ?_
      rintro e w1 ⟨rfl, hb⟩
      have B1 := Lib.hid hb
      have C := Lib.hid (constant_no a0 w1 (HT.out.up hb))
      rw [E.out] at C
      clear hb
      go_wp2_with fail
      refine C.out.mono ?_
      rintro e w' ⟨rfl, rfl⟩
      go_wp2_with fail
      go_ret
      exact ⟨rfl, B1.out⟩
  · obtain ⟨n, rfl⟩ : ∃ n : Nat, a0 = (n : Int) := ⟨a0.toNat, by omega⟩
    have hn : n < 72 := by omega
    have g1 : decide ((n : Int) < 0) = false := decide_eq_false (by omega)
    have g2 : decide ((71 : Int) < (n : Int)) = false := decide_eq_false (by omega)
    obtain ⟨t, ht⟩ : ∃ t, t = n % 64 := ⟨_, rfl⟩
    have HN := Lib.hid ht
    have t64 : t < 64 := by omega
    have e1 : (n : Int).tmod 64 = (t : Int) := by rw [Int.tmod_eq_emod_of_nonneg (by omega)]; omega
    clear h ht
    go_enter Tryd.func5, Tryd.ntmps5
    go_wp2_with fail
    clear g1 g2
    go_loopw [3, 4] (fun pv iv wr => ∃ k p0 i : Nat, pv = .int .i64 (p0 : Int) ∧ iv = .int .i64 (i : Int) ∧ Hid (p0 = k + 1) ∧ Hid (i = cn k) ∧ Hid (k = 0 ∨ cn (k - 1) ≤ t) ∧ Hid (Below W.heap.size W wr)) (fun pv _ _ => 1000 - (intOf pv).toNat)
    case atStart => exact ⟨0, 1, 0, rfl, rfl, Lib.hid rfl, Lib.hid rfl, Lib.hid (.inl rfl), Lib.hid (Below.refl _ _)⟩
    case round =>
      obtain ⟨k, p0, i, rfl, rfl, HP0, HI, HK, HW⟩ := hrel
      generalize wr = wo at *
      by_cases hlt : i ≤ t
      · have kb : k < 310 := cn_bound t64 (by rw [← HI.out]; exact hlt)
        obtain ⟨p, hp⟩ : ∃ p, p = k + 2 := ⟨_, rfl⟩
        have pk := HP0.out
        have f1 : IntKind.i64.wrap ((p0 : Int) + 1) = (p : Int) := by rw [IntWalk.i64_in _ (by omega)]; omega
        have gl : decide ((i : Int) ≤ (t : Int)) = true := decide_eq_true (by omega)
        have p4 : p < 400 := by omega
        have HP := Lib.hid hp
        have ib : i ≤ 64 := by omega
        have I20 : Hid (isgo p 20 2 true = isP (k + 2)) := Lib.hid (by rw [hp]; rfl)
        have CS := Lib.hid (cn_step k)
        have MS : Hid (1000 - p < 1000 - p0) := Lib.hid (by omega)
        obtain ⟨P, hP⟩ : ∃ P, P = isP (k + 2) := ⟨_, rfl⟩
        rw [← hP] at I20 CS
        have PE := Lib.hid hP
        clear hp hP kb pk
        go_wp2_with fail
        go_loopw [5, 6] (fun bv kv wr => ∃ (f q : Nat) (b : Bool), kv = .int .i64 (q : Int) ∧ bv = .bool b ∧ Hid (f + q = 22) ∧ Hid (2 ≤ q) ∧ Hid (isgo p f q b = P) ∧ Hid (Below W.heap.size W wr)) (fun _ kv _ => 400 - (intOf kv).toNat)
        case atStart => exact ⟨20, 2, true, rfl, rfl, Lib.hid rfl, Lib.hid (Nat.le_refl _), I20, HW⟩
        case round =>
          obtain ⟨f, q, b, rfl, rfl, HF, H2, HG, HW2⟩ := hrel
          have qb : q ≤ 22 := by have := HF.out; omega
          have q2 := H2.out
          obtain ⟨qq, hqq⟩ : ∃ qq, qq = q * q := ⟨_, rfl⟩
          have qqb : qq ≤ 484 := by rw [hqq]; exact Nat.le_trans (Nat.mul_le_mul qb qb) (by decide)
          have f2 : IntKind.i64.wrap ((q : Int) * (q : Int)) = (qq : Int) := by
            rw [show (q : Int) * (q : Int) = (qq : Int) by rw [hqq]; simp]
            exact IntWalk.i64_in _ (by omega)
          by_cases hle : qq ≤ p
          · have g3 : decide ((qq : Int) ≤ (p : Int)) = true := decide_eq_true (by omega)
            have q20 : q < 20 := root_small p4 (by rw [← hqq]; exact hle)
            obtain ⟨f', rfl⟩ : ∃ f', f = f' + 1 := ⟨f - 1, by have := HF.out; omega⟩
            have ST : Hid (isgo p f' (q + 1) (b && decide (p % q ≠ 0)) = P) := Lib.hid (by rw [← isgo_step (by rw [← hqq]; exact hle)]; exact HG.out)
            obtain ⟨m, hm⟩ : ∃ m, m = p % q := ⟨_, rfl⟩
            rw [← hm] at ST
            have f3 : (p : Int).tmod (q : Int) = (m : Int) := by rw [Int.tmod_eq_emod_of_nonneg (by omega), hm]; rfl
            have z1 : ((q : Int) == 0) = false := by rw [beq_eq_false_iff_ne]; omega
            have z2 : ¬ (q : Int) = 0 := by omega
            have HF2 : Hid (f' + (q + 1) = 22) := Lib.hid (by have := HF.out; omega)
            have H22 : Hid (2 ≤ q + 1) := Lib.hid (by omega)
            obtain ⟨q1, hq1⟩ : ∃ q1, q1 = q + 1 := ⟨_, rfl⟩
            have f4 : IntKind.i64.wrap ((q : Int) + 1) = (q1 : Int) := by rw [IntWalk.i64_in _ (by omega)]; omega
            rw [← hq1] at ST HF2 H22
            have MQ : Hid (400 - q1 < 400 - q) := Lib.hid (by omega)
            clear hq1
            cases b with
            | false =>
              have ST2 : Hid (isgo p f' q1 false = P) := Lib.hid (by have := ST.out; rwa [Bool.false_and] at this)
              clear hqq hm HG HF H2 ST
              go_wp2_with fail
              go_roundw
              case rel => exact ⟨f', q1, false, rfl, rfl, HF2, H22, ST2, HW2⟩
              case measure => have := MQ.out; simp [intOf]; omega
            | true =>
              by_cases hm0 : m = 0
              · have ST2 : Hid (isgo p f' q1 false = P) := Lib.hid (by have := ST.out; rwa [hm0, show (true && decide (0 ≠ 0)) = false from rfl] at this)
                have g4 : ((m : Int) != 0) = false := by rw [hm0]; rfl
                clear hqq hm HG HF H2 ST hm0
                go_wp2_with fail
                go_roundw
                case rel => exact ⟨f', q1, false, rfl, rfl, HF2, H22, ST2, HW2⟩
                case measure => have := MQ.out; simp [intOf]; omega
              · have ST2 : Hid (isgo p f' q1 true = P) := Lib.hid (by have := ST.out; rwa [decide_eq_true hm0, Bool.true_and] at this)
                have g4 : ((m : Int) != 0) = true := by rw [bne_iff_ne]; omega
                clear hqq hm HG HF H2 ST hm0
                go_wp2_with fail
                go_roundw
                case rel => exact ⟨f', q1, true, rfl, rfl, HF2, H22, ST2, HW2⟩
                case measure => have := MQ.out; simp [intOf]; omega
          · have g3 : decide ((qq : Int) ≤ (p : Int)) = false := decide_eq_false (by omega)
            have BP : Hid (b = P) := Lib.hid (by rw [← HG.out]; exact (isgo_stop (by rw [← hqq]; exact hle)).symm)
            have K2 : Hid (k + 1 = 0 ∨ cn (k + 1 - 1) ≤ t) := Lib.hid (.inr (by rw [Nat.add_sub_cancel, ← HI.out]; exact hlt))
            have PP : Hid (p = k + 1 + 1) := Lib.hid (by rw [HP.out])
            clear hqq HG HF H2
            cases b with
            | false =>
              have I2 : Hid (i = cn (k + 1)) := Lib.hid (by rw [CS.out, ← BP.out, ← HI.out]; simp)
              go_wp2_with fail
              go_roundw
              case rel => exact ⟨k + 1, p, i, rfl, rfl, PP, I2, K2, HW2⟩
              case measure => have := MS.out; simp [intOf]; omega
            | true =>
              obtain ⟨i1, hi1⟩ : ∃ i1, i1 = i + 1 := ⟨_, rfl⟩
              have I2 : Hid (i1 = cn (k + 1)) := Lib.hid (by rw [CS.out, ← BP.out, ← HI.out, hi1]; simp)
              have f5 : IntKind.i64.wrap ((i : Int) + 1) = (i1 : Int) := by rw [IntWalk.i64_in _ (by omega)]; omega
              clear hi1
              go_wp2_with fail
              go_roundw
              case rel => exact ⟨k + 1, p, i1, rfl, rfl, PP, I2, K2, HW2⟩
              case measure => have := MS.out; simp [intOf]; omega
      · have gl : decide ((i : Int) ≤ (t : Int)) = false := decide_eq_false (by omega)
        obtain ⟨k', rfl⟩ : ∃ k', k = k' + 1 := by
          cases k with
          | zero => have := HI.out; rw [show cn 0 = 0 from rfl] at this; omega
          | succ k' => exact ⟨k', rfl⟩
        have c1 : cn k' ≤ t := by
          rcases HK.out with q | q
          · omega
          · exact q
        have c2 : isP (k' + 2) = true ∧ cn k' = t := by
          have := HI.out
          rw [cn_step] at this
          cases hq : isP (k' + 2) with
          | true => rw [hq] at this; simp at this; exact ⟨rfl, by omega⟩
          | false => rw [hq] at this; simp at this; omega
        have kb : k' < 310 := cn_bound t64 c1
        have FD := Lib.hid (found hn (by rw [c2.2, HN.out]) c2.1)
        have C := Lib.hid (constant_no (n : Int) wo (HT.out.up HW.out))
        have cl := K_lt.get n
        unfold M at cl
        rw [kAt_in hn] at C
        generalize K.getD n 0 = c at *
        have pk := HP0.out
        rw [show k' + 2 = p0 by omega] at FD
        have pl : p0 < 1000 := by omega
        have g5 : decide ((c : Int) < 0) = false := decide_eq_false (by omega)
        have g6 : decide ((4294967295 : Int) < (c : Int)) = false := decide_eq_false (by omega)
        have g7 : decide ((n : Int) < 64) = decide (n < 64) := by
          by_cases q : n < 64
          · rw [decide_eq_true q, decide_eq_true (by omega)]
          · rw [decide_eq_false q, decide_eq_false (by omega)]
        obtain ⟨th, hth⟩ : ∃ th, th = decide (n < 64) := ⟨_, rfl⟩
        rw [← hth] at FD g7
        have RT := Lib.hid (fun (wh : Nat) (V : World) (hw : wh < 20) => root_ref wh c p0 th V hw cl pl)
        clear c1 c2 kb pk hth HK HI HP0
        go_wp2_with fail
        refine C.out.mono ?_
        rintro e w' ⟨rfl, rfl⟩
        go_wp2_with fail
        go_loopw [8] (fun kv wr => ∃ m m1 : Nat, kv = .int .i64 (m1 : Int) ∧ m ≤ 19 ∧ Hid (m1 = m + 1) ∧ Hid (∀ j, j < m → rootB (j + 1) c p0 th = false) ∧ Hid (Below W.heap.size W wr)) (fun kv _ => 100 - (intOf kv).toNat)
        case atStart => exact ⟨0, 1, rfl, by omega, Lib.hid rfl, Lib.hid (fun j hj => by omega), HW⟩
        case round =>
          obtain ⟨m, m1, rfl, hm, HM, HF, HB⟩ := hrel
          have m19 : m < 19 := by
            rcases Nat.lt_or_ge m 19 with q | q
            · exact q
            · exfalso
              obtain ⟨w, hw, hr⟩ := FD.out
              have := HF.out w (by omega)
              rw [hr] at this
              cases this
          have hm1 := HM.out
          have R := Lib.hid (RT.out m1 wr (by omega))
          have g8 : decide ((m1 : Int) < 20) = true := decide_eq_true (by omega)
          have HM1 := Lib.hid hm1
          clear hm1
          cases hr : rootB m1 c p0 th with
          | true =>
            rw [hr] at R
            go_wp2_with fail
            refine R.out.mono ?_
            rintro e w5 ⟨rfl, hb⟩
            have B5 := Lib.hid (HB.out.trans (hb.mono HB.out.size))
            have A5 := Lib.hid (awake_any w5 (HT.out.up B5.out))
            clear hb
            go_wp2_with fail
            refine A5.out.mono ?_
            rintro e w6 ⟨rfl, hb⟩
            have B6 := Lib.hid (B5.out.trans (hb.mono B5.out.size))
            clear hb
            go_wp2_with fail
            go_ret
            exact ⟨rfl, B6.out⟩
          | false =>
            rw [hr] at R
            have HF2 : Hid (∀ j, j < m + 1 → rootB (j + 1) c p0 th = false) := Lib.hid fun j hj => by
              rcases Nat.lt_or_ge j m with q | q
              · exact HF.out j q
              · obtain rfl : j = m := by omega
                rw [← HM1.out]; exact hr
            obtain ⟨m2, hm2⟩ : ∃ m2, m2 = m1 + 1 := ⟨_, rfl⟩
            have f6 : IntKind.i64.wrap ((m1 : Int) + 1) = (m2 : Int) := by have := HM1.out; rw [IntWalk.i64_in _ (by omega)]; omega
            have MM : Hid (100 - m2 < 100 - m1) := Lib.hid (by have := HM1.out; omega)
            have HM2 : Hid (m2 = m + 1 + 1) := Lib.hid (by have := HM1.out; omega)
            clear hm2
            go_wp2_with fail
            refine R.out.mono ?_
            rintro e w5 ⟨rfl, hb⟩
            have B5 := Lib.hid (HB.out.trans (hb.mono HB.out.size))
            clear hb
            go_wp2_with fail
            go_roundw
            case rel => exact ⟨m + 1, m2, rfl, by omega, HM2, HF2, B5⟩
            case measure => have := MM.out; simp [intOf]; omega
end Go.Proofs.YtbcfeecdmkcngaaDoor.LawRoots
