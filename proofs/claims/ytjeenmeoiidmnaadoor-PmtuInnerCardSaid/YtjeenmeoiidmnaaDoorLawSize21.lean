/- PmtuSizes and PmtuInner. -/
import Derived.Test.YtjeenmeoiidmnaaDoorPmtA
set_option linter.unusedVariables false
set_option maxRecDepth 100000
namespace Go.Proofs.YtjeenmeoiidmnaaDoor.LawSize21
open Go.RowKit Go.Proofs.YtjeenmeoiidmnaaDoor.Sums Go.Proofs.YtjeenmeoiidmnaaDoor.Mem Go.Proofs.YtjeenmeoiidmnaaDoor.Blk Go.Proofs.YtjeenmeoiidmnaaDoor.PmtM Go.Proofs.YtjeenmeoiidmnaaDoor.Pmt1 Go.Proofs.YtjeenmeoiidmnaaDoor.Pmt3 Go.Proofs.YtjeenmeoiidmnaaDoor.PmtA

theorem sizes_any (n : Int) (b t : Bool) (w : World) (hT : Tab w) : Calls Tryd.prog 4 #[.int .i64 n, .bool b, .bool t] w fun e w' => e = .returned (.bool true) ∧ Below w.heap.size w w' := by
  by_cases big : 100000 < n
  · have g : decide (100000 < n) = true := decide_eq_true big
    clear hT big
    go_enter Tryd.func4, Tryd.ntmps4
    go_wp2_with fail
    go_ret
    exact ⟨rfl, Below.refl _ _⟩
  · have g : decide (100000 < n) = false := decide_eq_false big
    have AW := Lib.hid (awake_any w hT)
    have TB : Hid (∀ V, Below w.heap.size w V → Tab V) := Lib.hid fun V k => hT.up k (Nat.le_refl _)
    have OC : Hid (∀ V, Below w.heap.size w V → Calls Tryd.prog 16 #[.int .i64 n, .bool b, .bool t] V fun e w' => e = .returned (.int .i64 (outer n b)) ∧ V = w') := Lib.hid fun V k => outer_c n b t (by omega) V (TB.out V k)
    have OR : Hid (∀ V, Calls Tryd.prog 17 #[.int .i64 n, .bool b, .bool t] V fun e w' => e = .returned (.int .i64 (outer n b)) ∧ V = w') := Lib.hid fun V => outer_r n b t (by omega) V
    have IC : Hid (∀ V, Below w.heap.size w V → Calls Tryd.prog 18 #[.int .i64 n, .bool b, .bool t] V fun e w' => e = .returned (.int .i64 (inner n b t)) ∧ Below V.heap.size V w') := Lib.hid fun V k => inner_c n b t V (by omega) (TB.out V k)
    have IR : Hid (∀ V, Calls Tryd.prog 19 #[.int .i64 n, .bool b, .bool t] V fun e w' => e = .returned (.int .i64 (inner n b t)) ∧ V = w') := Lib.hid fun V => inner_r n b t V (by omega)
    generalize outer n b = o at *
    generalize inner n b t = i at *
    have e1 : (o == o) = true := by simp
    have e2 : (i == i) = true := by simp
    clear hT big
    go_enter Tryd.func4, Tryd.ntmps4
    go_wp2_with fail
    refine AW.out.mono ?_
    rintro e w1 ⟨rfl, hb⟩
    have B1 := Lib.hid hb
    clear hb AW
    go_wp2_with fail
    refine (OC.out w1 B1.out).mono ?_
    rintro e w2 ⟨rfl, rfl⟩
    go_wp2_with fail
    refine (OR.out w1).mono ?_
    rintro e w2 ⟨rfl, rfl⟩
    go_wp2_with fail
    refine (IC.out w1 B1.out).mono ?_
    rintro e w3 ⟨rfl, hb⟩
    have B3 := Lib.hid (B1.out.trans (hb.mono B1.out.size))
    clear hb B1
    go_wp2_with fail
    refine (IR.out w3).mono ?_
    rintro e w4 ⟨rfl, rfl⟩
    go_wp2_with fail
    go_ret
    exact ⟨rfl, B3.out⟩
set_option maxHeartbeats 4000000 in
theorem inner_any (m : Int) (b t : Bool) (w : World) (hT : Tab w) : Calls Tryd.prog 6 #[.int .i64 m, .bool b, .bool t] w fun e w' => e = .returned (.bool true) ∧ Below w.heap.size w w' := by
  have AW : Hid (∀ V, Below w.heap.size w V → Calls Tryd.prog 15 #[] V fun e w' => e = .returned (.bool true) ∧ Below V.heap.size V w') := Lib.hid fun V k => awake_any V (hT.up k (Nat.le_refl _))
  by_cases big : 100000 < m
  · have g : decide (100000 < m) = true := decide_eq_true big
    clear hT big
    go_enter Tryd.func6, Tryd.ntmps6
    go_wp2_with fail
    refine (AW.out w (Below.refl _ _)).mono ?_
    rintro e w1 ⟨rfl, hb⟩
    go_wp2_with fail
    go_ret
    exact ⟨rfl, hb⟩
  have g : decide (100000 < m) = false := decide_eq_false big
  by_cases neg : m < 0
  · have g2 : decide (m < 0) = true := decide_eq_true neg
    clear hT big neg
    go_enter Tryd.func6, Tryd.ntmps6
    go_wp2_with fail
    refine (AW.out w (Below.refl _ _)).mono ?_
    rintro e w1 ⟨rfl, hb⟩
    go_wp2_with fail
    go_ret
    exact ⟨rfl, hb⟩
  have g2 : decide (m < 0) = false := decide_eq_false neg
  have IC := Lib.hid (inner_c m b t w (by omega) hT)
  have TB : Hid (∀ V, Below w.heap.size w V → Tab V) := Lib.hid fun V k => hT.up k (Nat.le_refl _)
  obtain ⟨h, hh⟩ : ∃ h, headI b = h := ⟨_, rfl⟩
  have hb20 : (b = true ∧ h = 40) ∨ (b = false ∧ h = 20) := by cases b <;> simp [headI] at hh <;> simp [hh]
  have tb := top_b (mtu := m) (b := b) (by omega)
  have HH := Lib.hid hh
  have OF : Hid (∀ n, 0 ≤ n → (h + plain n ≤ m ↔ n ≤ top m b)) := Lib.hid fun n hn => by
    have := @outer_fits n m b hn
    unfold outer at this
    rwa [if_neg (by omega), hh] at this
  have OC : Hid (∀ n V, 0 ≤ n → n ≤ 500001 → Below w.heap.size w V → Calls Tryd.prog 16 #[.int .i64 n, .bool b, .bool t] V fun e w' => e = .returned (.int .i64 (h + plain n)) ∧ V = w') := Lib.hid fun n V h0 h1 k => by
    have := outer_c n b t (by omega) V (TB.out V k)
    unfold outer at this
    rwa [if_neg (by omega), hh] at this
  have LC : Hid (∀ n V, 0 ≤ n → n ≤ 500001 → Calls Tryd.prog 20 #[.int .i64 n] V fun e w' => e = .returned (.int .i64 (plain n)) ∧ V = w') := Lib.hid fun n V h0 h1 => by
    have := length_c n (by omega) V
    unfold lengthI at this
    rwa [if_neg (by omega)] at this
  obtain ⟨T, hTT⟩ : ∃ T, top m b = T := ⟨_, rfl⟩
  rw [hTT] at OF tb
  have EI : Hid (inner m b t = if T < 0 then 0 else if t = true then T else T + h) := Lib.hid (by unfold inner; rw [hTT, hh])
  have PB : Hid (∀ n, 0 ≤ n → n ≤ 500001 → 0 ≤ plain n ∧ plain n ≤ 600000) := Lib.hid fun n h0 h1 => by unfold plain; omega
  have P0 := PB.out 0 (by omega) (by omega)
  have P1 := PB.out 1 (by omega) (by omega)
  clear hh hTT hT
  have O0 := Lib.hid (fun V (k : Below w.heap.size w V) => OC.out 0 V (by omega) (by omega) k)
  have L0 := Lib.hid (fun V => LC.out 0 V (by omega) (by omega))
  have L1 := Lib.hid (fun V => LC.out 1 V (by omega) (by omega))
  by_cases z : T < 0
  · rw [if_pos z] at EI
    rw [EI.out] at IC
    have g3 : h + plain 0 > m := by
      have := OF.out 0 (by omega)
      omega
    generalize plain 0 = p0 at *
    have f0 : IntKind.i64.wrap (h + p0) = h + p0 := IntWalk.i64_in _ (by omega)
    have e0 : (h + p0 == h + p0) = true := by simp
    have g4 : decide (m < h + p0) = true := decide_eq_true g3
    clear z g3 neg big tb P0 P1 OC OF EI PB LC TB
    rcases hb20 with ⟨rfl, rfl⟩ | ⟨rfl, rfl⟩
    all_goals
      go_enter Tryd.func6, Tryd.ntmps6
      go_wp2_with fail
      refine IC.out.mono ?_
      rintro e w1 ⟨rfl, hb⟩
      have B1 := Lib.hid hb
      clear hb IC
      go_wp2_with fail
      refine (AW.out w1 B1.out).mono ?_
      rintro e w2 ⟨rfl, hb⟩
      have B2 := Lib.hid (B1.out.trans (hb.mono B1.out.size))
      clear hb B1 AW
      go_wp2_with fail
      refine (O0.out w2 B2.out).mono ?_
      rintro e w3 ⟨rfl, rfl⟩
      go_wp2_with fail
      refine (L0.out w2).mono ?_
      rintro e w3 ⟨rfl, rfl⟩
      go_wp2_with fail
      refine (L0.out w2).mono ?_
      rintro e w3 ⟨rfl, rfl⟩
      go_wp2_with fail
      go_ret
      exact ⟨rfl, B2.out⟩
  · rw [if_neg z] at EI
    have TT := OF.out T (by omega)
    have TT1 := OF.out (T + 1) (by omega)
    have pT := PB.out T (by omega) (by omega)
    have pT1 := PB.out (T + 1) (by omega) (by omega)
    by_cases y : (if t = true then T else T + h) = 0
    · -- the one of no bytes, in tunnel mode
      have ty : t = true ∧ T = 0 := by
        cases t with
        | true => exact ⟨rfl, by simpa using y⟩
        | false =>
          simp at y
          omega
      obtain ⟨rfl, rfl⟩ := ty
      rw [if_pos rfl] at EI
      rw [EI.out] at IC
      have g3 : ¬ m < h + plain 0 := by omega
      have g5 : m < h + plain 1 := by
        have e : (0 : Int) + 1 = 1 := by omega
        rw [e] at TT1
        omega
      generalize plain 0 = p0 at *
      generalize plain 1 = p1 at *
      have f0 : IntKind.i64.wrap (h + p0) = h + p0 := IntWalk.i64_in _ (by omega)
      have f1 : IntKind.i64.wrap (h + p1) = h + p1 := IntWalk.i64_in _ (by omega)
      have e0 : (h + p0 == h + p0) = true := by simp
      have g4 : decide (m < h + p0) = false := decide_eq_false g3
      have g6 : decide (m < h + p1) = true := decide_eq_true g5
      clear z g3 g5 neg big tb P0 P1 OC OF EI PB LC TB TT TT1 pT pT1 y
      rcases hb20 with ⟨rfl, rfl⟩ | ⟨rfl, rfl⟩
      all_goals
        go_enter Tryd.func6, Tryd.ntmps6
        go_wp2_with fail
        refine IC.out.mono ?_
        rintro e w1 ⟨rfl, hb⟩
        have B1 := Lib.hid hb
        clear hb IC
        go_wp2_with fail
        refine (AW.out w1 B1.out).mono ?_
        rintro e w2 ⟨rfl, hb⟩
        have B2 := Lib.hid (B1.out.trans (hb.mono B1.out.size))
        clear hb B1 AW
        go_wp2_with fail
        refine (O0.out w2 B2.out).mono ?_
        rintro e w3 ⟨rfl, rfl⟩
        go_wp2_with fail
        refine (L0.out w2).mono ?_
        rintro e w3 ⟨rfl, rfl⟩
        go_wp2_with fail
        refine (L0.out w2).mono ?_
        rintro e w3 ⟨rfl, rfl⟩
        go_wp2_with fail
        refine (L1.out w2).mono ?_
        rintro e w3 ⟨rfl, rfl⟩
        go_wp2_with fail
        go_ret
        exact ⟨rfl, B2.out⟩
    · rw [EI.out] at IC
      have OT := Lib.hid (fun V (k : Below w.heap.size w V) => OC.out T V (by omega) (by omega) k)
      have LT := Lib.hid (fun V => LC.out T V (by omega) (by omega))
      have LT1 := Lib.hid (fun V => LC.out (T + 1) V (by omega) (by omega))
      have g3 : h + plain T ≤ m := TT.2 (Int.le_refl _)
      have g5 : m < h + plain (T + 1) := by
        rcases Int.lt_or_le m (h + plain (T + 1)) with q | q
        · exact q
        · have := TT1.1 q
          omega
      generalize plain T = p0 at *
      generalize plain (T + 1) = p1 at *
      have fT : IntKind.i64.wrap (T + 1) = T + 1 := IntWalk.i64_in _ (by omega)
      have fH : IntKind.i64.wrap (T + h - h) = T := by rw [IntWalk.i64_in _ (by omega)]; omega
      have fH2 : IntKind.i64.wrap T = T := IntWalk.i64_in _ (by omega)
      have f0 : IntKind.i64.wrap (h + p0) = h + p0 := IntWalk.i64_in _ (by omega)
      have f1 : IntKind.i64.wrap (h + p1) = h + p1 := IntWalk.i64_in _ (by omega)
      have e0 : (h + p0 == h + p0) = true := by simp
      have g4 : decide (h + p0 ≤ m) = true := decide_eq_true g3
      have g6 : decide (m < h + p1) = true := decide_eq_true g5
      have gT : decide (0 ≤ T) = true := decide_eq_true (by omega)
      have gy : ((if t = true then T else T + h) == 0) = false := by rw [beq_eq_false_iff_ne]; exact y
      clear z g3 g5 neg big tb P0 P1 OC OF EI PB LC TB TT TT1 pT pT1 y O0 L0 L1
      cases t
      all_goals simp only [if_true, if_false, Bool.false_eq_true] at gy IC
      all_goals rcases hb20 with ⟨rfl, rfl⟩ | ⟨rfl, rfl⟩
      all_goals
        go_enter Tryd.func6, Tryd.ntmps6
        go_wp2_with fail
        refine IC.out.mono ?_
        rintro e w1 ⟨rfl, hb⟩
        have B1 := Lib.hid hb
        clear hb IC
        go_wp2_with fail
        refine (AW.out w1 B1.out).mono ?_
        rintro e w2 ⟨rfl, hb⟩
        have B2 := Lib.hid (B1.out.trans (hb.mono B1.out.size))
        clear hb B1 AW
        go_wp2_with fail
        refine (LT.out w2).mono ?_
        rintro e w3 ⟨rfl, rfl⟩
        go_wp2_with fail
        refine (LT1.out w2).mono ?_
        rintro e w3 ⟨rfl, rfl⟩
        go_wp2_with fail
        refine (OT.out w2 B2.out).mono ?_
        rintro e w3 ⟨rfl, rfl⟩
        go_wp2_with fail
        refine (LT.out w2).mono ?_
        rintro e w3 ⟨rfl, rfl⟩
        go_wp2_with fail
        go_ret
        exact ⟨rfl, B2.out⟩
end Go.Proofs.YtjeenmeoiidmnaaDoor.LawSize21
