/- The law's own root. -/
import Derived.Test.YtbcfeecdmkcngaaDoorTimes
set_option linter.unusedVariables false
namespace Go.Proofs.YtbcfeecdmkcngaaDoor.Root
open Go.RowKit Go.Proofs.YtbcfeecdmkcngaaDoor.Sums Go.Proofs.YtbcfeecdmkcngaaDoor.Mem Go.Proofs.YtbcfeecdmkcngaaDoor.Blk Go.Proofs.YtbcfeecdmkcngaaDoor.Bits3 Go.Proofs.YtbcfeecdmkcngaaDoor.Ints Go.Proofs.YtbcfeecdmkcngaaDoor.ShaP Go.Proofs.YtbcfeecdmkcngaaDoor.ShaT Go.Proofs.YtbcfeecdmkcngaaDoor.ShaF Go.Proofs.YtbcfeecdmkcngaaDoor.Times

def rootB (wh c p : Nat) (th : Bool) : Bool := if th then third (num wh c) p else second (num wh c) p
theorem three (a b c : Nat) : val16 [a, b, c] = a + 65536 * b + 4294967296 * c := by simp only [val16]; omega
theorem cube_le {x : Nat} (h : x < 90194313216) : x * x * x / 79228162514264337593543950336 ≤ 9261 := by
  have h1 : x * x ≤ 90194313216 * 90194313216 := Nat.mul_le_mul (Nat.le_of_lt h) (Nat.le_of_lt h)
  have h2 : x * x * x ≤ 90194313216 * 90194313216 * 90194313216 := Nat.mul_le_mul h1 (Nat.le_of_lt h)
  have h3 := Nat.div_le_div_right (c := 79228162514264337593543950336) h2
  exact Nat.le_trans h3 (by decide)
theorem square_le {x : Nat} (h : x < 90194313216) : x * x / 18446744073709551616 ≤ 441 := by
  have h1 : x * x ≤ 90194313216 * 90194313216 := Nat.mul_le_mul (Nat.le_of_lt h) (Nat.le_of_lt h)
  have h3 := Nat.div_le_div_right (c := 18446744073709551616) h1
  exact Nat.le_trans h3 (by decide)

set_option maxHeartbeats 2000000 in
set_option maxRecDepth 100000 in
theorem root_ref (wh c p : Nat) (th : Bool) (w : World) (hw : wh < 20) (hc : c < 4294967296) (hp : p < 1000) :
    Calls Tryd.prog 18 #[.int .i64 (wh : Int), .int .i64 (c : Int), .int .i64 (p : Int), .bool th] w fun e w' => e = .returned (.bool (rootB wh c p th)) ∧ Below w.heap.size w w' := by
  obtain ⟨x0, hx0⟩ : ∃ x0, x0 = c % 65536 := ⟨_, rfl⟩
  obtain ⟨x1, hx1⟩ : ∃ x1, x1 = c / 65536 := ⟨_, rfl⟩
  obtain ⟨y0, hy0⟩ : ∃ y0, y0 = (c + 1) % 65536 := ⟨_, rfl⟩
  obtain ⟨y1, hy1⟩ : ∃ y1, y1 = (c + 1) / 65536 % 65536 := ⟨_, rfl⟩
  obtain ⟨y2, hy2⟩ : ∃ y2, y2 = wh + (c + 1) / 4294967296 := ⟨_, rfl⟩
  obtain ⟨X, hX⟩ : ∃ X, X = num wh c := ⟨_, rfl⟩
  have XV : Hid (val16 [x0, x1, wh] = X) := Lib.hid (by rw [three, hX, num]; omega)
  have YV : Hid (val16 [y0, y1, y2] = X + 1) := Lib.hid (by rw [three, hX, num]; omega)
  have XB : Hid (X < 90194313216 ∧ X + 1 < 90194313216) := Lib.hid (by rw [hX, num]; omega)
  have XS : Hid (∀ z ∈ [x0, x1, wh], z < 65536) := Lib.hid fun z hz => by simp at hz; omega
  have YS : Hid (∀ z ∈ [y0, y1, y2], z < 65536) := Lib.hid fun z hz => by simp at hz; omega
  obtain ⟨c1, hc1⟩ : ∃ c1, c1 = c + 1 := ⟨_, rfl⟩
  obtain ⟨d1, hd1⟩ : ∃ d1, d1 = c1 / 65536 := ⟨_, rfl⟩
  obtain ⟨d2, hd2⟩ : ∃ d2, d2 = c1 / 4294967296 := ⟨_, rfl⟩
  have e1 : (c : Int).tmod 65536 = (x0 : Int) := by rw [Int.tmod_eq_emod_of_nonneg (by omega)]; omega
  have e2 : (c : Int).tdiv 65536 = (x1 : Int) := by rw [Int.tdiv_eq_ediv_of_nonneg (by omega)]; omega
  have e3 : IntKind.i64.wrap ((c : Int) + 1) = (c1 : Int) := by rw [IntWalk.i64_in _ (by omega)]; omega
  have e4 : (c1 : Int).tmod 65536 = (y0 : Int) := by rw [Int.tmod_eq_emod_of_nonneg (by omega)]; omega
  have e5 : (c1 : Int).tdiv 65536 = (d1 : Int) := by rw [Int.tdiv_eq_ediv_of_nonneg (by omega)]; omega
  have e6 : (d1 : Int).tmod 65536 = (y1 : Int) := by rw [Int.tmod_eq_emod_of_nonneg (by omega)]; omega
  have e7 : (c1 : Int).tdiv 4294967296 = (d2 : Int) := by rw [Int.tdiv_eq_ediv_of_nonneg (by omega)]; omega
  have e8 : IntKind.i64.wrap ((wh : Int) + (d2 : Int)) = (y2 : Int) := by rw [IntWalk.i64_in _ (by omega)]; omega
  have e9 : IntKind.i64.wrap (x1 : Int) = (x1 : Int) := IntWalk.i64_in _ (by omega)
  have e10 : IntKind.i64.wrap (d1 : Int) = (d1 : Int) := IntWalk.i64_in _ (by omega)
  have e11 : IntKind.i64.wrap (d2 : Int) = (d2 : Int) := IntWalk.i64_in _ (by omega)
  have R1 : IRow (w.alloc (.cells #[.int .i64 (x0 : Int), .int .i64 (x1 : Int), .int .i64 (wh : Int)] 3)) w.heap.size [x0, x1, wh] := IRow.new w [x0, x1, wh]
  have s1 : (w.alloc (.cells #[.int .i64 (x0 : Int), .int .i64 (x1 : Int), .int .i64 (wh : Int)] 3)).heap.size = w.heap.size + 1 := by simp
  have R2 := IRow.new (w.alloc (.cells #[.int .i64 (x0 : Int), .int .i64 (x1 : Int), .int .i64 (wh : Int)] 3)) [y0, y1, y2]
  rw [s1] at R2
  have HX := Lib.hid (R1.alloc (.cells #[.int .i64 (y0 : Int), .int .i64 (y1 : Int), .int .i64 (y2 : Int)] 3))
  have HY : Hid (IRow ((w.alloc (.cells #[.int .i64 (x0 : Int), .int .i64 (x1 : Int), .int .i64 (wh : Int)] 3)).alloc (.cells #[.int .i64 (y0 : Int), .int .i64 (y1 : Int), .int .i64 (y2 : Int)] 3)) (w.heap.size + 1) [y0, y1, y2]) := Lib.hid R2
  have B0 := Lib.hid (((Below.refl w.heap.size w).alloc (Nat.le_refl _) (.cells #[.int .i64 (x0 : Int), .int .i64 (x1 : Int), .int .i64 (wh : Int)] 3)).alloc (by rw [s1]; omega) (.cells #[.int .i64 (y0 : Int), .int .i64 (y1 : Int), .int .i64 (y2 : Int)] 3))
  have XE := Lib.hid hX
  clear R1 R2 s1 hx0 hx1 hy0 hy1 hy2 hX hc1 hd1 hd2
  go_enter Tryd.func18, Tryd.ntmps18
  go_wp2_with fail
  clear e1 e2 e3 e4 e5 e6 e7 e8 e9 e10 e11
  generalize (w.alloc (.cells #[.int .i64 (x0 : Int), .int .i64 (x1 : Int), .int .i64 (wh : Int)] 3)).alloc (.cells #[.int .i64 (y0 : Int), .int .i64 (y1 : Int), .int .i64 (y2 : Int)] 3) = w2 at *
  refine (times_ref w.heap.size w.heap.size _ _ w2 HX.out HX.out 3 3 rfl rfl (by decide) (by decide) (by decide) XS.out XS.out).mono ?_
  rintro e w3 ⟨g3, l3, rfl, h3, n3, v3, m3, _, hb⟩
  have H3 := Lib.hid h3
  have V3 := Lib.hid v3
  have M3 := Lib.hid m3
  have N3 := Lib.hid n3
  have HX3 := Lib.hid (IRow.up HX.out hb)
  have HY3 := Lib.hid (IRow.up HY.out hb)
  have B3 := Lib.hid (B0.out.trans (hb.mono B0.out.size))
  rw [XV.out] at V3
  clear h3 v3 m3 n3 hb HX HY B0
  go_wp2_with fail
  refine (times_ref (w.heap.size + 1) (w.heap.size + 1) _ _ w3 HY3.out HY3.out 3 3 rfl rfl (by decide) (by decide) (by decide) YS.out YS.out).mono ?_
  rintro e w4 ⟨g4, l4, rfl, h4, n4, v4, m4, _, hb⟩
  have H4 := Lib.hid h4
  have V4 := Lib.hid v4
  have M4 := Lib.hid m4
  have N4 := Lib.hid n4
  have HX4 := Lib.hid (IRow.up HX3.out hb)
  have HY4 := Lib.hid (IRow.up HY3.out hb)
  have H34 := Lib.hid (IRow.up H3.out hb)
  have B4 := Lib.hid (B3.out.trans (hb.mono B3.out.size))
  rw [YV.out] at V4
  clear h4 v4 m4 n4 hb HX3 HY3 B3 H3
  cases th with
  | false =>
    have T3 : Hid (val16 (l3.drop 4) = X * X / 18446744073709551616) := Lib.hid (by rw [val16_front M3.out 4, V3.out])
    have T4 : Hid (val16 (l4.drop 4) = (X + 1) * (X + 1) / 18446744073709551616) := Lib.hid (by rw [val16_front M4.out 4, V4.out])
    have RB : Hid (rootB wh c p false = (decide (X * X / 18446744073709551616 < p) && decide (p ≤ (X + 1) * (X + 1) / 18446744073709551616))) := Lib.hid (by rw [XE.out]; rfl)
    have b1 := square_le XB.out.1
    have b2 := square_le XB.out.2
    have F1 := Lib.hid (front_ref g3 l3 4 w4 H34.out (by rw [N3.out]; decide) (by rw [N3.out]; decide) (by rw [T3.out]; omega) 7 N3.out)
    have F2 := Lib.hid (front_ref g4 l4 4 w4 H4.out (by rw [N4.out]; decide) (by rw [N4.out]; decide) (by rw [T4.out]; omega) 7 N4.out)
    rw [T3.out] at F1
    rw [T4.out] at F2
    generalize X * X / 18446744073709551616 = q1 at *
    generalize (X + 1) * (X + 1) / 18446744073709551616 = q2 at *
    by_cases h1 : q1 < p
    · by_cases h2 : p ≤ q2
      · have R : Hid (rootB wh c p false = true) := Lib.hid (by rw [RB.out, decide_eq_true h1, decide_eq_true h2]; rfl)
        have g1 : decide ((q1 : Int) < (p : Int)) = true := decide_eq_true (by omega)
        have g2 : decide ((p : Int) ≤ (q2 : Int)) = true := decide_eq_true (by omega)
        go_wp2_with fail
        refine F1.out.mono ?_
        rintro e w5 ⟨rfl, rfl⟩
        go_wp2_with fail
        refine F2.out.mono ?_
        rintro e w5 ⟨rfl, rfl⟩
        go_wp2_with fail
        go_ret
        exact ⟨by rw [R.out]; rfl, B4.out⟩
      · have R : Hid (rootB wh c p false = false) := Lib.hid (by rw [RB.out, decide_eq_true h1, decide_eq_false h2]; rfl)
        have g1 : decide ((q1 : Int) < (p : Int)) = true := decide_eq_true (by omega)
        have g2 : decide ((p : Int) ≤ (q2 : Int)) = false := decide_eq_false (by omega)
        go_wp2_with fail
        refine F1.out.mono ?_
        rintro e w5 ⟨rfl, rfl⟩
        go_wp2_with fail
        refine F2.out.mono ?_
        rintro e w5 ⟨rfl, rfl⟩
        go_wp2_with fail
        go_ret
        exact ⟨by rw [R.out]; rfl, B4.out⟩
    · have R : Hid (rootB wh c p false = false) := Lib.hid (by rw [RB.out, decide_eq_false h1]; rfl)
      have g1 : decide ((q1 : Int) < (p : Int)) = false := decide_eq_false (by omega)
      go_wp2_with fail
      refine F1.out.mono ?_
      rintro e w5 ⟨rfl, rfl⟩
      go_wp2_with fail
      go_ret
      exact ⟨by rw [R.out]; rfl, B4.out⟩
  | true =>
    go_wp2_with fail
    refine (times_ref g3 w.heap.size l3 _ w4 H34.out HX4.out 7 3 N3.out rfl (by decide) (by decide) (by decide) M3.out XS.out).mono ?_
    rintro e w5 ⟨g5, l5, rfl, h5, n5, v5, m5, _, hb⟩
    have H5 := Lib.hid h5
    have V5 := Lib.hid v5
    have M5 := Lib.hid m5
    have N5 := Lib.hid n5
    have HY5 := Lib.hid (IRow.up HY4.out hb)
    have H45 := Lib.hid (IRow.up H4.out hb)
    have B5 := Lib.hid (B4.out.trans (hb.mono B4.out.size))
    rw [XV.out, V3.out] at V5
    clear h5 v5 m5 n5 hb HX4 HY4 B4 H4 H34
    go_wp2_with fail
    refine (times_ref g4 (w.heap.size + 1) l4 _ w5 H45.out HY5.out 7 3 N4.out rfl (by decide) (by decide) (by decide) M4.out YS.out).mono ?_
    rintro e w6 ⟨g6, l6, rfl, h6, n6, v6, m6, _, hb⟩
    have H6 := Lib.hid h6
    have V6 := Lib.hid v6
    have M6 := Lib.hid m6
    have N6 := Lib.hid n6
    have H56 := Lib.hid (IRow.up H5.out hb)
    have B6 := Lib.hid (B5.out.trans (hb.mono B5.out.size))
    rw [YV.out, V4.out] at V6
    clear h6 v6 m6 n6 hb HY5 B5 H5 H45
    have T3 : Hid (val16 (l5.drop 6) = X * X * X / 79228162514264337593543950336) := Lib.hid (by rw [val16_front M5.out 6, V5.out])
    have T4 : Hid (val16 (l6.drop 6) = (X + 1) * (X + 1) * (X + 1) / 79228162514264337593543950336) := Lib.hid (by rw [val16_front M6.out 6, V6.out])
    have RB : Hid (rootB wh c p true = (decide (X * X * X / 79228162514264337593543950336 < p) && decide (p ≤ (X + 1) * (X + 1) * (X + 1) / 79228162514264337593543950336))) := Lib.hid (by rw [XE.out]; rfl)
    have b1 := cube_le XB.out.1
    have b2 := cube_le XB.out.2
    have F1 := Lib.hid (front_ref g5 l5 6 w6 H56.out (by rw [N5.out]; decide) (by rw [N5.out]; decide) (by rw [T3.out]; omega) 11 N5.out)
    have F2 := Lib.hid (front_ref g6 l6 6 w6 H6.out (by rw [N6.out]; decide) (by rw [N6.out]; decide) (by rw [T4.out]; omega) 11 N6.out)
    rw [T3.out] at F1
    rw [T4.out] at F2
    generalize X * X * X / 79228162514264337593543950336 = q1 at *
    generalize (X + 1) * (X + 1) * (X + 1) / 79228162514264337593543950336 = q2 at *
    by_cases h1 : q1 < p
    · by_cases h2 : p ≤ q2
      · have R : Hid (rootB wh c p true = true) := Lib.hid (by rw [RB.out, decide_eq_true h1, decide_eq_true h2]; rfl)
        have g1 : decide ((q1 : Int) < (p : Int)) = true := decide_eq_true (by omega)
        have g2 : decide ((p : Int) ≤ (q2 : Int)) = true := decide_eq_true (by omega)
        go_wp2_with fail
        refine F1.out.mono ?_
        rintro e w5 ⟨rfl, rfl⟩
        go_wp2_with fail
        refine F2.out.mono ?_
        rintro e w5 ⟨rfl, rfl⟩
        go_wp2_with fail
        go_ret
        exact ⟨by rw [R.out]; rfl, B6.out⟩
      · have R : Hid (rootB wh c p true = false) := Lib.hid (by rw [RB.out, decide_eq_true h1, decide_eq_false h2]; rfl)
        have g1 : decide ((q1 : Int) < (p : Int)) = true := decide_eq_true (by omega)
        have g2 : decide ((p : Int) ≤ (q2 : Int)) = false := decide_eq_false (by omega)
        go_wp2_with fail
        refine F1.out.mono ?_
        rintro e w5 ⟨rfl, rfl⟩
        go_wp2_with fail
        refine F2.out.mono ?_
        rintro e w5 ⟨rfl, rfl⟩
        go_wp2_with fail
        go_ret
        exact ⟨by rw [R.out]; rfl, B6.out⟩
    · have R : Hid (rootB wh c p true = false) := Lib.hid (by rw [RB.out, decide_eq_false h1]; rfl)
      have g1 : decide ((q1 : Int) < (p : Int)) = false := decide_eq_false (by omega)
      go_wp2_with fail
      refine F1.out.mono ?_
      rintro e w5 ⟨rfl, rfl⟩
      go_wp2_with fail
      go_ret
      exact ⟨by rw [R.out]; rfl, B6.out⟩
end Go.Proofs.YtbcfeecdmkcngaaDoor.Root
