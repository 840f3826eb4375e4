/- The code's valid: esp's Check, a life. -/
import Derived.Test.YtppnkkpjfjhfkaaDoorM29
set_option linter.unusedVariables false
set_option maxRecDepth 100000
namespace Go.Proofs.YtppnkkpjfjhfkaaDoor.Cad9
open Go.RowKit Go.Proofs.YtppnkkpjfjhfkaaDoor.Sums Go.Proofs.YtppnkkpjfjhfkaaDoor.Mem Go.Proofs.YtppnkkpjfjhfkaaDoor.Blk Go.Proofs.YtppnkkpjfjhfkaaDoor.ArgT Go.Proofs.YtppnkkpjfjhfkaaDoor.SadM Go.Proofs.YtppnkkpjfjhfkaaDoor.SadMay

set_option maxHeartbeats 1000000 in
theorem check_no (sp : Int) (ky sl mc : ByteArray) (es : Bool) (wn : Int) (w : World) : Calls Tryd.prog 51 #[.agg #[.int .i64 sp, .string ky, .string sl, .string mc, .bool es, .int .i64 wn]] w fun e w' => e = .returned (.int .i64 (if may sp ky sl mc wn then 0 else 1)) ∧ Below w.heap.size w w' := by
  obtain ⟨r, hr⟩ : ∃ r : Int, r = if may sp ky sl mc wn then 0 else 1 := ⟨_, rfl⟩
  rw [← hr]
  unfold may at hr
  have B0 := Lib.hid ((Below.refl w.heap.size w).alloc (Nat.le_refl _) (.cells #[.int .i64 sp, .string ky, .string sl, .string mc, .bool es, .int .i64 wn] 32))
  have K0 := Blk.new w 32 #[.int .i64 sp, .string ky, .string sl, .string mc, .bool es, .int .i64 wn]
  have k0 := K0.cell 0
  have k1 := K0.cell 1
  have k2 := K0.cell 2
  have k3 := K0.cell 3
  have k4 := K0.cell 4
  have k5 := K0.cell 5
  clear K0
  by_cases a1 : 256 ≤ sp
  · have ga1 : decide (sp < 256) = false := decide_eq_false (by omega)
    by_cases a2 : sp ≤ 4294967295
    · have ga2 : decide (4294967295 < sp) = false := decide_eq_false (by omega)
      by_cases q1 : ky.size = 16
      · have g3 : ((ky.size : Int) != 16) = false := by simp; omega
        by_cases a4 : sl.size = 4
        · have ga4 : ((sl.size : Int) != 4) = false := by simp; omega
          by_cases a5 : mc.size = 32
          · have ga5 : ((mc.size : Int) != 32) = false := by simp; omega
            by_cases a6 : 64 ≤ wn
            · have ga6 : decide (wn < 64) = false := decide_eq_false (by omega)
              by_cases a7 : wn ≤ 1024
              · have ga7 : decide (1024 < wn) = false := decide_eq_false (by omega)
                have E : Hid (r = 0) := Lib.hid (by rw [hr]; simp [a1, a2, q1, a4, a5, a6, a7])
                clear hr
                go_enter Tryd.func51, Tryd.ntmps51
                go_wp2_with fail
                go_ret
                exact ⟨by rw [E.out]; rfl, B0.out⟩
              · have ga7 : decide (1024 < wn) = true := decide_eq_true (by omega)
                have E : Hid (r = 1) := Lib.hid (by rw [hr]; simp [a1, a2, q1, a4, a5, a6, a7])
                clear hr
                go_enter Tryd.func51, Tryd.ntmps51
                go_wp2_with fail
                go_ret
                exact ⟨by rw [E.out]; rfl, B0.out⟩
            · have ga6 : decide (wn < 64) = true := decide_eq_true (by omega)
              have E : Hid (r = 1) := Lib.hid (by rw [hr]; simp [a1, a2, q1, a4, a5, a6])
              clear hr
              go_enter Tryd.func51, Tryd.ntmps51
              go_wp2_with fail
              go_ret
              exact ⟨by rw [E.out]; rfl, B0.out⟩
          · have ga5 : ((mc.size : Int) != 32) = true := by simp; omega
            have E : Hid (r = 1) := Lib.hid (by rw [hr]; simp [a1, a2, q1, a4, a5])
            clear hr
            go_enter Tryd.func51, Tryd.ntmps51
            go_wp2_with fail
            go_ret
            exact ⟨by rw [E.out]; rfl, B0.out⟩
        · have ga4 : ((sl.size : Int) != 4) = true := by simp; omega
          have E : Hid (r = 1) := Lib.hid (by rw [hr]; simp [a1, a2, q1, a4])
          clear hr
          go_enter Tryd.func51, Tryd.ntmps51
          go_wp2_with fail
          go_ret
          exact ⟨by rw [E.out]; rfl, B0.out⟩
      · have g3 : ((ky.size : Int) != 16) = true := by simp; omega
        by_cases q2 : ky.size = 32
        · have g3b : ((ky.size : Int) != 32) = false := by simp; omega
          by_cases a4 : sl.size = 4
          · have ga4 : ((sl.size : Int) != 4) = false := by simp; omega
            by_cases a5 : mc.size = 32
            · have ga5 : ((mc.size : Int) != 32) = false := by simp; omega
              by_cases a6 : 64 ≤ wn
              · have ga6 : decide (wn < 64) = false := decide_eq_false (by omega)
                by_cases a7 : wn ≤ 1024
                · have ga7 : decide (1024 < wn) = false := decide_eq_false (by omega)
                  have E : Hid (r = 0) := Lib.hid (by rw [hr]; simp [a1, a2, q2, a4, a5, a6, a7])
                  clear hr
                  go_enter Tryd.func51, Tryd.ntmps51
                  go_wp2_with fail
                  go_ret
                  exact ⟨by rw [E.out]; rfl, B0.out⟩
                · have ga7 : decide (1024 < wn) = true := decide_eq_true (by omega)
                  have E : Hid (r = 1) := Lib.hid (by rw [hr]; simp [a1, a2, q2, a4, a5, a6, a7])
                  clear hr
                  go_enter Tryd.func51, Tryd.ntmps51
                  go_wp2_with fail
                  go_ret
                  exact ⟨by rw [E.out]; rfl, B0.out⟩
              · have ga6 : decide (wn < 64) = true := decide_eq_true (by omega)
                have E : Hid (r = 1) := Lib.hid (by rw [hr]; simp [a1, a2, q2, a4, a5, a6])
                clear hr
                go_enter Tryd.func51, Tryd.ntmps51
                go_wp2_with fail
                go_ret
                exact ⟨by rw [E.out]; rfl, B0.out⟩
            · have ga5 : ((mc.size : Int) != 32) = true := by simp; omega
              have E : Hid (r = 1) := Lib.hid (by rw [hr]; simp [a1, a2, q2, a4, a5])
              clear hr
              go_enter Tryd.func51, Tryd.ntmps51
              go_wp2_with fail
              go_ret
              exact ⟨by rw [E.out]; rfl, B0.out⟩
          · have ga4 : ((sl.size : Int) != 4) = true := by simp; omega
            have E : Hid (r = 1) := Lib.hid (by rw [hr]; simp [a1, a2, q2, a4])
            clear hr
            go_enter Tryd.func51, Tryd.ntmps51
            go_wp2_with fail
            go_ret
            exact ⟨by rw [E.out]; rfl, B0.out⟩
        · have g3b : ((ky.size : Int) != 32) = true := by simp; omega
          have E : Hid (r = 1) := Lib.hid (by rw [hr]; simp [a1, a2, q1, q2])
          clear hr
          go_enter Tryd.func51, Tryd.ntmps51
          go_wp2_with fail
          go_ret
          exact ⟨by rw [E.out]; rfl, B0.out⟩
    · have ga2 : decide (4294967295 < sp) = true := decide_eq_true (by omega)
      have E : Hid (r = 1) := Lib.hid (by rw [hr]; simp [a1, a2])
      clear hr
      go_enter Tryd.func51, Tryd.ntmps51
      go_wp2_with fail
      go_ret
      exact ⟨by rw [E.out]; rfl, B0.out⟩
  · have ga1 : decide (sp < 256) = true := decide_eq_true (by omega)
    have E : Hid (r = 1) := Lib.hid (by rw [hr]; simp [a1])
    clear hr
    go_enter Tryd.func51, Tryd.ntmps51
    go_wp2_with fail
    go_ret
    exact ⟨by rw [E.out]; rfl, B0.out⟩
set_option maxHeartbeats 4000000 in
theorem valid_c (r : LifeR) (w : World) : Calls Tryd.prog 31 #[.agg #[.int .i64 r.x0, .string r.x1, .string r.x2, .string r.x3, .bool r.x4, .int .i64 r.x5, .int .i64 r.x6, .bool r.x7, .int .i64 r.x8, .int .i64 r.x9, .int .i64 r.x10, .int .i64 r.x11]] w fun e w' => e = .returned (.bool (mayL r)) ∧ Below w.heap.size w w' := by
  obtain ⟨z, hz⟩ : ∃ z, z = mayL r := ⟨_, rfl⟩
  rw [← hz]
  have K0 := Lib.hid (Blk.new w 34 #[.int .i64 r.x0, .string r.x1, .string r.x2, .string r.x3, .bool r.x4, .int .i64 r.x5, .int .i64 r.x6, .bool r.x7, .int .i64 r.x8, .int .i64 r.x9, .int .i64 r.x10, .int .i64 r.x11])
  have B0 := Lib.hid ((Below.refl w.heap.size w).alloc (Nat.le_refl _) (.cells #[.int .i64 r.x0, .string r.x1, .string r.x2, .string r.x3, .bool r.x4, .int .i64 r.x5, .int .i64 r.x6, .bool r.x7, .int .i64 r.x8, .int .i64 r.x9, .int .i64 r.x10, .int .i64 r.x11] 34))
  have CN := Lib.hid (check_no r.x0 r.x1 r.x2 r.x3 r.x4 r.x5)
  go_enter Tryd.func31, Tryd.ntmps31
  have RP : (loadVar 32 ⟨w.heap.size, 0, none⟩).run Tryd.prog (w.alloc (.cells #[.int .i64 r.x0, .string r.x1, .string r.x2, .string r.x3, .bool r.x4, .int .i64 r.x5, .int .i64 r.x6, .bool r.x7, .int .i64 r.x8, .int .i64 r.x9, .int .i64 r.x10, .int .i64 r.x11] 34)) = .ok (.agg #[.int .i64 r.x0, .string r.x1, .string r.x2, .string r.x3, .bool r.x4, .int .i64 r.x5]) (w.alloc (.cells #[.int .i64 r.x0, .string r.x1, .string r.x2, .string r.x3, .bool r.x4, .int .i64 r.x5, .int .i64 r.x6, .bool r.x7, .int .i64 r.x8, .int .i64 r.x9, .int .i64 r.x10, .int .i64 r.x11] 34)) := Part.run_part _ w.heap.size 0 32 [.int .i64 r.x0, .string r.x1, .string r.x2, .string r.x3, .bool r.x4, .int .i64 r.x5] _ Tryd.underlying32 rfl (by kernel_rfl) (Cad0.blk_part K0.out 0 6)
  go_wp2_with (refine Store.at_load 32 (.tmp 3) ?_ ?_; exact rfl; refine Part.wpList_load_part rfl 32 (.tmp 3) rfl w.heap.size 0 [.int .i64 r.x0, .string r.x1, .string r.x2, .string r.x3, .bool r.x4, .int .i64 r.x5] rfl RP ?_)
  refine (CN.out _).mono ?_
  rintro er w1 ⟨rfl, hb⟩
  have K1 := Lib.hid (Blk.below K0.out hb (Blk.lt K0.out))
  have B1 := Lib.hid (B0.out.trans (hb.mono B0.out.size))
  have c6 : w1.cell? ⟨w.heap.size, 6, none⟩ = some (.int .i64 r.x6) := K1.out.cell 6
  have c8 : w1.cell? ⟨w.heap.size, 8, none⟩ = some (.int .i64 r.x8) := K1.out.cell 8
  have c9 : w1.cell? ⟨w.heap.size, 9, none⟩ = some (.int .i64 r.x9) := K1.out.cell 9
  have c10 : w1.cell? ⟨w.heap.size, 10, none⟩ = some (.int .i64 r.x10) := K1.out.cell 10
  have c11 : w1.cell? ⟨w.heap.size, 11, none⟩ = some (.int .i64 r.x11) := K1.out.cell 11
  clear K0 B0 CN RP hb
  by_cases a : may r.x0 r.x1 r.x2 r.x3 r.x5 = true
  · rw [if_pos a]
    by_cases a0 : 0 ≤ r.x6
    · have g0 : decide (0 ≤ r.x6) = true := decide_eq_true a0
      by_cases a1 : 0 ≤ r.x8
      · have g1 : decide (0 ≤ r.x8) = true := decide_eq_true a1
        by_cases a2 : 0 ≤ r.x9
        · have g2 : decide (0 ≤ r.x9) = true := decide_eq_true a2
          by_cases a3 : 0 ≤ r.x10
          · have g3 : decide (0 ≤ r.x10) = true := decide_eq_true a3
            by_cases a4 : 0 ≤ r.x11
            · have g4 : decide (0 ≤ r.x11) = true := decide_eq_true a4
              have E : Hid (z = true) := Lib.hid (by rw [hz]; simp [mayL, a, a0, a1, a2, a3, a4])
              clear hz
              go_wp2_with fail
              go_ret
              exact ⟨by rw [E.out]; rfl, B1.out⟩
            · have g4 : decide (0 ≤ r.x11) = false := decide_eq_false a4
              have E : Hid (z = false) := Lib.hid (by rw [hz]; simp [mayL, a, a0, a1, a2, a3, a4])
              clear hz
              go_wp2_with fail
              go_ret
              exact ⟨by rw [E.out]; rfl, B1.out⟩
          · have g3 : decide (0 ≤ r.x10) = false := decide_eq_false a3
            have E : Hid (z = false) := Lib.hid (by rw [hz]; simp [mayL, a, a0, a1, a2, a3])
            clear hz
            go_wp2_with fail
            go_ret
            exact ⟨by rw [E.out]; rfl, B1.out⟩
        · have g2 : decide (0 ≤ r.x9) = false := decide_eq_false a2
          have E : Hid (z = false) := Lib.hid (by rw [hz]; simp [mayL, a, a0, a1, a2])
          clear hz
          go_wp2_with fail
          go_ret
          exact ⟨by rw [E.out]; rfl, B1.out⟩
      · have g1 : decide (0 ≤ r.x8) = false := decide_eq_false a1
        have E : Hid (z = false) := Lib.hid (by rw [hz]; simp [mayL, a, a0, a1])
        clear hz
        go_wp2_with fail
        go_ret
        exact ⟨by rw [E.out]; rfl, B1.out⟩
    · have g0 : decide (0 ≤ r.x6) = false := decide_eq_false a0
      have E : Hid (z = false) := Lib.hid (by rw [hz]; simp [mayL, a, a0])
      clear hz
      go_wp2_with fail
      go_ret
      exact ⟨by rw [E.out]; rfl, B1.out⟩
  · rw [if_neg a]
    have a' : may r.x0 r.x1 r.x2 r.x3 r.x5 = false := by simpa using a
    have E : Hid (z = false) := Lib.hid (by rw [hz]; simp [mayL, a'])
    clear hz a a'
    go_wp2_with fail
    go_ret
    exact ⟨by rw [E.out]; rfl, B1.out⟩
end Go.Proofs.YtppnkkpjfjhfkaaDoor.Cad9

