/- The document's May: of an association's Sa, of a life. -/
import Derived.Test.YtppnkkpjfjhfkaaDoorM10
set_option linter.unusedVariables false
set_option maxRecDepth 100000
namespace Go.Proofs.YtppnkkpjfjhfkaaDoor.SadMay
open Go.RowKit Go.Proofs.YtppnkkpjfjhfkaaDoor.Sums Go.Proofs.YtppnkkpjfjhfkaaDoor.Mem Go.Proofs.YtppnkkpjfjhfkaaDoor.Blk Go.Proofs.YtppnkkpjfjhfkaaDoor.ArgT Go.Proofs.YtppnkkpjfjhfkaaDoor.SadM

def may (sp : Int) (ky sl mc : ByteArray) (wn : Int) : Bool :=
  decide (256 ≤ sp) && (decide (sp ≤ 4294967295) && ((decide (ky.size = 16) || decide (ky.size = 32)) && (decide (sl.size = 4) && (decide (mc.size = 32) && (decide (64 ≤ wn) && decide (wn ≤ 1024))))))
theorem may_facts {sp wn : Int} {ky sl mc : ByteArray} (h : may sp ky sl mc wn = true) : 256 ≤ sp ∧ sp ≤ 4294967295 ∧ (ky.size = 16 ∨ ky.size = 32) ∧ sl.size = 4 ∧ mc.size = 32 ∧ 64 ≤ wn ∧ wn ≤ 1024 := by
  simpa [may, Bool.and_eq_true, decide_eq_true_eq] using h
set_option maxHeartbeats 1000000 in
theorem may_ref (sp : Int) (ky sl mc : ByteArray) (es : Bool) (wn : Int) (w : World) : Calls Tryd.prog 60 #[.agg #[.int .i64 sp, .string ky, .string sl, .string mc, .bool es, .int .i64 wn]] w fun e w' => e = .returned (.bool (may sp ky sl mc wn)) ∧ Below w.heap.size w w' := by
  obtain ⟨r, hr⟩ : ∃ r, r = may sp ky sl mc wn := ⟨_, rfl⟩
  rw [← hr]
  unfold may at hr
  have B0 := Lib.hid ((Below.refl w.heap.size w).alloc (Nat.le_refl _) (.cells #[.int .i64 sp, .string ky, .string sl, .string mc, .bool es, .int .i64 wn] 32))
  have K0 := Blk.new w 32 #[.int .i64 sp, .string ky, .string sl, .string mc, .bool es, .int .i64 wn]
  have k0 := K0.cell 0
  have k1 := K0.cell 1
  have k2 := K0.cell 2
  have k3 := K0.cell 3
  have k4 := K0.cell 4
  have k5 := K0.cell 5
  clear K0
  by_cases a1 : 256 ≤ sp
  · have ga1 : decide (256 ≤ sp) = true := decide_eq_true a1
    by_cases a2 : sp ≤ 4294967295
    · have ga2 : decide (sp ≤ 4294967295) = true := decide_eq_true a2
      by_cases q1 : ky.size = 16
      · have g3 : ((ky.size : Int) == 16) = true := by rw [beq_iff_eq]; omega
        by_cases a4 : sl.size = 4
        · have ga4 : ((sl.size : Int) == 4) = true := by rw [beq_iff_eq]; omega
          by_cases a5 : mc.size = 32
          · have ga5 : ((mc.size : Int) == 32) = true := by rw [beq_iff_eq]; omega
            by_cases a6 : 64 ≤ wn
            · have ga6 : decide (64 ≤ wn) = true := decide_eq_true a6
              by_cases a7 : wn ≤ 1024
              · have ga7 : decide (wn ≤ 1024) = true := decide_eq_true a7
                have E : Hid (r = true) := Lib.hid (by rw [hr]; simp [a1, a2, q1, a4, a5, a6, a7])
                clear hr
                go_enter Tryd.func60, Tryd.ntmps60
                go_wp2_with fail
                go_ret
                exact ⟨by rw [E.out]; rfl, B0.out⟩
              · have ga7 : decide (wn ≤ 1024) = false := decide_eq_false a7
                have E : Hid (r = false) := Lib.hid (by rw [hr]; simp [a1, a2, q1, a4, a5, a6, a7])
                clear hr
                go_enter Tryd.func60, Tryd.ntmps60
                go_wp2_with fail
                go_ret
                exact ⟨by rw [E.out]; rfl, B0.out⟩
            · have ga6 : decide (64 ≤ wn) = false := decide_eq_false a6
              have E : Hid (r = false) := Lib.hid (by rw [hr]; simp [a1, a2, q1, a4, a5, a6])
              clear hr
              go_enter Tryd.func60, Tryd.ntmps60
              go_wp2_with fail
              go_ret
              exact ⟨by rw [E.out]; rfl, B0.out⟩
          · have ga5 : ((mc.size : Int) == 32) = false := by rw [beq_eq_false_iff_ne]; omega
            have E : Hid (r = false) := Lib.hid (by rw [hr]; simp [a1, a2, q1, a4, a5])
            clear hr
            go_enter Tryd.func60, Tryd.ntmps60
            go_wp2_with fail
            go_ret
            exact ⟨by rw [E.out]; rfl, B0.out⟩
        · have ga4 : ((sl.size : Int) == 4) = false := by rw [beq_eq_false_iff_ne]; omega
          have E : Hid (r = false) := Lib.hid (by rw [hr]; simp [a1, a2, q1, a4])
          clear hr
          go_enter Tryd.func60, Tryd.ntmps60
          go_wp2_with fail
          go_ret
          exact ⟨by rw [E.out]; rfl, B0.out⟩
      · have g3 : ((ky.size : Int) == 16) = false := by rw [beq_eq_false_iff_ne]; omega
        by_cases q2 : ky.size = 32
        · have g3b : ((ky.size : Int) == 32) = true := by rw [beq_iff_eq]; omega
          by_cases a4 : sl.size = 4
          · have ga4 : ((sl.size : Int) == 4) = true := by rw [beq_iff_eq]; omega
            by_cases a5 : mc.size = 32
            · have ga5 : ((mc.size : Int) == 32) = true := by rw [beq_iff_eq]; omega
              by_cases a6 : 64 ≤ wn
              · have ga6 : decide (64 ≤ wn) = true := decide_eq_true a6
                by_cases a7 : wn ≤ 1024
                · have ga7 : decide (wn ≤ 1024) = true := decide_eq_true a7
                  have E : Hid (r = true) := Lib.hid (by rw [hr]; simp [a1, a2, q2, a4, a5, a6, a7])
                  clear hr
                  go_enter Tryd.func60, Tryd.ntmps60
                  go_wp2_with fail
                  go_ret
                  exact ⟨by rw [E.out]; rfl, B0.out⟩
                · have ga7 : decide (wn ≤ 1024) = false := decide_eq_false a7
                  have E : Hid (r = false) := Lib.hid (by rw [hr]; simp [a1, a2, q2, a4, a5, a6, a7])
                  clear hr
                  go_enter Tryd.func60, Tryd.ntmps60
                  go_wp2_with fail
                  go_ret
                  exact ⟨by rw [E.out]; rfl, B0.out⟩
              · have ga6 : decide (64 ≤ wn) = false := decide_eq_false a6
                have E : Hid (r = false) := Lib.hid (by rw [hr]; simp [a1, a2, q2, a4, a5, a6])
                clear hr
                go_enter Tryd.func60, Tryd.ntmps60
                go_wp2_with fail
                go_ret
                exact ⟨by rw [E.out]; rfl, B0.out⟩
            · have ga5 : ((mc.size : Int) == 32) = false := by rw [beq_eq_false_iff_ne]; omega
              have E : Hid (r = false) := Lib.hid (by rw [hr]; simp [a1, a2, q2, a4, a5])
              clear hr
              go_enter Tryd.func60, Tryd.ntmps60
              go_wp2_with fail
              go_ret
              exact ⟨by rw [E.out]; rfl, B0.out⟩
          · have ga4 : ((sl.size : Int) == 4) = false := by rw [beq_eq_false_iff_ne]; omega
            have E : Hid (r = false) := Lib.hid (by rw [hr]; simp [a1, a2, q2, a4])
            clear hr
            go_enter Tryd.func60, Tryd.ntmps60
            go_wp2_with fail
            go_ret
            exact ⟨by rw [E.out]; rfl, B0.out⟩
        · have g3b : ((ky.size : Int) == 32) = false := by rw [beq_eq_false_iff_ne]; omega
          have E : Hid (r = false) := Lib.hid (by rw [hr]; simp [a1, a2, q1, q2])
          clear hr
          go_enter Tryd.func60, Tryd.ntmps60
          go_wp2_with fail
          go_ret
          exact ⟨by rw [E.out]; rfl, B0.out⟩
    · have ga2 : decide (sp ≤ 4294967295) = false := decide_eq_false a2
      have E : Hid (r = false) := Lib.hid (by rw [hr]; simp [a1, a2])
      clear hr
      go_enter Tryd.func60, Tryd.ntmps60
      go_wp2_with fail
      go_ret
      exact ⟨by rw [E.out]; rfl, B0.out⟩
  · have ga1 : decide (256 ≤ sp) = false := decide_eq_false a1
    have E : Hid (r = false) := Lib.hid (by rw [hr]; simp [a1])
    clear hr
    go_enter Tryd.func60, Tryd.ntmps60
    go_wp2_with fail
    go_ret
    exact ⟨by rw [E.out]; rfl, B0.out⟩

/-- May a life be? -/
def mayL (r : LifeR) : Bool := may r.x0 r.x1 r.x2 r.x3 r.x5 && (decide (0 ≤ r.x6) && (decide (0 ≤ r.x8) && (decide (0 ≤ r.x9) && (decide (0 ≤ r.x10) && decide (0 ≤ r.x11)))))
theorem mayL_win {r : LifeR} (h : mayL r = true) : 64 ≤ r.x5 ∧ r.x5 ≤ 1024 := by
  unfold mayL at h
  rw [Bool.and_eq_true] at h
  have := may_facts h.1
  exact ⟨this.2.2.2.2.2.1, this.2.2.2.2.2.2⟩
theorem load_saL {W : World} {g : Nat} {r : LifeR} (h : Blk W g 34 r.cells.toArray) : (loadVar 32 ⟨g, 0, none⟩).run Tryd.prog W = .ok (.agg #[.int .i64 r.x0, .string r.x1, .string r.x2, .string r.x3, .bool r.x4, .int .i64 r.x5]) W :=
  Part.run_part W g 0 32 [.int .i64 r.x0, .string r.x1, .string r.x2, .string r.x3, .bool r.x4, .int .i64 r.x5] _ Tryd.underlying32 rfl (by kernel_rfl) fun j v hj => by
    rw [Nat.zero_add, h.cell j]
    have hlt : j < 6 := (List.getElem?_eq_some_iff.1 hj).1
    match j, hlt with
    | 0, _ => exact hj
    | 1, _ => exact hj
    | 2, _ => exact hj
    | 3, _ => exact hj
    | 4, _ => exact hj
    | 5, _ => exact hj

set_option maxHeartbeats 2000000 in
theorem mayL_ref (r : LifeR) (w : World) : Calls Tryd.prog 45 #[.agg r.cells.toArray] w fun e w' => e = .returned (.bool (mayL r)) ∧ Below w.heap.size w w' := by
  obtain ⟨s, hs⟩ : ∃ s, s = mayL r := ⟨_, rfl⟩
  rw [← hs]
  unfold mayL at hs
  have K0 : Hid (Blk (w.alloc (.cells r.cells.toArray 34)) w.heap.size 34 r.cells.toArray) := Lib.hid (Blk.new w _ _)
  have B0 := Lib.hid ((Below.refl w.heap.size w).alloc (Nat.le_refl _) (.cells r.cells.toArray 34))
  have C := Lib.hid (may_ref r.x0 r.x1 r.x2 r.x3 r.x4 r.x5 (w.alloc (.cells r.cells.toArray 34)))
  have LD := Lib.hid (load_saL K0.out)
  unfold LifeR.cells at LD C K0 B0 ⊢
  go_enter Tryd.func45, Tryd.ntmps45
  go_wp2_with (refine Part.wpList_load_part (by kernel_rfl) 32 (.tmp 3) rfl w.heap.size 0 [.int .i64 r.x0, .string r.x1, .string r.x2, .string r.x3, .bool r.x4, .int .i64 r.x5] rfl LD.out ?_)
  refine C.out.mono ?_
  rintro er w1 ⟨rfl, hb⟩
  have K1 := Blk.below K0.out hb (Blk.lt K0.out)
  have k6 := K1.cell 6
  have k8 := K1.cell 8
  have k9 := K1.cell 9
  have k10 := K1.cell 10
  have k11 := K1.cell 11
  have B1 := Lib.hid (B0.out.trans (hb.mono B0.out.size))
  clear K1 K0 LD C B0 hb
  cases hm : may r.x0 r.x1 r.x2 r.x3 r.x5 with
  | false =>
    have E : Hid (s = false) := Lib.hid (by rw [hs, hm]; rfl)
    clear hs
    go_wp2_with fail
    go_ret
    exact ⟨by rw [E.out]; rfl, B1.out⟩
  | true =>
    by_cases a1 : 0 ≤ r.x6
    · have g1 : decide (r.x6 ≥ 0) = true := decide_eq_true a1
      by_cases a2 : 0 ≤ r.x8
      · have g2 : decide (r.x8 ≥ 0) = true := decide_eq_true a2
        by_cases a3 : 0 ≤ r.x9
        · have g3 : decide (r.x9 ≥ 0) = true := decide_eq_true a3
          by_cases a4 : 0 ≤ r.x10
          · have g4 : decide (r.x10 ≥ 0) = true := decide_eq_true a4
            have E : Hid (s = decide (0 ≤ r.x11)) := Lib.hid (by rw [hs, hm]; simp [a1, a2, a3, a4])
            clear hs
            go_wp2_with fail
            go_ret
            exact ⟨by rw [E.out]; rfl, B1.out⟩
          · have g4 : decide (r.x10 ≥ 0) = false := decide_eq_false a4
            have E : Hid (s = false) := Lib.hid (by rw [hs, hm]; simp [a1, a2, a3, a4])
            clear hs
            go_wp2_with fail
            go_ret
            exact ⟨by rw [E.out]; rfl, B1.out⟩
        · have g3 : decide (r.x9 ≥ 0) = false := decide_eq_false a3
          have E : Hid (s = false) := Lib.hid (by rw [hs, hm]; simp [a1, a2, a3])
          clear hs
          go_wp2_with fail
          go_ret
          exact ⟨by rw [E.out]; rfl, B1.out⟩
      · have g2 : decide (r.x8 ≥ 0) = false := decide_eq_false a2
        have E : Hid (s = false) := Lib.hid (by rw [hs, hm]; simp [a1, a2])
        clear hs
        go_wp2_with fail
        go_ret
        exact ⟨by rw [E.out]; rfl, B1.out⟩
    · have g1 : decide (r.x6 ≥ 0) = false := decide_eq_false a1
      have E : Hid (s = false) := Lib.hid (by rw [hs, hm]; simp [a1])
      clear hs
      go_wp2_with fail
      go_ret
      exact ⟨by rw [E.out]; rfl, B1.out⟩
end Go.Proofs.YtppnkkpjfjhfkaaDoor.SadMay

