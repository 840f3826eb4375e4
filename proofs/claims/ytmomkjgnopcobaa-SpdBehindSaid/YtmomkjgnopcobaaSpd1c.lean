/- The code's Check. -/
import Derived.Test.YtmomkjgnopcobaaSpd1
set_option linter.unusedVariables false
namespace Go.Proofs.Ytmomkjgnopcobaa.Spd1c
open Go.RowKit Go.Proofs.Ytmomkjgnopcobaa.Mem Go.Proofs.Ytmomkjgnopcobaa.Blk Go.Proofs.Ytmomkjgnopcobaa.Ahead Go.Proofs.Ytmomkjgnopcobaa.PickD Go.Proofs.Ytmomkjgnopcobaa.PickR1 Go.Proofs.Ytmomkjgnopcobaa.PickR2 Go.Proofs.Ytmomkjgnopcobaa.Pick1 Go.Proofs.Ytmomkjgnopcobaa.Pick2 Go.Proofs.Ytmomkjgnopcobaa.Pick3 Go.Proofs.Ytmomkjgnopcobaa.Pick4 Go.Proofs.Ytmomkjgnopcobaa.Free Go.Proofs.Ytmomkjgnopcobaa.Steps Go.Proofs.Ytmomkjgnopcobaa.Regs Go.Proofs.Ytmomkjgnopcobaa.ArgT Go.Proofs.Ytmomkjgnopcobaa.MapK Go.Proofs.Ytmomkjgnopcobaa.Quest Go.Proofs.Ytmomkjgnopcobaa.RowN Go.Proofs.Ytmomkjgnopcobaa.SpdD Go.Proofs.Ytmomkjgnopcobaa.Spd1

set_option maxRecDepth 100000 in
set_option maxHeartbeats 2000000 in
theorem check_spd (r : RuleR) (w : World) : Calls Try.prog 17 #[.agg (RA r)] w fun e w' => e = .returned (.int .i64 (chkR r)) ∧ Below w.heap.size w w' := by
  obtain ⟨z, hz⟩ : ∃ z, z = chkR r := ⟨_, rfl⟩
  rw [← hz]
  unfold chkR mayR at hz
  have PC := Lib.hid (check_code (pkR r))
  have EC := Lib.hid (ends_code r)
  unfold chkE at PC
  generalize mayP (pkR r) = mp at *
  generalize endsB r = eb at *
  have B0 := Lib.hid ((Below.refl w.heap.size w).alloc (Nat.le_refl _) (.cells (RA r) 35))
  have K0 := Lib.hid (Blk.new w 35 (RA r))
  have c0 := K0.out.cell 0
  by_cases q0 : r.x0 < 0
  · have g0 : decide (r.x0 < 0) = true := decide_eq_true q0
    have E : Hid (z = 1) := Lib.hid (by rw [hz, decide_eq_false (by omega)]; rfl)
    clear hz q0
    go_enter Try.func17, Try.ntmps17
    go_wp2_with fail
    go_ret
    exact ⟨by rw [E.out]; rfl, B0.out⟩
  · have g0 : decide (r.x0 < 0) = false := decide_eq_false q0
    rw [decide_eq_true (show 0 ≤ r.x0 by omega)] at hz
    clear q0
    cases mp
    · have E : Hid (z = 1) := Lib.hid hz
      clear hz
      go_enter Try.func17, Try.ntmps17
      go_wp2_with (refine Store.at_load 33 (.tmp 7) ?_ ?_; exact rfl; refine Part.wpList_load_part rfl 33 (.tmp 7) rfl w.heap.size 1 [.string r.x1, .string r.x2, .string r.x3, .string r.x4, .int .i64 r.x5, .int .i64 r.x6, .int .i64 r.x7, .int .i64 r.x8, .int .i64 r.x9] rfl (Part.run_part _ _ _ _ _ _ Try.underlying33 rfl (by kernel_rfl) (blk_part K0.out 1 9)) ?_)
      refine (PC.out _).mono ?_
      rintro e w1 ⟨rfl, hb⟩
      have B1 := Lib.hid (B0.out.trans (hb.mono B0.out.size))
      have K1 := Lib.hid (Blk.below K0.out hb (Blk.lt K0.out))
      clear hb
      have d0 : w1.cell? ⟨w.heap.size, 10, none⟩ = some (.bool r.x10) := K1.out.cell 10
      have d1 : w1.cell? ⟨w.heap.size, 11, none⟩ = some (.bool r.x11) := K1.out.cell 11
      have d2 : w1.cell? ⟨w.heap.size, 12, none⟩ = some (.int .i64 r.x12) := K1.out.cell 12
      go_wp2_with fail
      go_ret
      exact ⟨by rw [E.out]; rfl, B1.out⟩
    · by_cases q1 : r.x10 = false ∧ r.x11 = false
      · obtain ⟨g1, g2⟩ := q1
        have E : Hid (z = 1) := Lib.hid (by rw [hz, g1, g2]; rfl)
        clear hz
        go_enter Try.func17, Try.ntmps17
        go_wp2_with (refine Store.at_load 33 (.tmp 7) ?_ ?_; exact rfl; refine Part.wpList_load_part rfl 33 (.tmp 7) rfl w.heap.size 1 [.string r.x1, .string r.x2, .string r.x3, .string r.x4, .int .i64 r.x5, .int .i64 r.x6, .int .i64 r.x7, .int .i64 r.x8, .int .i64 r.x9] rfl (Part.run_part _ _ _ _ _ _ Try.underlying33 rfl (by kernel_rfl) (blk_part K0.out 1 9)) ?_)
        refine (PC.out _).mono ?_
        rintro e w1 ⟨rfl, hb⟩
        have B1 := Lib.hid (B0.out.trans (hb.mono B0.out.size))
        have K1 := Lib.hid (Blk.below K0.out hb (Blk.lt K0.out))
        clear hb
        have d0 : w1.cell? ⟨w.heap.size, 10, none⟩ = some (.bool r.x10) := K1.out.cell 10
        have d1 : w1.cell? ⟨w.heap.size, 11, none⟩ = some (.bool r.x11) := K1.out.cell 11
        have d2 : w1.cell? ⟨w.heap.size, 12, none⟩ = some (.int .i64 r.x12) := K1.out.cell 12
        go_wp2_with fail
        go_ret
        exact ⟨by rw [E.out]; rfl, B1.out⟩
      · have q2 : (r.x10 = true) ∨ (r.x10 = false ∧ r.x11 = true) := by
          cases h1 : r.x10 <;> cases h2 : r.x11 <;> simp [h1, h2] at q1 ⊢
        have q3 : (r.x10 || r.x11) = true := by
          rcases q2 with h | ⟨h, h'⟩ <;> simp [*]
        rw [q3] at hz
        clear q1 q3
        by_cases q4 : r.x12 < 1
        · have g3 : decide (r.x12 < 1) = true := decide_eq_true q4
          have E : Hid (z = 1) := Lib.hid (by rw [hz, decide_eq_false (show ¬ 1 ≤ r.x12 by omega)]; rfl)
          clear hz q4
          rcases q2 with g1 | ⟨g1, g2⟩
          all_goals
            go_enter Try.func17, Try.ntmps17
            go_wp2_with (refine Store.at_load 33 (.tmp 7) ?_ ?_; exact rfl; refine Part.wpList_load_part rfl 33 (.tmp 7) rfl w.heap.size 1 [.string r.x1, .string r.x2, .string r.x3, .string r.x4, .int .i64 r.x5, .int .i64 r.x6, .int .i64 r.x7, .int .i64 r.x8, .int .i64 r.x9] rfl (Part.run_part _ _ _ _ _ _ Try.underlying33 rfl (by kernel_rfl) (blk_part K0.out 1 9)) ?_)
            refine (PC.out _).mono ?_
            rintro e w1 ⟨rfl, hb⟩
            have B1 := Lib.hid (B0.out.trans (hb.mono B0.out.size))
            have K1 := Lib.hid (Blk.below K0.out hb (Blk.lt K0.out))
            clear hb
            have d0 : w1.cell? ⟨w.heap.size, 10, none⟩ = some (.bool r.x10) := K1.out.cell 10
            have d1 : w1.cell? ⟨w.heap.size, 11, none⟩ = some (.bool r.x11) := K1.out.cell 11
            have d2 : w1.cell? ⟨w.heap.size, 12, none⟩ = some (.int .i64 r.x12) := K1.out.cell 12
            go_wp2_with fail
            go_ret
            exact ⟨by rw [E.out]; rfl, B1.out⟩
        · have g3 : decide (r.x12 < 1) = false := decide_eq_false q4
          by_cases q5 : 3 < r.x12
          · have g4 : decide (3 < r.x12) = true := decide_eq_true q5
            have E : Hid (z = 1) := Lib.hid (by rw [hz, decide_eq_false (show ¬ r.x12 ≤ 3 by omega)]; simp)
            clear hz q4 q5
            rcases q2 with g1 | ⟨g1, g2⟩
            all_goals
              go_enter Try.func17, Try.ntmps17
              go_wp2_with (refine Store.at_load 33 (.tmp 7) ?_ ?_; exact rfl; refine Part.wpList_load_part rfl 33 (.tmp 7) rfl w.heap.size 1 [.string r.x1, .string r.x2, .string r.x3, .string r.x4, .int .i64 r.x5, .int .i64 r.x6, .int .i64 r.x7, .int .i64 r.x8, .int .i64 r.x9] rfl (Part.run_part _ _ _ _ _ _ Try.underlying33 rfl (by kernel_rfl) (blk_part K0.out 1 9)) ?_)
              refine (PC.out _).mono ?_
              rintro e w1 ⟨rfl, hb⟩
              have B1 := Lib.hid (B0.out.trans (hb.mono B0.out.size))
              have K1 := Lib.hid (Blk.below K0.out hb (Blk.lt K0.out))
              clear hb
              have d0 : w1.cell? ⟨w.heap.size, 10, none⟩ = some (.bool r.x10) := K1.out.cell 10
              have d1 : w1.cell? ⟨w.heap.size, 11, none⟩ = some (.bool r.x11) := K1.out.cell 11
              have d2 : w1.cell? ⟨w.heap.size, 12, none⟩ = some (.int .i64 r.x12) := K1.out.cell 12
              go_wp2_with fail
              go_ret
              exact ⟨by rw [E.out]; rfl, B1.out⟩
          · have g4 : decide (3 < r.x12) = false := decide_eq_false q5
            have E : Hid (z = if eb = true then 0 else 1) := Lib.hid (by rw [hz, decide_eq_true (show r.x12 ≤ 3 by omega), decide_eq_true (show 1 ≤ r.x12 by omega)]; simp)
            clear hz q4 q5
            rcases q2 with g1 | ⟨g1, g2⟩ <;> cases eb
            all_goals
              go_enter Try.func17, Try.ntmps17
              go_wp2_with (refine Store.at_load 33 (.tmp 7) ?_ ?_; exact rfl; refine Part.wpList_load_part rfl 33 (.tmp 7) rfl w.heap.size 1 [.string r.x1, .string r.x2, .string r.x3, .string r.x4, .int .i64 r.x5, .int .i64 r.x6, .int .i64 r.x7, .int .i64 r.x8, .int .i64 r.x9] rfl (Part.run_part _ _ _ _ _ _ Try.underlying33 rfl (by kernel_rfl) (blk_part K0.out 1 9)) ?_)
              refine (PC.out _).mono ?_
              rintro e w1 ⟨rfl, hb⟩
              have B1 := Lib.hid (B0.out.trans (hb.mono B0.out.size))
              have K1 := Lib.hid (Blk.below K0.out hb (Blk.lt K0.out))
              clear hb
              have d0 : w1.cell? ⟨w.heap.size, 10, none⟩ = some (.bool r.x10) := K1.out.cell 10
              have d1 : w1.cell? ⟨w.heap.size, 11, none⟩ = some (.bool r.x11) := K1.out.cell 11
              have d2 : w1.cell? ⟨w.heap.size, 12, none⟩ = some (.int .i64 r.x12) := K1.out.cell 12
              go_wp2_with (refine Loads.wpList_load_w rfl 35 (.tmp 1) rfl w.heap.size rfl 35 (RA r) (0, 0) _ (K1.out) Try.underlying35 rfl (by kernel_rfl) ?_)
              refine (EC.out _).mono ?_
              rintro e w2 ⟨rfl, hb⟩
              have B2 := Lib.hid (B1.out.trans (hb.mono B1.out.size))
              clear hb
              go_wp2_with fail
              go_ret
              exact ⟨by rw [E.out]; rfl, B2.out⟩
end Go.Proofs.Ytmomkjgnopcobaa.Spd1c
