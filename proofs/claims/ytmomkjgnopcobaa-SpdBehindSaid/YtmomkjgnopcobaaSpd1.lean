/- The code's New, validEnds, applies, Check. -/
import Derived.Test.YtmomkjgnopcobaaSpdD
set_option linter.unusedVariables false
namespace Go.Proofs.Ytmomkjgnopcobaa.Spd1
open Go.RowKit Go.Proofs.Ytmomkjgnopcobaa.Mem Go.Proofs.Ytmomkjgnopcobaa.Blk Go.Proofs.Ytmomkjgnopcobaa.Ahead Go.Proofs.Ytmomkjgnopcobaa.PickD Go.Proofs.Ytmomkjgnopcobaa.PickR1 Go.Proofs.Ytmomkjgnopcobaa.PickR2 Go.Proofs.Ytmomkjgnopcobaa.Pick1 Go.Proofs.Ytmomkjgnopcobaa.Pick2 Go.Proofs.Ytmomkjgnopcobaa.Pick3 Go.Proofs.Ytmomkjgnopcobaa.Pick4 Go.Proofs.Ytmomkjgnopcobaa.Free Go.Proofs.Ytmomkjgnopcobaa.Steps Go.Proofs.Ytmomkjgnopcobaa.Regs Go.Proofs.Ytmomkjgnopcobaa.ArgT Go.Proofs.Ytmomkjgnopcobaa.MapK Go.Proofs.Ytmomkjgnopcobaa.Quest Go.Proofs.Ytmomkjgnopcobaa.RowN Go.Proofs.Ytmomkjgnopcobaa.SpdD

theorem new_code (F : Nat → Prop) (w : World) (hF : ∀ k, F k → k < w.heap.size) : Calls Try.prog 8 #[] w fun e w' => (∃ gs, e = .returned (.pointer (some ⟨gs, 0, none⟩)) ∧ SpdAt F w' gs []) ∧ Below w.heap.size w w' := by
  have B0 := Lib.hid (((Below.refl w.heap.size w).alloc (Nat.le_refl _) (.map #[] 0)).alloc (by simp) (.cells #[.slice none 0 0, .map (some w.heap.size)] 56))
  have K0 : Hid (Blk ((w.alloc (.map #[] 0)).alloc (.cells #[.slice none 0 0, .map (some w.heap.size)] 56)) (w.heap.size + 1) 56 #[.slice none 0 0, .map (some w.heap.size)]) := Lib.hid (by
    have := Blk.new (w.alloc (.map #[] 0)) 56 #[.slice none 0 0, .map (some w.heap.size)]
    simpa using this)
  have M0 : Hid (MapAt ek evI ((w.alloc (.map #[] 0)).alloc (.cells #[.slice none 0 0, .map (some w.heap.size)] 56)) w.heap.size []) := Lib.hid ((new_map w 0).below ((Below.refl (w.alloc (.map #[] 0)).heap.size (w.alloc (.map #[] 0))).alloc (Nat.le_refl _) _) (by simp))
  have HF := Lib.hid hF
  have mm : ∀ W, (Instr.makeMap 54 none).run Try.prog W = .ok (.map (some W.heap.size)) (W.alloc (.map #[] 0)) := fun W => by kernel_rfl
  clear hF
  go_enter Try.func8, Try.ntmps8
  go_wp2_with fail
  go_ret
  refine ⟨⟨w.heap.size + 1, rfl, ⟨⟨none, 0, w.heap.size, [], K0.out, RowAt.nil _ _ _, M0.out, fun q hq => absurd hq (by simp), fun z => by have := HF.out _ z; omega, fun z => by have := HF.out _ z; omega, fun k hk => by obtain ⟨a, h, _⟩ := hk; cases h⟩, fun r hr => absurd hr (by simp), by simp⟩⟩, B0.out⟩

set_option maxRecDepth 100000 in
theorem ends_code (r : RuleR) (w : World) : Calls Try.prog 26 #[.agg (RA r)] w fun e w' => e = .returned (.bool (endsB r)) ∧ Below w.heap.size w w' := by
  obtain ⟨z, hz⟩ : ∃ z, z = endsB r := ⟨_, rfl⟩
  rw [← hz]
  unfold endsB at hz
  have B0 := Lib.hid ((Below.refl w.heap.size w).alloc (Nat.le_refl _) (.cells (RA r) 35))
  have K0 := Blk.new w 35 (RA r)
  have k12 := K0.cell 12
  have k13 := K0.cell 13
  have k14 := K0.cell 14
  have k15 := K0.cell 15
  clear K0
  cases hx : r.x13 with
  | false =>
    rw [hx] at hz
    unfold emp at hz
    have g0 : r.x13 = false := hx
    obtain ⟨x, g1⟩ : ∃ x, r.x14.toList.isEmpty = x := ⟨_, rfl⟩
    obtain ⟨y, g2⟩ : ∃ y, r.x15.toList.isEmpty = y := ⟨_, rfl⟩
    rw [g1, g2] at hz
    have E := Lib.hid hz
    clear hz hx
    cases x <;> cases y
    all_goals
      go_enter Try.func26, Try.ntmps26
      go_wp2_with fail
      go_ret
      exact ⟨by rw [E.out]; rfl, B0.out⟩
  | true =>
    rw [hx] at hz
    have g0 : r.x13 = true := hx
    clear hx
    by_cases q1 : r.x12 = 3
    · have g1 : (r.x12 == 3) = true := by rw [beq_iff_eq]; exact q1
      by_cases q2 : r.x14.size = r.x15.size
      · have g2 : ((r.x14.size : Int) == (r.x15.size : Int)) = true := by rw [beq_iff_eq]; omega
        by_cases q3 : r.x14.size = 4
        · have g3 : ((r.x14.size : Int) == 4) = true := by rw [beq_iff_eq]; omega
          have E : Hid (z = true) := Lib.hid (by rw [hz]; unfold isA; rw [if_pos rfl, decide_eq_true q1, decide_eq_true q2, decide_eq_true q3]; rfl)
          clear hz q1 q2 q3
          go_enter Try.func26, Try.ntmps26
          go_wp2_with fail
          go_ret
          exact ⟨by rw [E.out]; rfl, B0.out⟩
        · have g3 : ((r.x14.size : Int) == 4) = false := by rw [beq_eq_false_iff_ne]; omega
          by_cases q4 : r.x14.size = 16
          · have g4 : ((r.x14.size : Int) == 16) = true := by rw [beq_iff_eq]; omega
            have E : Hid (z = true) := Lib.hid (by rw [hz]; unfold isA; rw [if_pos rfl, decide_eq_true q1, decide_eq_true q2, decide_eq_false q3, decide_eq_true q4]; rfl)
            clear hz q1 q2 q3 q4
            go_enter Try.func26, Try.ntmps26
            go_wp2_with fail
            go_ret
            exact ⟨by rw [E.out]; rfl, B0.out⟩
          · have g4 : ((r.x14.size : Int) == 16) = false := by rw [beq_eq_false_iff_ne]; omega
            have E : Hid (z = false) := Lib.hid (by rw [hz]; unfold isA; rw [if_pos rfl, decide_eq_true q1, decide_eq_true q2, decide_eq_false q3, decide_eq_false q4]; rfl)
            clear hz q1 q2 q3 q4
            go_enter Try.func26, Try.ntmps26
            go_wp2_with fail
            go_ret
            exact ⟨by rw [E.out]; rfl, B0.out⟩
      · have g2 : ((r.x14.size : Int) == (r.x15.size : Int)) = false := by rw [beq_eq_false_iff_ne]; omega
        have E : Hid (z = false) := Lib.hid (by rw [hz]; unfold isA; rw [if_pos rfl, decide_eq_true q1, decide_eq_false q2]; rfl)
        clear hz q1 q2
        go_enter Try.func26, Try.ntmps26
        go_wp2_with fail
        go_ret
        exact ⟨by rw [E.out]; rfl, B0.out⟩
    · have g1 : (r.x12 == 3) = false := by rw [beq_eq_false_iff_ne]; exact q1
      have E : Hid (z = false) := Lib.hid (by rw [hz]; unfold isA; rw [if_pos rfl, decide_eq_false q1]; rfl)
      clear hz q1
      go_enter Try.func26, Try.ntmps26
      go_wp2_with fail
      go_ret
      exact ⟨by rw [E.out]; rfl, B0.out⟩

set_option maxRecDepth 100000 in
set_option maxHeartbeats 1000000 in
theorem applies_code (r : RuleR) (q : Qu) (w : World) : Calls Try.prog 31 #[.agg (RA r), .agg (QA q)] w fun e w' => e = .returned (.bool (apB r q)) ∧ Below w.heap.size w w' := by
  obtain ⟨z, hz⟩ : ∃ z, z = apB r q := ⟨_, rfl⟩
  rw [← hz]
  unfold apB at hz
  have MC := Lib.hid (matches_code (pkR r) (flQ q))
  generalize matB (pkR r) (flQ q) = mb at *
  have B0 := Lib.hid (((Below.refl w.heap.size w).alloc (Nat.le_refl _) (.cells (RA r) 35)).alloc (by simp) (.cells (QA q) 62))
  have K0 := Lib.hid (Blk.alloc (Blk.new w 35 (RA r)) (.cells (QA q) 62))
  have J0 : Hid (Blk ((w.alloc (.cells (RA r) 35)).alloc (.cells (QA q) 62)) (w.heap.size + 1) 62 (QA q)) := Lib.hid (by
    have := Blk.new (w.alloc (.cells (RA r) 35)) 62 (QA q)
    simpa using this)
  have c1 := K0.out.cell 10
  have c2 := K0.out.cell 11
  have c3 := J0.out.cell 5
  obtain g1 | g1 : q.out = false ∨ q.out = true := by cases q.out <;> simp
  · obtain g2 | g2 : r.x11 = false ∨ r.x11 = true := by cases r.x11 <;> simp
    · have E : Hid (z = false) := Lib.hid (by rw [hz, g1, g2]; rfl)
      clear hz
      go_enter Try.func31, Try.ntmps31
      go_wp2_with fail
      go_ret
      exact ⟨by rw [E.out]; rfl, B0.out⟩
    · have E : Hid (z = mb) := Lib.hid (by rw [hz, g1, g2]; rfl)
      clear hz
      go_enter Try.func31, Try.ntmps31
      go_wp2_with (first | (refine Store.at_load 33 (.tmp 22) ?_ ?_; exact rfl; refine Part.wpList_load_part rfl 33 (.tmp 22) rfl w.heap.size 1 [.string r.x1, .string r.x2, .string r.x3, .string r.x4, .int .i64 r.x5, .int .i64 r.x6, .int .i64 r.x7, .int .i64 r.x8, .int .i64 r.x9] rfl (Part.run_part _ _ _ _ _ _ Try.underlying33 rfl (by kernel_rfl) (blk_part K0.out 1 9)) ?_) | (refine Store.at_load 24 (.tmp 24) ?_ ?_; exact rfl; refine Part.wpList_load_part rfl 24 (.tmp 24) rfl (w.heap.size + 1) 0 [.string q.here, .string q.there, .int .i64 q.pr, .int .i64 q.near, .int .i64 q.far] rfl (Part.run_part _ _ _ _ _ _ Try.underlying24 rfl (by kernel_rfl) (blk_part J0.out 0 5)) ?_))
      refine (MC.out _).mono ?_
      rintro e w1 ⟨rfl, hb⟩
      have B1 := Lib.hid (B0.out.trans (hb.mono B0.out.size))
      clear hb
      go_wp2_with fail
      go_ret
      exact ⟨by rw [E.out]; rfl, B1.out⟩
  · obtain g2 | g2 : r.x10 = false ∨ r.x10 = true := by cases r.x10 <;> simp
    · have E : Hid (z = false) := Lib.hid (by rw [hz, g1, g2]; rfl)
      clear hz
      go_enter Try.func31, Try.ntmps31
      go_wp2_with fail
      go_ret
      exact ⟨by rw [E.out]; rfl, B0.out⟩
    · have E : Hid (z = mb) := Lib.hid (by rw [hz, g1, g2]; rfl)
      clear hz
      go_enter Try.func31, Try.ntmps31
      go_wp2_with (first | (refine Store.at_load 33 (.tmp 22) ?_ ?_; exact rfl; refine Part.wpList_load_part rfl 33 (.tmp 22) rfl w.heap.size 1 [.string r.x1, .string r.x2, .string r.x3, .string r.x4, .int .i64 r.x5, .int .i64 r.x6, .int .i64 r.x7, .int .i64 r.x8, .int .i64 r.x9] rfl (Part.run_part _ _ _ _ _ _ Try.underlying33 rfl (by kernel_rfl) (blk_part K0.out 1 9)) ?_) | (refine Store.at_load 24 (.tmp 24) ?_ ?_; exact rfl; refine Part.wpList_load_part rfl 24 (.tmp 24) rfl (w.heap.size + 1) 0 [.string q.here, .string q.there, .int .i64 q.pr, .int .i64 q.near, .int .i64 q.far] rfl (Part.run_part _ _ _ _ _ _ Try.underlying24 rfl (by kernel_rfl) (blk_part J0.out 0 5)) ?_))
      refine (MC.out _).mono ?_
      rintro e w1 ⟨rfl, hb⟩
      have B1 := Lib.hid (B0.out.trans (hb.mono B0.out.size))
      clear hb
      go_wp2_with fail
      go_ret
      exact ⟨by rw [E.out]; rfl, B1.out⟩
end Go.Proofs.Ytmomkjgnopcobaa.Spd1
