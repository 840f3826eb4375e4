/- The document's Find. -/
import Derived.Test.YtnabjhdamofpgaaTabR5
import Derived.Lib.QuietBelow
import Derived.BigQuiet
import Derived.Deep.QuietTactic
set_option linter.unusedVariables false
namespace Go.Proofs.Ytnabjhdamofpgaa.TabR6
open Go.RowKit Go.Sort Go.PlainAid Go.Proofs.Ytnabjhdamofpgaa.Sums Go.Proofs.Ytnabjhdamofpgaa.Mem Go.Proofs.Ytnabjhdamofpgaa.Blk Go.Proofs.Ytnabjhdamofpgaa.Grp Go.Proofs.Ytnabjhdamofpgaa.AdrD Go.Proofs.Ytnabjhdamofpgaa.AdrR Go.Proofs.Ytnabjhdamofpgaa.Steps Go.Proofs.Ytnabjhdamofpgaa.Com Go.Proofs.Ytnabjhdamofpgaa.RowN Go.Proofs.Ytnabjhdamofpgaa.RowA Go.Proofs.Ytnabjhdamofpgaa.ArgT Go.Proofs.Ytnabjhdamofpgaa.TabD Go.Proofs.Ytnabjhdamofpgaa.TabR1 Go.Proofs.Ytnabjhdamofpgaa.TabR2 Go.Proofs.Ytnabjhdamofpgaa.TabA Go.Proofs.Ytnabjhdamofpgaa.TabR3 Go.Proofs.Ytnabjhdamofpgaa.TabM Go.Proofs.Ytnabjhdamofpgaa.TabOps Go.Proofs.Ytnabjhdamofpgaa.Free Go.Proofs.Ytnabjhdamofpgaa.Rt6

attribute [local irreducible] wpList wpQuiet
def refR (rs : List RouteR) (d : ByteArray) : RouteR := if isA d then (findD rs d).getD ZR else ZR
def refE (rs : List RouteR) (d : ByteArray) : Int := if isA d then (match findD rs d with | some _ => 0 | none => 182) else 1
theorem ref_same {rs : List RouteR} (h : Tab rs) (d : ByteArray) : refR rs d = findR rs d ∧ refE rs d = findE rs d := by
  unfold refR refE findR findE
  rw [find_same h]
  exact ⟨rfl, rfl⟩
set_option maxRecDepth 100000 in
theorem find_ref_no (g : Nat) (d : ByteArray) (w : World) (hd : isA d = false) :
    Calls Try.prog 15 #[.pointer (some ⟨g, 0, none⟩), .string d] w fun e w' => e = .returned (.tuple #[.agg (RA ZR), .int .i64 1]) ∧ Below w.heap.size w w' := by
  unfold isA at hd
  simp only [Bool.or_eq_false_iff, beq_eq_false_iff_ne] at hd
  have IC := Lib.hid (fun W => is_no d hd.1 hd.2 W)
  have J0 := Lib.hid (Blk.new w 33 #[.string ⟨#[]⟩, .int .i64 0, .string ⟨#[]⟩, .int .i64 0])
  have B0 := Lib.hid ((Below.refl w.heap.size w).alloc (Nat.le_refl _) (.cells #[.string ⟨#[]⟩, .int .i64 0, .string ⟨#[]⟩, .int .i64 0] 33))
  clear hd
  go_enter Try.func15, Try.ntmps15
  go_wp2_with fail
  refine (IC.out _).mono ?_
  rintro e w' ⟨rfl, rfl⟩
  go_wp2_with fail
  exact bodyPost_ret (results_pair rfl _ _ w.heap.size 33 (RA ZR) (0, 0) _ _ rfl rfl J0.out Try.underlying33 rfl (by kernel_rfl)) rfl ⟨rfl, B0.out⟩
set_option maxRecDepth 100000 in
set_option maxHeartbeats 8000000 in
theorem find_ref_yes (F : Nat → Prop) (g : Nat) (rs : List RouteR) (d : ByteArray) (w : World) (h : TabAt F w g rs) (hd : isA d = true) :
    Calls Try.prog 15 #[.pointer (some ⟨g, 0, none⟩), .string d] w fun e w' => e = .returned (.tuple #[.agg (RA (refR rs d)), .int .i64 (refE rs d)]) ∧ Below w.heap.size w w' := by
  obtain ⟨A, c, hg0, hx0, -⟩ := h.ex
  obtain ⟨n, hn⟩ : ∃ n, rs.length = n := ⟨_, rfl⟩
  have few := h.few
  rw [hn] at few hg0 hx0
  have g46 : (d.size = 4 ∨ d.size = 16) := by unfold isA at hd; simpa using hd
  have dm : d.size ≤ 300 := by omega
  have IS := Lib.hid (fun W => is_yes d g46 W)
  have J0 := Lib.hid (Blk.alloc (Blk.new w 33 (RA ZR)) (.cells (RA ZR) 33))
  have J1 : Hid (Blk ((w.alloc (.cells (RA ZR) 33)).alloc (.cells (RA ZR) 33)) (w.heap.size + 1) 33 (RA ZR)) := Lib.hid (by
    have := Blk.new (w.alloc (.cells (RA ZR) 33)) 33 (RA ZR)
    rw [show (w.alloc (.cells (RA ZR) 33)).heap.size = w.heap.size + 1 by simp] at this
    exact this)
  have B0 := Lib.hid (((Below.refl w.heap.size w).alloc (Nat.le_refl _) (.cells (RA ZR) 33)).alloc (by simp) (.cells (RA ZR) 33))
  have HT := Lib.hid hg0
  have HX := Lib.hid hx0
  have RN := Lib.hid hn
  have HD := Lib.hid hd
  have OK := Lib.hid h.ok
  clear hg0 hx0 hn h hd g46
  go_enter Try.func15, Try.ntmps15
  go_wp2_with fail
  refine (IS.out _).mono ?_
  rintro e w' ⟨rfl, rfl⟩
  go_wp2_with fail
  have ee : (w.alloc (.cells #[.string ⟨#[]⟩, .int .i64 0, .string ⟨#[]⟩, .int .i64 0] 33)).alloc (.cells #[.string ⟨#[]⟩, .int .i64 0, .string ⟨#[]⟩, .int .i64 0] 33) = (w.alloc (.cells (RA ZR) 33)).alloc (.cells (RA ZR) 33) := rfl
  rw [ee]
  clear ee
  generalize (w.alloc (.cells (RA ZR) 33)).alloc (.cells (RA ZR) 33) = w1 at *
  go_loopw [7, 8] (fun fv iv wr => ∃ (i : Nat) (ob : Option RouteR), fv = .bool ob.isSome ∧ iv = .int .i64 (i : Int) ∧ i ≤ n ∧ Hid (ob = (rs.take i).foldl (stepD d) none) ∧ Hid (Blk wr (w.heap.size + 1) 33 (RA (ob.getD ZR))) ∧ Hid (Blk wr w.heap.size 33 (RA ZR)) ∧ Hid (Below w.heap.size w wr)) (fun _ iv _ => n - (intOf iv).toNat)
  case atStart => exact ⟨0, none, rfl, rfl, by omega, Lib.hid (by simp), J1, J0, B0⟩
  case round =>
    clear J0 J1 B0 IS
    obtain ⟨i, ob, rfl, rfl, hi, HO, HGB, HGR, HB⟩ := hrel
    by_cases hlt : i < n
    · obtain ⟨b, X, rfl, -, -, -⟩ := HX.out.row.some (by omega)
      have hr : rs[i]? = some (rs[i]'(by rw [RN.out]; exact hlt)) := List.getElem?_eq_getElem _
      generalize rs[i]'(by rw [RN.out]; exact hlt) = r at hr
      have HR := Lib.hid hr
      have okr := OK.out r (List.mem_of_getElem? hr)
      obtain ⟨z, hz⟩ : ∃ z, inB d r.x0 r.x1 = z := ⟨_, rfl⟩
      have IC := Lib.hid (fun W => ref_in d r.x0 r.x1 dm (by have := okr.1; omega) W)
      rw [hz] at IC
      have HZ := Lib.hid hz
      have STEP0 : Hid ((rs.take (i + 1)).foldl (stepD d) none = stepD d ob r) := Lib.hid (by
        rw [List.take_add_one, hr, List.foldl_append, ← HO.out]
        rfl)
      clear hr okr hz
      have ctb := HT.out.below HB.out HT.out.lt
      have ct : ∀ dq os, (grow (redrawn wr dq) os).cell? ⟨g, 0, none⟩ = some (.slice (some ⟨b, 0, none⟩) n c) := fun dq os => cell_regrown (ctb.cell 0) dq os
      have AT := row_route (HX.out.below HB.out).row HR.out
      have p0 : ∀ dq os, (grow (redrawn wr dq) os).cell? ⟨b, i * 4, none⟩ = some (.string r.x0) := fun dq os => cell_regrown (by simpa using AT 0 _ rfl) dq os
      have p1 : ∀ dq os, (grow (redrawn wr dq) os).cell? ⟨b, i * 4 + 1, none⟩ = some (.int .i64 r.x1) := fun dq os => cell_regrown (AT 1 _ rfl) dq os
      have b1 : ∀ dq os, (grow (redrawn wr dq) os).cell? ⟨w.heap.size + 1, 1, none⟩ = some (.int .i64 (ob.getD ZR).x1) := fun dq os => cell_regrown (HGB.out.cell 1) dq os
      have ct0 := ctb.cell 0
      clear ctb AT
      cases z
      · have STEP : Hid ((rs.take (i + 1)).foldl (stepD d) none = ob) := Lib.hid (by rw [STEP0.out]; unfold stepD; rw [HZ.out]; rfl)
        clear STEP0
        go_wp2_with fail
        refine wp_region_quiet_below (by kernel_rfl) (by kernel_rfl) ?_
        repeat (go_big_quiet_step (with_reducible exact Calls.regrown_of (IC.out _)))
        refine wpQuiet_nil ?_
        intro _ hw'
        obtain ⟨⟨dq, osq⟩, hw''⟩ := hw'
        subst hw''
        have HW := Lib.hid (below_regrown wr dq osq)
        clear ct p0 p1 b1 IC
        generalize grow (redrawn wr dq) osq = wz at *
        have ON : Hid (ob = (rs.take (i + 1)).foldl (stepD d) none) := Lib.hid (STEP.out.symm)
        have HG1 := Lib.hid (HGB.out.below HW.out HGB.out.lt)
        have HR1 := Lib.hid (HGR.out.below HW.out HGR.out.lt)
        have HN := Lib.hid (HB.out.trans (HW.out.mono HB.out.size))
        clear HGB HGR HB HW STEP
        go_wp2_with fail
        go_roundw
        case rel => exact ⟨i + 1, ob, rfl, by go_num, by omega, ON, HG1, HR1, HN⟩
        case measure => simp [intOf]; omega
      · cases ob with
        | none =>
          have STEP : Hid ((rs.take (i + 1)).foldl (stepD d) none = some r) := Lib.hid (by rw [STEP0.out]; unfold stepD; rw [HZ.out]; rfl)
          clear STEP0
          simp only [Option.isSome_none]
          go_wp2_with fail
          refine wp_region_quiet_below (by kernel_rfl) (by kernel_rfl) ?_
          repeat (go_big_quiet_step (with_reducible exact Calls.regrown_of (IC.out _)))
          refine wpQuiet_nil ?_
          intro _ hw'
          obtain ⟨⟨dq, osq⟩, hw''⟩ := hw'
          subst hw''
          have HW := Lib.hid (below_regrown wr dq osq)
          clear ct p0 p1 b1 IC
          generalize grow (redrawn wr dq) osq = wz at *
          have ON : Hid (some r = (rs.take (i + 1)).foldl (stepD d) none) := Lib.hid (STEP.out.symm)
          have HG1 := Lib.hid (HGB.out.below HW.out HGB.out.lt)
          have HR1 := Lib.hid (HGR.out.below HW.out HGR.out.lt)
          have HN := Lib.hid (HB.out.trans (HW.out.mono HB.out.size))
          have HG2 := Lib.hid (Part.setRow_blk HG1.out (RA r))
          have HR2 := Lib.hid ((setRow_other wz (w.heap.size + 1) w.heap.size (RA r) (by omega)).trans HR1.out)
          have HN2 := Lib.hid (Com.setRow_bel HN.out (Nat.le_succ _) (RA r))
          have ct := (HT.out.below HN.out HT.out.lt).cell 0
          have RP : (loadVar 33 ⟨b, i * 4, none⟩).run Try.prog wz = .ok (.agg (RA r)) wz := Part.run_part wz b (i * 4) 33 r.cells _ Try.underlying33 rfl (by kernel_rfl) (row_route (HX.out.below HN.out).row HR.out)
          have one := Lib.hid (all_ra r)
          clear HGB HGR HB HW STEP
          go_wp2_with (first
            | (refine Store.at_load 33 (.tmp 56) ?_ ?_; exact rfl; refine Part.wpList_load_part rfl 33 (.tmp 56) rfl b (i * 4) [.string r.x0, .int .i64 r.x1, .string r.x2, .int .i64 r.x3] rfl RP ?_)
            | (refine Store.at_store 33 (.tmp 6) (.tmp 57) ?_ ?_; exact rfl; refine wpList_store_row rfl 33 (.tmp 6) (.tmp 57) rfl (w.heap.size + 1) (RA r) rfl rfl 33 _ HG1.out (by kernel_rfl) rfl (one.out) ?_))
          go_roundw
          case rel => exact ⟨i + 1, some r, rfl, by go_num, by omega, ON, HG2, HR2, HN2⟩
          case measure => simp [intOf]; omega
        | some s =>
          obtain ⟨y, hy⟩ : ∃ y, decide (s.x1 < r.x1) = y := ⟨_, rfl⟩
          simp only [Option.getD_some] at b1
          have STEP1 : Hid ((rs.take (i + 1)).foldl (stepD d) none = if y then some r else some s) := Lib.hid (by rw [STEP0.out, ← hy]; unfold stepD; rw [HZ.out]; rfl)
          clear STEP0
          simp only [Option.isSome_some]
          cases y
          · have STEP : Hid ((rs.take (i + 1)).foldl (stepD d) none = some s) := Lib.hid (by rw [STEP1.out]; rfl)
            clear STEP1
            go_wp2_with fail
            refine wp_region_quiet_below (by kernel_rfl) (by kernel_rfl) ?_
            repeat (go_big_quiet_step (with_reducible exact Calls.regrown_of (IC.out _)))
            refine wpQuiet_nil ?_
            intro _ hw'
            obtain ⟨⟨dq, osq⟩, hw''⟩ := hw'
            subst hw''
            have HW := Lib.hid (below_regrown wr dq osq)
            clear ct p0 p1 b1 IC
            generalize grow (redrawn wr dq) osq = wz at *
            have ON : Hid (some s = (rs.take (i + 1)).foldl (stepD d) none) := Lib.hid (STEP.out.symm)
            have HG1 := Lib.hid (HGB.out.below HW.out HGB.out.lt)
            have HR1 := Lib.hid (HGR.out.below HW.out HGR.out.lt)
            have HN := Lib.hid (HB.out.trans (HW.out.mono HB.out.size))
            clear HGB HGR HB HW STEP
            go_wp2_with fail
            go_roundw
            case rel => exact ⟨i + 1, some s, rfl, by go_num, by omega, ON, HG1, HR1, HN⟩
            case measure => simp [intOf]; omega
          · have STEP : Hid ((rs.take (i + 1)).foldl (stepD d) none = some r) := Lib.hid (by rw [STEP1.out]; rfl)
            clear STEP1
            go_wp2_with fail
            refine wp_region_quiet_below (by kernel_rfl) (by kernel_rfl) ?_
            repeat (go_big_quiet_step (with_reducible exact Calls.regrown_of (IC.out _)))
            refine wpQuiet_nil ?_
            intro _ hw'
            obtain ⟨⟨dq, osq⟩, hw''⟩ := hw'
            subst hw''
            have HW := Lib.hid (below_regrown wr dq osq)
            clear ct p0 p1 b1 IC
            generalize grow (redrawn wr dq) osq = wz at *
            have ON : Hid (some r = (rs.take (i + 1)).foldl (stepD d) none) := Lib.hid (STEP.out.symm)
            have HG1 := Lib.hid (HGB.out.below HW.out HGB.out.lt)
            have HR1 := Lib.hid (HGR.out.below HW.out HGR.out.lt)
            have HN := Lib.hid (HB.out.trans (HW.out.mono HB.out.size))
            have HG2 := Lib.hid (Part.setRow_blk HG1.out (RA r))
            have HR2 := Lib.hid ((setRow_other wz (w.heap.size + 1) w.heap.size (RA r) (by omega)).trans HR1.out)
            have HN2 := Lib.hid (Com.setRow_bel HN.out (Nat.le_succ _) (RA r))
            have ct := (HT.out.below HN.out HT.out.lt).cell 0
            have RP : (loadVar 33 ⟨b, i * 4, none⟩).run Try.prog wz = .ok (.agg (RA r)) wz := Part.run_part wz b (i * 4) 33 r.cells _ Try.underlying33 rfl (by kernel_rfl) (row_route (HX.out.below HN.out).row HR.out)
            have one := Lib.hid (all_ra r)
            clear HGB HGR HB HW STEP
            go_wp2_with (first
              | (refine Store.at_load 33 (.tmp 56) ?_ ?_; exact rfl; refine Part.wpList_load_part rfl 33 (.tmp 56) rfl b (i * 4) [.string r.x0, .int .i64 r.x1, .string r.x2, .int .i64 r.x3] rfl RP ?_)
              | (refine Store.at_store 33 (.tmp 6) (.tmp 57) ?_ ?_; exact rfl; refine wpList_store_row rfl 33 (.tmp 6) (.tmp 57) rfl (w.heap.size + 1) (RA r) rfl rfl 33 _ HG1.out (by kernel_rfl) rfl (one.out) ?_))
            go_roundw
            case rel => exact ⟨i + 1, some r, rfl, by go_num, by omega, ON, HG2, HR2, HN2⟩
            case measure => simp [intOf]; omega
    · obtain rfl : i = n := by omega
      have OE : Hid (ob = findD rs d) := Lib.hid (by rw [HO.out, List.take_of_length_le (by rw [RN.out]; exact Nat.le_refl _)]; rfl)
      have ct := (HT.out.below HB.out HT.out.lt).cell 0
      cases ob with
      | none =>
        have E : Hid (refR rs d = ZR ∧ refE rs d = 182) := Lib.hid (by unfold refR refE; rw [HD.out, ← OE.out]; exact ⟨rfl, rfl⟩)
        have HR2 := Lib.hid (Part.setRow_blk HGR.out (RA ZR))
        simp only [Option.isSome_none]
        clear HO OE
        go_wp2_with (refine Store.at_store 33 (.tmp 4) (.tmp 60) ?_ ?_; exact rfl; refine wpList_store_row rfl 33 (.tmp 4) (.tmp 60) rfl w.heap.size (RA ZR) rfl rfl 33 _ HGR.out (by kernel_rfl) rfl (all_ra ZR) ?_)
        exact bodyPost_ret (results_pair rfl _ _ w.heap.size 33 (RA ZR) (0, 0) _ _ rfl rfl HR2.out Try.underlying33 rfl (by kernel_rfl)) rfl ⟨by rw [E.out.1, E.out.2]; rfl, Com.setRow_bel HB.out (Nat.le_refl _) _⟩
      | some r =>
        have E : Hid (refR rs d = r ∧ refE rs d = 0) := Lib.hid (by unfold refR refE; rw [HD.out, ← OE.out]; exact ⟨rfl, rfl⟩)
        have HR2 := Lib.hid (Part.setRow_blk HGR.out (RA r))
        simp only [Option.isSome_some]
        have HG1 : Hid (Blk wr (w.heap.size + 1) 33 (RA r)) := HGB
        have one := Lib.hid (all_ra r)
        clear HO OE HGB
        go_wp2_with (first
          | (refine Store.at_load 33 (.tmp 6) ?_ ?_; exact rfl; refine Loads.wpList_load_w rfl 33 (.tmp 6) rfl (w.heap.size + 1) rfl 33 (RA r) (0, 0) _ (HG1.out) Try.underlying33 rfl (by kernel_rfl) ?_)
          | (refine Store.at_store 33 (.tmp 4) (.tmp 61) ?_ ?_; exact rfl; refine wpList_store_row rfl 33 (.tmp 4) (.tmp 61) rfl w.heap.size (RA r) rfl rfl 33 _ HGR.out (by kernel_rfl) rfl (one.out) ?_))
        exact bodyPost_ret (results_pair rfl _ _ w.heap.size 33 (RA r) (0, 0) _ _ rfl rfl HR2.out Try.underlying33 rfl (by kernel_rfl)) rfl ⟨by rw [E.out.1, E.out.2]; rfl, Com.setRow_bel HB.out (Nat.le_refl _) _⟩
theorem find_ref (F : Nat → Prop) (g : Nat) (rs : List RouteR) (d : ByteArray) (w : World) (h : TabAt F w g rs) :
    Calls Try.prog 15 #[.pointer (some ⟨g, 0, none⟩), .string d] w fun e w' => e = .returned (.tuple #[.agg (RA (refR rs d)), .int .i64 (refE rs d)]) ∧ Below w.heap.size w w' := by
  cases hd : isA d with
  | true => exact find_ref_yes F g rs d w h hd
  | false =>
    have e1 : refR rs d = ZR := by unfold refR; rw [hd]; rfl
    have e2 : refE rs d = 1 := by unfold refE; rw [hd]; rfl
    rw [e1, e2]
    exact find_ref_no g d w hd
end Go.Proofs.Ytnabjhdamofpgaa.TabR6
