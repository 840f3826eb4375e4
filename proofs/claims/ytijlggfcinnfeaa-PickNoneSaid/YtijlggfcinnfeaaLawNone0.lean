/- The law PickNone: what it lets go. -/
import Derived.Test.YtijlggfcinnfeaaLawNoneD
set_option linter.unusedVariables false
namespace Go.Proofs.Ytijlggfcinnfeaa.LawNone0
open Go.RowKit Go.Proofs.Ytijlggfcinnfeaa.Mem Go.Proofs.Ytijlggfcinnfeaa.Blk Go.Proofs.Ytijlggfcinnfeaa.Ahead Go.Proofs.Ytijlggfcinnfeaa.PickD Go.Proofs.Ytijlggfcinnfeaa.PickR1 Go.Proofs.Ytijlggfcinnfeaa.PickR2 Go.Proofs.Ytijlggfcinnfeaa.PickR3 Go.Proofs.Ytijlggfcinnfeaa.Pick1 Go.Proofs.Ytijlggfcinnfeaa.Pick2 Go.Proofs.Ytijlggfcinnfeaa.Pick3 Go.Proofs.Ytijlggfcinnfeaa.Pick4 Go.Proofs.Ytijlggfcinnfeaa.Free Go.Proofs.Ytijlggfcinnfeaa.Steps Go.Proofs.Ytijlggfcinnfeaa.Regs Go.Proofs.Ytijlggfcinnfeaa.Com Go.Proofs.Ytijlggfcinnfeaa.Pick5 Go.Proofs.Ytijlggfcinnfeaa.PickA Go.Proofs.Ytijlggfcinnfeaa.LawFew15 Go.Proofs.Ytijlggfcinnfeaa.LawNoneD
set_option maxRecDepth 100000 in
set_option maxHeartbeats 2000000 in
theorem none_not (p : Pk) (f : Fl) (w : World) (h : small p f) (hf : ¬ (sz p f ≤ 600 ∧ f.here.size = f.there.size ∧ (f.here.size = 4 ∨ f.here.size = 16) ∧ (0 ≤ f.pr ∧ f.pr ≤ 255))) :
    Calls Try.prog 6 #[.agg #[.string p.hl, .string p.hh, .string p.tl, .string p.th, .int .i64 p.pr, .int .i64 p.nl, .int .i64 p.nh, .int .i64 p.fl, .int .i64 p.fh], .agg #[.string f.here, .string f.there, .int .i64 f.pr, .int .i64 f.near, .int .i64 f.far]] w fun e w' => e = .returned (.bool true) ∧ Below w.heap.size w w' := by
  obtain ⟨fb, hfb⟩ : ∃ b, b = decide (sz p f ≤ 600) := ⟨_, rfl⟩
  have FW := Lib.hid (fun W => few_code p f W h)
  rw [← hfb] at FW
  cases fb
  · clear hfb h hf
    have B1 := Lib.hid (Below.refl w.heap.size w)
    have K2 : Hid (Blk (w.alloc (.cells #[.string p.hl, .string p.hh, .string p.tl, .string p.th, .int .i64 p.pr, .int .i64 p.nl, .int .i64 p.nh, .int .i64 p.fl, .int .i64 p.fh] 37)) w.heap.size 37 #[.string p.hl, .string p.hh, .string p.tl, .string p.th, .int .i64 p.pr, .int .i64 p.nl, .int .i64 p.nh, .int .i64 p.fl, .int .i64 p.fh]) := Lib.hid (by have h := Blk.new w 37 #[.string p.hl, .string p.hh, .string p.tl, .string p.th, .int .i64 p.pr, .int .i64 p.nl, .int .i64 p.nh, .int .i64 p.fl, .int .i64 p.fh]; first | exact h | simpa using h)
    have B3 := Lib.hid (B1.out.alloc (by have h := B1.out.size; first | exact h | omega | (simp at h ⊢; omega)) (.cells #[.string p.hl, .string p.hh, .string p.tl, .string p.th, .int .i64 p.pr, .int .i64 p.nl, .int .i64 p.nh, .int .i64 p.fl, .int .i64 p.fh] 37))
    have G4 : Hid (w.heap.size ≤ w.heap.size) := Lib.hid (by have h := B1.out.size; first | exact h | omega | (simp at h ⊢; omega))
    have K5 : Hid (Blk ((w.alloc (.cells #[.string p.hl, .string p.hh, .string p.tl, .string p.th, .int .i64 p.pr, .int .i64 p.nl, .int .i64 p.nh, .int .i64 p.fl, .int .i64 p.fh] 37)).alloc (.cells #[.string f.here, .string f.there, .int .i64 f.pr, .int .i64 f.near, .int .i64 f.far] 24)) w.heap.size 37 #[.string p.hl, .string p.hh, .string p.tl, .string p.th, .int .i64 p.pr, .int .i64 p.nl, .int .i64 p.nh, .int .i64 p.fl, .int .i64 p.fh]) := Lib.hid (Blk.alloc K2.out _)
    have N6 : Hid (w.heap.size ≠ (w.heap.size + 1)) := Lib.hid (by have h := Blk.lt K2.out; first | omega | (simp at h; omega))
    have K7 : Hid (Blk ((w.alloc (.cells #[.string p.hl, .string p.hh, .string p.tl, .string p.th, .int .i64 p.pr, .int .i64 p.nl, .int .i64 p.nh, .int .i64 p.fl, .int .i64 p.fh] 37)).alloc (.cells #[.string f.here, .string f.there, .int .i64 f.pr, .int .i64 f.near, .int .i64 f.far] 24)) (w.heap.size + 1) 24 #[.string f.here, .string f.there, .int .i64 f.pr, .int .i64 f.near, .int .i64 f.far]) := Lib.hid (by have h := Blk.new (w.alloc (.cells #[.string p.hl, .string p.hh, .string p.tl, .string p.th, .int .i64 p.pr, .int .i64 p.nl, .int .i64 p.nh, .int .i64 p.fl, .int .i64 p.fh] 37)) 24 #[.string f.here, .string f.there, .int .i64 f.pr, .int .i64 f.near, .int .i64 f.far]; first | exact h | simpa using h)
    have B8 := Lib.hid (B3.out.alloc (by have h := B3.out.size; first | exact h | omega | (simp at h ⊢; omega)) (.cells #[.string f.here, .string f.there, .int .i64 f.pr, .int .i64 f.near, .int .i64 f.far] 24))
    have G9 : Hid (w.heap.size ≤ (w.heap.size + 1)) := Lib.hid (by have h := B3.out.size; first | exact h | omega | (simp at h ⊢; omega))
    skip
    go_enter Try.func6, Try.ntmps6
    go_wp2_with (first | (refine Store.at_load 37 (.tmp 2) ?_ ?_; exact rfl; refine Loads.wpList_load_w rfl 37 (.tmp 2) rfl w.heap.size rfl 37 #[.string p.hl, .string p.hh, .string p.tl, .string p.th, .int .i64 p.pr, .int .i64 p.nl, .int .i64 p.nh, .int .i64 p.fl, .int .i64 p.fh] (0, 0) _ (K5.out) Try.underlying37 rfl (by kernel_rfl) ?_) | (refine Store.at_load 24 (.tmp 3) ?_ ?_; exact rfl; refine Loads.wpList_load_w rfl 24 (.tmp 3) rfl (w.heap.size + 1) rfl 24 #[.string f.here, .string f.there, .int .i64 f.pr, .int .i64 f.near, .int .i64 f.far] (0, 0) _ (K7.out) Try.underlying24 rfl (by kernel_rfl) ?_))
    refine (FW.out _).mono ?_
    rintro e w1 ⟨rfl, hb10⟩
    have K11 : Hid (Blk w1 w.heap.size 37 #[.string p.hl, .string p.hh, .string p.tl, .string p.th, .int .i64 p.pr, .int .i64 p.nl, .int .i64 p.nh, .int .i64 p.fl, .int .i64 p.fh]) := Lib.hid (Blk.below K5.out hb10 (Blk.lt K5.out))
    have K12 : Hid (Blk w1 (w.heap.size + 1) 24 #[.string f.here, .string f.there, .int .i64 f.pr, .int .i64 f.near, .int .i64 f.far]) := Lib.hid (Blk.below K7.out hb10 (Blk.lt K7.out))
    have B13 := Lib.hid (B8.out.trans (hb10.mono B8.out.size))
    clear hb10
    clear FW
    have c14 : w1.cell? ⟨(w.heap.size + 1), 0, none⟩ = some (.string f.here) := K12.out.cell 0
    have c15 : w1.cell? ⟨(w.heap.size + 1), 1, none⟩ = some (.string f.there) := K12.out.cell 1
    have c16 : w1.cell? ⟨(w.heap.size + 1), 2, none⟩ = some (.int .i64 f.pr) := K12.out.cell 2
    have c17 : w1.cell? ⟨(w.heap.size + 1), 3, none⟩ = some (.int .i64 f.near) := K12.out.cell 3
    have c18 : w1.cell? ⟨(w.heap.size + 1), 4, none⟩ = some (.int .i64 f.far) := K12.out.cell 4
    go_wp2_with fail
    go_ret
    exact ⟨rfl, B13.out⟩
  have hs : sz p f ≤ 600 := of_decide_eq_true hfb.symm
  clear hfb h
  by_cases q1 : ¬ f.here.size = f.there.size
  · have gse : ((f.here.size : Int) != (f.there.size : Int)) = true := by rw [bne_iff_ne]; omega
    clear hf hs q1
    have B1 := Lib.hid (Below.refl w.heap.size w)
    have K2 : Hid (Blk (w.alloc (.cells #[.string p.hl, .string p.hh, .string p.tl, .string p.th, .int .i64 p.pr, .int .i64 p.nl, .int .i64 p.nh, .int .i64 p.fl, .int .i64 p.fh] 37)) w.heap.size 37 #[.string p.hl, .string p.hh, .string p.tl, .string p.th, .int .i64 p.pr, .int .i64 p.nl, .int .i64 p.nh, .int .i64 p.fl, .int .i64 p.fh]) := Lib.hid (by have h := Blk.new w 37 #[.string p.hl, .string p.hh, .string p.tl, .string p.th, .int .i64 p.pr, .int .i64 p.nl, .int .i64 p.nh, .int .i64 p.fl, .int .i64 p.fh]; first | exact h | simpa using h)
    have B3 := Lib.hid (B1.out.alloc (by have h := B1.out.size; first | exact h | omega | (simp at h ⊢; omega)) (.cells #[.string p.hl, .string p.hh, .string p.tl, .string p.th, .int .i64 p.pr, .int .i64 p.nl, .int .i64 p.nh, .int .i64 p.fl, .int .i64 p.fh] 37))
    have G4 : Hid (w.heap.size ≤ w.heap.size) := Lib.hid (by have h := B1.out.size; first | exact h | omega | (simp at h ⊢; omega))
    have K5 : Hid (Blk ((w.alloc (.cells #[.string p.hl, .string p.hh, .string p.tl, .string p.th, .int .i64 p.pr, .int .i64 p.nl, .int .i64 p.nh, .int .i64 p.fl, .int .i64 p.fh] 37)).alloc (.cells #[.string f.here, .string f.there, .int .i64 f.pr, .int .i64 f.near, .int .i64 f.far] 24)) w.heap.size 37 #[.string p.hl, .string p.hh, .string p.tl, .string p.th, .int .i64 p.pr, .int .i64 p.nl, .int .i64 p.nh, .int .i64 p.fl, .int .i64 p.fh]) := Lib.hid (Blk.alloc K2.out _)
    have N6 : Hid (w.heap.size ≠ (w.heap.size + 1)) := Lib.hid (by have h := Blk.lt K2.out; first | omega | (simp at h; omega))
    have K7 : Hid (Blk ((w.alloc (.cells #[.string p.hl, .string p.hh, .string p.tl, .string p.th, .int .i64 p.pr, .int .i64 p.nl, .int .i64 p.nh, .int .i64 p.fl, .int .i64 p.fh] 37)).alloc (.cells #[.string f.here, .string f.there, .int .i64 f.pr, .int .i64 f.near, .int .i64 f.far] 24)) (w.heap.size + 1) 24 #[.string f.here, .string f.there, .int .i64 f.pr, .int .i64 f.near, .int .i64 f.far]) := Lib.hid (by have h := Blk.new (w.alloc (.cells #[.string p.hl, .string p.hh, .string p.tl, .string p.th, .int .i64 p.pr, .int .i64 p.nl, .int .i64 p.nh, .int .i64 p.fl, .int .i64 p.fh] 37)) 24 #[.string f.here, .string f.there, .int .i64 f.pr, .int .i64 f.near, .int .i64 f.far]; first | exact h | simpa using h)
    have B8 := Lib.hid (B3.out.alloc (by have h := B3.out.size; first | exact h | omega | (simp at h ⊢; omega)) (.cells #[.string f.here, .string f.there, .int .i64 f.pr, .int .i64 f.near, .int .i64 f.far] 24))
    have G9 : Hid (w.heap.size ≤ (w.heap.size + 1)) := Lib.hid (by have h := B3.out.size; first | exact h | omega | (simp at h ⊢; omega))
    skip
    go_enter Try.func6, Try.ntmps6
    go_wp2_with (first | (refine Store.at_load 37 (.tmp 2) ?_ ?_; exact rfl; refine Loads.wpList_load_w rfl 37 (.tmp 2) rfl w.heap.size rfl 37 #[.string p.hl, .string p.hh, .string p.tl, .string p.th, .int .i64 p.pr, .int .i64 p.nl, .int .i64 p.nh, .int .i64 p.fl, .int .i64 p.fh] (0, 0) _ (K5.out) Try.underlying37 rfl (by kernel_rfl) ?_) | (refine Store.at_load 24 (.tmp 3) ?_ ?_; exact rfl; refine Loads.wpList_load_w rfl 24 (.tmp 3) rfl (w.heap.size + 1) rfl 24 #[.string f.here, .string f.there, .int .i64 f.pr, .int .i64 f.near, .int .i64 f.far] (0, 0) _ (K7.out) Try.underlying24 rfl (by kernel_rfl) ?_))
    refine (FW.out _).mono ?_
    rintro e w1 ⟨rfl, hb10⟩
    have K11 : Hid (Blk w1 w.heap.size 37 #[.string p.hl, .string p.hh, .string p.tl, .string p.th, .int .i64 p.pr, .int .i64 p.nl, .int .i64 p.nh, .int .i64 p.fl, .int .i64 p.fh]) := Lib.hid (Blk.below K5.out hb10 (Blk.lt K5.out))
    have K12 : Hid (Blk w1 (w.heap.size + 1) 24 #[.string f.here, .string f.there, .int .i64 f.pr, .int .i64 f.near, .int .i64 f.far]) := Lib.hid (Blk.below K7.out hb10 (Blk.lt K7.out))
    have B13 := Lib.hid (B8.out.trans (hb10.mono B8.out.size))
    clear hb10
    clear FW
    have c14 : w1.cell? ⟨(w.heap.size + 1), 0, none⟩ = some (.string f.here) := K12.out.cell 0
    have c15 : w1.cell? ⟨(w.heap.size + 1), 1, none⟩ = some (.string f.there) := K12.out.cell 1
    have c16 : w1.cell? ⟨(w.heap.size + 1), 2, none⟩ = some (.int .i64 f.pr) := K12.out.cell 2
    have c17 : w1.cell? ⟨(w.heap.size + 1), 3, none⟩ = some (.int .i64 f.near) := K12.out.cell 3
    have c18 : w1.cell? ⟨(w.heap.size + 1), 4, none⟩ = some (.int .i64 f.far) := K12.out.cell 4
    go_wp2_with fail
    go_ret
    exact ⟨rfl, B13.out⟩
  by_cases q2 : ¬ (f.here.size = 4 ∨ f.here.size = 16)
  · have gse : ((f.here.size : Int) != (f.there.size : Int)) = false := by rw [bne_eq_false_iff_eq]; omega
    have gn4 : ((f.here.size : Int) != 4) = true := by rw [bne_iff_ne]; omega
    have gn6 : ((f.here.size : Int) != 16) = true := by rw [bne_iff_ne]; omega
    clear hf hs q1 q2
    have B1 := Lib.hid (Below.refl w.heap.size w)
    have K2 : Hid (Blk (w.alloc (.cells #[.string p.hl, .string p.hh, .string p.tl, .string p.th, .int .i64 p.pr, .int .i64 p.nl, .int .i64 p.nh, .int .i64 p.fl, .int .i64 p.fh] 37)) w.heap.size 37 #[.string p.hl, .string p.hh, .string p.tl, .string p.th, .int .i64 p.pr, .int .i64 p.nl, .int .i64 p.nh, .int .i64 p.fl, .int .i64 p.fh]) := Lib.hid (by have h := Blk.new w 37 #[.string p.hl, .string p.hh, .string p.tl, .string p.th, .int .i64 p.pr, .int .i64 p.nl, .int .i64 p.nh, .int .i64 p.fl, .int .i64 p.fh]; first | exact h | simpa using h)
    have B3 := Lib.hid (B1.out.alloc (by have h := B1.out.size; first | exact h | omega | (simp at h ⊢; omega)) (.cells #[.string p.hl, .string p.hh, .string p.tl, .string p.th, .int .i64 p.pr, .int .i64 p.nl, .int .i64 p.nh, .int .i64 p.fl, .int .i64 p.fh] 37))
    have G4 : Hid (w.heap.size ≤ w.heap.size) := Lib.hid (by have h := B1.out.size; first | exact h | omega | (simp at h ⊢; omega))
    have K5 : Hid (Blk ((w.alloc (.cells #[.string p.hl, .string p.hh, .string p.tl, .string p.th, .int .i64 p.pr, .int .i64 p.nl, .int .i64 p.nh, .int .i64 p.fl, .int .i64 p.fh] 37)).alloc (.cells #[.string f.here, .string f.there, .int .i64 f.pr, .int .i64 f.near, .int .i64 f.far] 24)) w.heap.size 37 #[.string p.hl, .string p.hh, .string p.tl, .string p.th, .int .i64 p.pr, .int .i64 p.nl, .int .i64 p.nh, .int .i64 p.fl, .int .i64 p.fh]) := Lib.hid (Blk.alloc K2.out _)
    have N6 : Hid (w.heap.size ≠ (w.heap.size + 1)) := Lib.hid (by have h := Blk.lt K2.out; first | omega | (simp at h; omega))
    have K7 : Hid (Blk ((w.alloc (.cells #[.string p.hl, .string p.hh, .string p.tl, .string p.th, .int .i64 p.pr, .int .i64 p.nl, .int .i64 p.nh, .int .i64 p.fl, .int .i64 p.fh] 37)).alloc (.cells #[.string f.here, .string f.there, .int .i64 f.pr, .int .i64 f.near, .int .i64 f.far] 24)) (w.heap.size + 1) 24 #[.string f.here, .string f.there, .int .i64 f.pr, .int .i64 f.near, .int .i64 f.far]) := Lib.hid (by have h := Blk.new (w.alloc (.cells #[.string p.hl, .string p.hh, .string p.tl, .string p.th, .int .i64 p.pr, .int .i64 p.nl, .int .i64 p.nh, .int .i64 p.fl, .int .i64 p.fh] 37)) 24 #[.string f.here, .string f.there, .int .i64 f.pr, .int .i64 f.near, .int .i64 f.far]; first | exact h | simpa using h)
    have B8 := Lib.hid (B3.out.alloc (by have h := B3.out.size; first | exact h | omega | (simp at h ⊢; omega)) (.cells #[.string f.here, .string f.there, .int .i64 f.pr, .int .i64 f.near, .int .i64 f.far] 24))
    have G9 : Hid (w.heap.size ≤ (w.heap.size + 1)) := Lib.hid (by have h := B3.out.size; first | exact h | omega | (simp at h ⊢; omega))
    skip
    go_enter Try.func6, Try.ntmps6
    go_wp2_with (first | (refine Store.at_load 37 (.tmp 2) ?_ ?_; exact rfl; refine Loads.wpList_load_w rfl 37 (.tmp 2) rfl w.heap.size rfl 37 #[.string p.hl, .string p.hh, .string p.tl, .string p.th, .int .i64 p.pr, .int .i64 p.nl, .int .i64 p.nh, .int .i64 p.fl, .int .i64 p.fh] (0, 0) _ (K5.out) Try.underlying37 rfl (by kernel_rfl) ?_) | (refine Store.at_load 24 (.tmp 3) ?_ ?_; exact rfl; refine Loads.wpList_load_w rfl 24 (.tmp 3) rfl (w.heap.size + 1) rfl 24 #[.string f.here, .string f.there, .int .i64 f.pr, .int .i64 f.near, .int .i64 f.far] (0, 0) _ (K7.out) Try.underlying24 rfl (by kernel_rfl) ?_))
    refine (FW.out _).mono ?_
    rintro e w1 ⟨rfl, hb10⟩
    have K11 : Hid (Blk w1 w.heap.size 37 #[.string p.hl, .string p.hh, .string p.tl, .string p.th, .int .i64 p.pr, .int .i64 p.nl, .int .i64 p.nh, .int .i64 p.fl, .int .i64 p.fh]) := Lib.hid (Blk.below K5.out hb10 (Blk.lt K5.out))
    have K12 : Hid (Blk w1 (w.heap.size + 1) 24 #[.string f.here, .string f.there, .int .i64 f.pr, .int .i64 f.near, .int .i64 f.far]) := Lib.hid (Blk.below K7.out hb10 (Blk.lt K7.out))
    have B13 := Lib.hid (B8.out.trans (hb10.mono B8.out.size))
    clear hb10
    clear FW
    have c14 : w1.cell? ⟨(w.heap.size + 1), 0, none⟩ = some (.string f.here) := K12.out.cell 0
    have c15 : w1.cell? ⟨(w.heap.size + 1), 1, none⟩ = some (.string f.there) := K12.out.cell 1
    have c16 : w1.cell? ⟨(w.heap.size + 1), 2, none⟩ = some (.int .i64 f.pr) := K12.out.cell 2
    have c17 : w1.cell? ⟨(w.heap.size + 1), 3, none⟩ = some (.int .i64 f.near) := K12.out.cell 3
    have c18 : w1.cell? ⟨(w.heap.size + 1), 4, none⟩ = some (.int .i64 f.far) := K12.out.cell 4
    go_wp2_with fail
    go_ret
    exact ⟨rfl, B13.out⟩
  have q2' : f.here.size = 4 ∨ f.here.size = 16 := by omega
  by_cases q3 : f.pr < 0
  · have gq3 : decide (f.pr < 0) = true := decide_eq_true q3
    rcases q2' with k | k
    · have gse : ((f.here.size : Int) != (f.there.size : Int)) = false := by rw [bne_eq_false_iff_eq]; omega
      have gn4 : ((f.here.size : Int) != 4) = false := by rw [bne_eq_false_iff_eq]; omega
      clear hf hs q1 q2 k
      have B1 := Lib.hid (Below.refl w.heap.size w)
      have K2 : Hid (Blk (w.alloc (.cells #[.string p.hl, .string p.hh, .string p.tl, .string p.th, .int .i64 p.pr, .int .i64 p.nl, .int .i64 p.nh, .int .i64 p.fl, .int .i64 p.fh] 37)) w.heap.size 37 #[.string p.hl, .string p.hh, .string p.tl, .string p.th, .int .i64 p.pr, .int .i64 p.nl, .int .i64 p.nh, .int .i64 p.fl, .int .i64 p.fh]) := Lib.hid (by have h := Blk.new w 37 #[.string p.hl, .string p.hh, .string p.tl, .string p.th, .int .i64 p.pr, .int .i64 p.nl, .int .i64 p.nh, .int .i64 p.fl, .int .i64 p.fh]; first | exact h | simpa using h)
      have B3 := Lib.hid (B1.out.alloc (by have h := B1.out.size; first | exact h | omega | (simp at h ⊢; omega)) (.cells #[.string p.hl, .string p.hh, .string p.tl, .string p.th, .int .i64 p.pr, .int .i64 p.nl, .int .i64 p.nh, .int .i64 p.fl, .int .i64 p.fh] 37))
      have G4 : Hid (w.heap.size ≤ w.heap.size) := Lib.hid (by have h := B1.out.size; first | exact h | omega | (simp at h ⊢; omega))
      have K5 : Hid (Blk ((w.alloc (.cells #[.string p.hl, .string p.hh, .string p.tl, .string p.th, .int .i64 p.pr, .int .i64 p.nl, .int .i64 p.nh, .int .i64 p.fl, .int .i64 p.fh] 37)).alloc (.cells #[.string f.here, .string f.there, .int .i64 f.pr, .int .i64 f.near, .int .i64 f.far] 24)) w.heap.size 37 #[.string p.hl, .string p.hh, .string p.tl, .string p.th, .int .i64 p.pr, .int .i64 p.nl, .int .i64 p.nh, .int .i64 p.fl, .int .i64 p.fh]) := Lib.hid (Blk.alloc K2.out _)
      have N6 : Hid (w.heap.size ≠ (w.heap.size + 1)) := Lib.hid (by have h := Blk.lt K2.out; first | omega | (simp at h; omega))
      have K7 : Hid (Blk ((w.alloc (.cells #[.string p.hl, .string p.hh, .string p.tl, .string p.th, .int .i64 p.pr, .int .i64 p.nl, .int .i64 p.nh, .int .i64 p.fl, .int .i64 p.fh] 37)).alloc (.cells #[.string f.here, .string f.there, .int .i64 f.pr, .int .i64 f.near, .int .i64 f.far] 24)) (w.heap.size + 1) 24 #[.string f.here, .string f.there, .int .i64 f.pr, .int .i64 f.near, .int .i64 f.far]) := Lib.hid (by have h := Blk.new (w.alloc (.cells #[.string p.hl, .string p.hh, .string p.tl, .string p.th, .int .i64 p.pr, .int .i64 p.nl, .int .i64 p.nh, .int .i64 p.fl, .int .i64 p.fh] 37)) 24 #[.string f.here, .string f.there, .int .i64 f.pr, .int .i64 f.near, .int .i64 f.far]; first | exact h | simpa using h)
      have B8 := Lib.hid (B3.out.alloc (by have h := B3.out.size; first | exact h | omega | (simp at h ⊢; omega)) (.cells #[.string f.here, .string f.there, .int .i64 f.pr, .int .i64 f.near, .int .i64 f.far] 24))
      have G9 : Hid (w.heap.size ≤ (w.heap.size + 1)) := Lib.hid (by have h := B3.out.size; first | exact h | omega | (simp at h ⊢; omega))
      skip
      go_enter Try.func6, Try.ntmps6
      go_wp2_with (first | (refine Store.at_load 37 (.tmp 2) ?_ ?_; exact rfl; refine Loads.wpList_load_w rfl 37 (.tmp 2) rfl w.heap.size rfl 37 #[.string p.hl, .string p.hh, .string p.tl, .string p.th, .int .i64 p.pr, .int .i64 p.nl, .int .i64 p.nh, .int .i64 p.fl, .int .i64 p.fh] (0, 0) _ (K5.out) Try.underlying37 rfl (by kernel_rfl) ?_) | (refine Store.at_load 24 (.tmp 3) ?_ ?_; exact rfl; refine Loads.wpList_load_w rfl 24 (.tmp 3) rfl (w.heap.size + 1) rfl 24 #[.string f.here, .string f.there, .int .i64 f.pr, .int .i64 f.near, .int .i64 f.far] (0, 0) _ (K7.out) Try.underlying24 rfl (by kernel_rfl) ?_))
      refine (FW.out _).mono ?_
      rintro e w1 ⟨rfl, hb10⟩
      have K11 : Hid (Blk w1 w.heap.size 37 #[.string p.hl, .string p.hh, .string p.tl, .string p.th, .int .i64 p.pr, .int .i64 p.nl, .int .i64 p.nh, .int .i64 p.fl, .int .i64 p.fh]) := Lib.hid (Blk.below K5.out hb10 (Blk.lt K5.out))
      have K12 : Hid (Blk w1 (w.heap.size + 1) 24 #[.string f.here, .string f.there, .int .i64 f.pr, .int .i64 f.near, .int .i64 f.far]) := Lib.hid (Blk.below K7.out hb10 (Blk.lt K7.out))
      have B13 := Lib.hid (B8.out.trans (hb10.mono B8.out.size))
      clear hb10
      clear FW
      have c14 : w1.cell? ⟨(w.heap.size + 1), 0, none⟩ = some (.string f.here) := K12.out.cell 0
      have c15 : w1.cell? ⟨(w.heap.size + 1), 1, none⟩ = some (.string f.there) := K12.out.cell 1
      have c16 : w1.cell? ⟨(w.heap.size + 1), 2, none⟩ = some (.int .i64 f.pr) := K12.out.cell 2
      have c17 : w1.cell? ⟨(w.heap.size + 1), 3, none⟩ = some (.int .i64 f.near) := K12.out.cell 3
      have c18 : w1.cell? ⟨(w.heap.size + 1), 4, none⟩ = some (.int .i64 f.far) := K12.out.cell 4
      go_wp2_with fail
      go_ret
      exact ⟨rfl, B13.out⟩
    · have gse : ((f.here.size : Int) != (f.there.size : Int)) = false := by rw [bne_eq_false_iff_eq]; omega
      have gn4 : ((f.here.size : Int) != 4) = true := by rw [bne_iff_ne]; omega
      have gn6 : ((f.here.size : Int) != 16) = false := by rw [bne_eq_false_iff_eq]; omega
      clear hf hs q1 q2 k
      have B1 := Lib.hid (Below.refl w.heap.size w)
      have K2 : Hid (Blk (w.alloc (.cells #[.string p.hl, .string p.hh, .string p.tl, .string p.th, .int .i64 p.pr, .int .i64 p.nl, .int .i64 p.nh, .int .i64 p.fl, .int .i64 p.fh] 37)) w.heap.size 37 #[.string p.hl, .string p.hh, .string p.tl, .string p.th, .int .i64 p.pr, .int .i64 p.nl, .int .i64 p.nh, .int .i64 p.fl, .int .i64 p.fh]) := Lib.hid (by have h := Blk.new w 37 #[.string p.hl, .string p.hh, .string p.tl, .string p.th, .int .i64 p.pr, .int .i64 p.nl, .int .i64 p.nh, .int .i64 p.fl, .int .i64 p.fh]; first | exact h | simpa using h)
      have B3 := Lib.hid (B1.out.alloc (by have h := B1.out.size; first | exact h | omega | (simp at h ⊢; omega)) (.cells #[.string p.hl, .string p.hh, .string p.tl, .string p.th, .int .i64 p.pr, .int .i64 p.nl, .int .i64 p.nh, .int .i64 p.fl, .int .i64 p.fh] 37))
      have G4 : Hid (w.heap.size ≤ w.heap.size) := Lib.hid (by have h := B1.out.size; first | exact h | omega | (simp at h ⊢; omega))
      have K5 : Hid (Blk ((w.alloc (.cells #[.string p.hl, .string p.hh, .string p.tl, .string p.th, .int .i64 p.pr, .int .i64 p.nl, .int .i64 p.nh, .int .i64 p.fl, .int .i64 p.fh] 37)).alloc (.cells #[.string f.here, .string f.there, .int .i64 f.pr, .int .i64 f.near, .int .i64 f.far] 24)) w.heap.size 37 #[.string p.hl, .string p.hh, .string p.tl, .string p.th, .int .i64 p.pr, .int .i64 p.nl, .int .i64 p.nh, .int .i64 p.fl, .int .i64 p.fh]) := Lib.hid (Blk.alloc K2.out _)
      have N6 : Hid (w.heap.size ≠ (w.heap.size + 1)) := Lib.hid (by have h := Blk.lt K2.out; first | omega | (simp at h; omega))
      have K7 : Hid (Blk ((w.alloc (.cells #[.string p.hl, .string p.hh, .string p.tl, .string p.th, .int .i64 p.pr, .int .i64 p.nl, .int .i64 p.nh, .int .i64 p.fl, .int .i64 p.fh] 37)).alloc (.cells #[.string f.here, .string f.there, .int .i64 f.pr, .int .i64 f.near, .int .i64 f.far] 24)) (w.heap.size + 1) 24 #[.string f.here, .string f.there, .int .i64 f.pr, .int .i64 f.near, .int .i64 f.far]) := Lib.hid (by have h := Blk.new (w.alloc (.cells #[.string p.hl, .string p.hh, .string p.tl, .string p.th, .int .i64 p.pr, .int .i64 p.nl, .int .i64 p.nh, .int .i64 p.fl, .int .i64 p.fh] 37)) 24 #[.string f.here, .string f.there, .int .i64 f.pr, .int .i64 f.near, .int .i64 f.far]; first | exact h | simpa using h)
      have B8 := Lib.hid (B3.out.alloc (by have h := B3.out.size; first | exact h | omega | (simp at h ⊢; omega)) (.cells #[.string f.here, .string f.there, .int .i64 f.pr, .int .i64 f.near, .int .i64 f.far] 24))
      have G9 : Hid (w.heap.size ≤ (w.heap.size + 1)) := Lib.hid (by have h := B3.out.size; first | exact h | omega | (simp at h ⊢; omega))
      skip
      go_enter Try.func6, Try.ntmps6
      go_wp2_with (first | (refine Store.at_load 37 (.tmp 2) ?_ ?_; exact rfl; refine Loads.wpList_load_w rfl 37 (.tmp 2) rfl w.heap.size rfl 37 #[.string p.hl, .string p.hh, .string p.tl, .string p.th, .int .i64 p.pr, .int .i64 p.nl, .int .i64 p.nh, .int .i64 p.fl, .int .i64 p.fh] (0, 0) _ (K5.out) Try.underlying37 rfl (by kernel_rfl) ?_) | (refine Store.at_load 24 (.tmp 3) ?_ ?_; exact rfl; refine Loads.wpList_load_w rfl 24 (.tmp 3) rfl (w.heap.size + 1) rfl 24 #[.string f.here, .string f.there, .int .i64 f.pr, .int .i64 f.near, .int .i64 f.far] (0, 0) _ (K7.out) Try.underlying24 rfl (by kernel_rfl) ?_))
      refine (FW.out _).mono ?_
      rintro e w1 ⟨rfl, hb10⟩
      have K11 : Hid (Blk w1 w.heap.size 37 #[.string p.hl, .string p.hh, .string p.tl, .string p.th, .int .i64 p.pr, .int .i64 p.nl, .int .i64 p.nh, .int .i64 p.fl, .int .i64 p.fh]) := Lib.hid (Blk.below K5.out hb10 (Blk.lt K5.out))
      have K12 : Hid (Blk w1 (w.heap.size + 1) 24 #[.string f.here, .string f.there, .int .i64 f.pr, .int .i64 f.near, .int .i64 f.far]) := Lib.hid (Blk.below K7.out hb10 (Blk.lt K7.out))
      have B13 := Lib.hid (B8.out.trans (hb10.mono B8.out.size))
      clear hb10
      clear FW
      have c14 : w1.cell? ⟨(w.heap.size + 1), 0, none⟩ = some (.string f.here) := K12.out.cell 0
      have c15 : w1.cell? ⟨(w.heap.size + 1), 1, none⟩ = some (.string f.there) := K12.out.cell 1
      have c16 : w1.cell? ⟨(w.heap.size + 1), 2, none⟩ = some (.int .i64 f.pr) := K12.out.cell 2
      have c17 : w1.cell? ⟨(w.heap.size + 1), 3, none⟩ = some (.int .i64 f.near) := K12.out.cell 3
      have c18 : w1.cell? ⟨(w.heap.size + 1), 4, none⟩ = some (.int .i64 f.far) := K12.out.cell 4
      go_wp2_with fail
      go_ret
      exact ⟨rfl, B13.out⟩
  by_cases q4 : 255 < f.pr
  · have gq4 : decide (255 < f.pr) = true := decide_eq_true q4
    rcases q2' with k | k
    · have gq3 : decide (f.pr < 0) = false := decide_eq_false q3
      have gse : ((f.here.size : Int) != (f.there.size : Int)) = false := by rw [bne_eq_false_iff_eq]; omega
      have gn4 : ((f.here.size : Int) != 4) = false := by rw [bne_eq_false_iff_eq]; omega
      clear hf hs q1 q2 k
      have B1 := Lib.hid (Below.refl w.heap.size w)
      have K2 : Hid (Blk (w.alloc (.cells #[.string p.hl, .string p.hh, .string p.tl, .string p.th, .int .i64 p.pr, .int .i64 p.nl, .int .i64 p.nh, .int .i64 p.fl, .int .i64 p.fh] 37)) w.heap.size 37 #[.string p.hl, .string p.hh, .string p.tl, .string p.th, .int .i64 p.pr, .int .i64 p.nl, .int .i64 p.nh, .int .i64 p.fl, .int .i64 p.fh]) := Lib.hid (by have h := Blk.new w 37 #[.string p.hl, .string p.hh, .string p.tl, .string p.th, .int .i64 p.pr, .int .i64 p.nl, .int .i64 p.nh, .int .i64 p.fl, .int .i64 p.fh]; first | exact h | simpa using h)
      have B3 := Lib.hid (B1.out.alloc (by have h := B1.out.size; first | exact h | omega | (simp at h ⊢; omega)) (.cells #[.string p.hl, .string p.hh, .string p.tl, .string p.th, .int .i64 p.pr, .int .i64 p.nl, .int .i64 p.nh, .int .i64 p.fl, .int .i64 p.fh] 37))
      have G4 : Hid (w.heap.size ≤ w.heap.size) := Lib.hid (by have h := B1.out.size; first | exact h | omega | (simp at h ⊢; omega))
      have K5 : Hid (Blk ((w.alloc (.cells #[.string p.hl, .string p.hh, .string p.tl, .string p.th, .int .i64 p.pr, .int .i64 p.nl, .int .i64 p.nh, .int .i64 p.fl, .int .i64 p.fh] 37)).alloc (.cells #[.string f.here, .string f.there, .int .i64 f.pr, .int .i64 f.near, .int .i64 f.far] 24)) w.heap.size 37 #[.string p.hl, .string p.hh, .string p.tl, .string p.th, .int .i64 p.pr, .int .i64 p.nl, .int .i64 p.nh, .int .i64 p.fl, .int .i64 p.fh]) := Lib.hid (Blk.alloc K2.out _)
      have N6 : Hid (w.heap.size ≠ (w.heap.size + 1)) := Lib.hid (by have h := Blk.lt K2.out; first | omega | (simp at h; omega))
      have K7 : Hid (Blk ((w.alloc (.cells #[.string p.hl, .string p.hh, .string p.tl, .string p.th, .int .i64 p.pr, .int .i64 p.nl, .int .i64 p.nh, .int .i64 p.fl, .int .i64 p.fh] 37)).alloc (.cells #[.string f.here, .string f.there, .int .i64 f.pr, .int .i64 f.near, .int .i64 f.far] 24)) (w.heap.size + 1) 24 #[.string f.here, .string f.there, .int .i64 f.pr, .int .i64 f.near, .int .i64 f.far]) := Lib.hid (by have h := Blk.new (w.alloc (.cells #[.string p.hl, .string p.hh, .string p.tl, .string p.th, .int .i64 p.pr, .int .i64 p.nl, .int .i64 p.nh, .int .i64 p.fl, .int .i64 p.fh] 37)) 24 #[.string f.here, .string f.there, .int .i64 f.pr, .int .i64 f.near, .int .i64 f.far]; first | exact h | simpa using h)
      have B8 := Lib.hid (B3.out.alloc (by have h := B3.out.size; first | exact h | omega | (simp at h ⊢; omega)) (.cells #[.string f.here, .string f.there, .int .i64 f.pr, .int .i64 f.near, .int .i64 f.far] 24))
      have G9 : Hid (w.heap.size ≤ (w.heap.size + 1)) := Lib.hid (by have h := B3.out.size; first | exact h | omega | (simp at h ⊢; omega))
      skip
      go_enter Try.func6, Try.ntmps6
      go_wp2_with (first | (refine Store.at_load 37 (.tmp 2) ?_ ?_; exact rfl; refine Loads.wpList_load_w rfl 37 (.tmp 2) rfl w.heap.size rfl 37 #[.string p.hl, .string p.hh, .string p.tl, .string p.th, .int .i64 p.pr, .int .i64 p.nl, .int .i64 p.nh, .int .i64 p.fl, .int .i64 p.fh] (0, 0) _ (K5.out) Try.underlying37 rfl (by kernel_rfl) ?_) | (refine Store.at_load 24 (.tmp 3) ?_ ?_; exact rfl; refine Loads.wpList_load_w rfl 24 (.tmp 3) rfl (w.heap.size + 1) rfl 24 #[.string f.here, .string f.there, .int .i64 f.pr, .int .i64 f.near, .int .i64 f.far] (0, 0) _ (K7.out) Try.underlying24 rfl (by kernel_rfl) ?_))
      refine (FW.out _).mono ?_
      rintro e w1 ⟨rfl, hb10⟩
      have K11 : Hid (Blk w1 w.heap.size 37 #[.string p.hl, .string p.hh, .string p.tl, .string p.th, .int .i64 p.pr, .int .i64 p.nl, .int .i64 p.nh, .int .i64 p.fl, .int .i64 p.fh]) := Lib.hid (Blk.below K5.out hb10 (Blk.lt K5.out))
      have K12 : Hid (Blk w1 (w.heap.size + 1) 24 #[.string f.here, .string f.there, .int .i64 f.pr, .int .i64 f.near, .int .i64 f.far]) := Lib.hid (Blk.below K7.out hb10 (Blk.lt K7.out))
      have B13 := Lib.hid (B8.out.trans (hb10.mono B8.out.size))
      clear hb10
      clear FW
      have c14 : w1.cell? ⟨(w.heap.size + 1), 0, none⟩ = some (.string f.here) := K12.out.cell 0
      have c15 : w1.cell? ⟨(w.heap.size + 1), 1, none⟩ = some (.string f.there) := K12.out.cell 1
      have c16 : w1.cell? ⟨(w.heap.size + 1), 2, none⟩ = some (.int .i64 f.pr) := K12.out.cell 2
      have c17 : w1.cell? ⟨(w.heap.size + 1), 3, none⟩ = some (.int .i64 f.near) := K12.out.cell 3
      have c18 : w1.cell? ⟨(w.heap.size + 1), 4, none⟩ = some (.int .i64 f.far) := K12.out.cell 4
      go_wp2_with fail
      go_ret
      exact ⟨rfl, B13.out⟩
    · have gq3 : decide (f.pr < 0) = false := decide_eq_false q3
      have gse : ((f.here.size : Int) != (f.there.size : Int)) = false := by rw [bne_eq_false_iff_eq]; omega
      have gn4 : ((f.here.size : Int) != 4) = true := by rw [bne_iff_ne]; omega
      have gn6 : ((f.here.size : Int) != 16) = false := by rw [bne_eq_false_iff_eq]; omega
      clear hf hs q1 q2 k
      have B1 := Lib.hid (Below.refl w.heap.size w)
      have K2 : Hid (Blk (w.alloc (.cells #[.string p.hl, .string p.hh, .string p.tl, .string p.th, .int .i64 p.pr, .int .i64 p.nl, .int .i64 p.nh, .int .i64 p.fl, .int .i64 p.fh] 37)) w.heap.size 37 #[.string p.hl, .string p.hh, .string p.tl, .string p.th, .int .i64 p.pr, .int .i64 p.nl, .int .i64 p.nh, .int .i64 p.fl, .int .i64 p.fh]) := Lib.hid (by have h := Blk.new w 37 #[.string p.hl, .string p.hh, .string p.tl, .string p.th, .int .i64 p.pr, .int .i64 p.nl, .int .i64 p.nh, .int .i64 p.fl, .int .i64 p.fh]; first | exact h | simpa using h)
      have B3 := Lib.hid (B1.out.alloc (by have h := B1.out.size; first | exact h | omega | (simp at h ⊢; omega)) (.cells #[.string p.hl, .string p.hh, .string p.tl, .string p.th, .int .i64 p.pr, .int .i64 p.nl, .int .i64 p.nh, .int .i64 p.fl, .int .i64 p.fh] 37))
      have G4 : Hid (w.heap.size ≤ w.heap.size) := Lib.hid (by have h := B1.out.size; first | exact h | omega | (simp at h ⊢; omega))
      have K5 : Hid (Blk ((w.alloc (.cells #[.string p.hl, .string p.hh, .string p.tl, .string p.th, .int .i64 p.pr, .int .i64 p.nl, .int .i64 p.nh, .int .i64 p.fl, .int .i64 p.fh] 37)).alloc (.cells #[.string f.here, .string f.there, .int .i64 f.pr, .int .i64 f.near, .int .i64 f.far] 24)) w.heap.size 37 #[.string p.hl, .string p.hh, .string p.tl, .string p.th, .int .i64 p.pr, .int .i64 p.nl, .int .i64 p.nh, .int .i64 p.fl, .int .i64 p.fh]) := Lib.hid (Blk.alloc K2.out _)
      have N6 : Hid (w.heap.size ≠ (w.heap.size + 1)) := Lib.hid (by have h := Blk.lt K2.out; first | omega | (simp at h; omega))
      have K7 : Hid (Blk ((w.alloc (.cells #[.string p.hl, .string p.hh, .string p.tl, .string p.th, .int .i64 p.pr, .int .i64 p.nl, .int .i64 p.nh, .int .i64 p.fl, .int .i64 p.fh] 37)).alloc (.cells #[.string f.here, .string f.there, .int .i64 f.pr, .int .i64 f.near, .int .i64 f.far] 24)) (w.heap.size + 1) 24 #[.string f.here, .string f.there, .int .i64 f.pr, .int .i64 f.near, .int .i64 f.far]) := Lib.hid (by have h := Blk.new (w.alloc (.cells #[.string p.hl, .string p.hh, .string p.tl, .string p.th, .int .i64 p.pr, .int .i64 p.nl, .int .i64 p.nh, .int .i64 p.fl, .int .i64 p.fh] 37)) 24 #[.string f.here, .string f.there, .int .i64 f.pr, .int .i64 f.near, .int .i64 f.far]; first | exact h | simpa using h)
      have B8 := Lib.hid (B3.out.alloc (by have h := B3.out.size; first | exact h | omega | (simp at h ⊢; omega)) (.cells #[.string f.here, .string f.there, .int .i64 f.pr, .int .i64 f.near, .int .i64 f.far] 24))
      have G9 : Hid (w.heap.size ≤ (w.heap.size + 1)) := Lib.hid (by have h := B3.out.size; first | exact h | omega | (simp at h ⊢; omega))
      skip
      go_enter Try.func6, Try.ntmps6
      go_wp2_with (first | (refine Store.at_load 37 (.tmp 2) ?_ ?_; exact rfl; refine Loads.wpList_load_w rfl 37 (.tmp 2) rfl w.heap.size rfl 37 #[.string p.hl, .string p.hh, .string p.tl, .string p.th, .int .i64 p.pr, .int .i64 p.nl, .int .i64 p.nh, .int .i64 p.fl, .int .i64 p.fh] (0, 0) _ (K5.out) Try.underlying37 rfl (by kernel_rfl) ?_) | (refine Store.at_load 24 (.tmp 3) ?_ ?_; exact rfl; refine Loads.wpList_load_w rfl 24 (.tmp 3) rfl (w.heap.size + 1) rfl 24 #[.string f.here, .string f.there, .int .i64 f.pr, .int .i64 f.near, .int .i64 f.far] (0, 0) _ (K7.out) Try.underlying24 rfl (by kernel_rfl) ?_))
      refine (FW.out _).mono ?_
      rintro e w1 ⟨rfl, hb10⟩
      have K11 : Hid (Blk w1 w.heap.size 37 #[.string p.hl, .string p.hh, .string p.tl, .string p.th, .int .i64 p.pr, .int .i64 p.nl, .int .i64 p.nh, .int .i64 p.fl, .int .i64 p.fh]) := Lib.hid (Blk.below K5.out hb10 (Blk.lt K5.out))
      have K12 : Hid (Blk w1 (w.heap.size + 1) 24 #[.string f.here, .string f.there, .int .i64 f.pr, .int .i64 f.near, .int .i64 f.far]) := Lib.hid (Blk.below K7.out hb10 (Blk.lt K7.out))
      have B13 := Lib.hid (B8.out.trans (hb10.mono B8.out.size))
      clear hb10
      clear FW
      have c14 : w1.cell? ⟨(w.heap.size + 1), 0, none⟩ = some (.string f.here) := K12.out.cell 0
      have c15 : w1.cell? ⟨(w.heap.size + 1), 1, none⟩ = some (.string f.there) := K12.out.cell 1
      have c16 : w1.cell? ⟨(w.heap.size + 1), 2, none⟩ = some (.int .i64 f.pr) := K12.out.cell 2
      have c17 : w1.cell? ⟨(w.heap.size + 1), 3, none⟩ = some (.int .i64 f.near) := K12.out.cell 3
      have c18 : w1.cell? ⟨(w.heap.size + 1), 4, none⟩ = some (.int .i64 f.far) := K12.out.cell 4
      go_wp2_with fail
      go_ret
      exact ⟨rfl, B13.out⟩
  exact absurd ⟨hs, by omega, q2', by omega⟩ hf
set_option maxRecDepth 100000 in
set_option maxHeartbeats 2000000 in
theorem none_not2 (p : Pk) (f : Fl) (w : World) (h : small p f) (hf : sz p f ≤ 600 ∧ f.here.size = f.there.size ∧ (f.here.size = 4 ∨ f.here.size = 16) ∧ (0 ≤ f.pr ∧ f.pr ≤ 255)) (hg : ¬ ((-1 ≤ f.near ∧ f.near ≤ 65535) ∧ (-1 ≤ f.far ∧ f.far ≤ 65535))) :
    Calls Try.prog 6 #[.agg #[.string p.hl, .string p.hh, .string p.tl, .string p.th, .int .i64 p.pr, .int .i64 p.nl, .int .i64 p.nh, .int .i64 p.fl, .int .i64 p.fh], .agg #[.string f.here, .string f.there, .int .i64 f.pr, .int .i64 f.near, .int .i64 f.far]] w fun e w' => e = .returned (.bool true) ∧ Below w.heap.size w w' := by
  obtain ⟨fb, hfb⟩ : ∃ b, b = decide (sz p f ≤ 600) := ⟨_, rfl⟩
  have FW := Lib.hid (fun W => few_code p f W h)
  rw [← hfb] at FW
  obtain rfl : fb = true := by rw [hfb, decide_eq_true hf.1]
  clear hfb h
  by_cases q5 : f.near < -1
  · have gq5 : decide (f.near < -1) = true := decide_eq_true q5
    rcases hf.2.2.1 with k | k
    · have gq3 : decide (f.pr < 0) = false := decide_eq_false (by omega)
      have gq4 : decide (255 < f.pr) = false := decide_eq_false (by omega)
      have gse : ((f.here.size : Int) != (f.there.size : Int)) = false := by rw [bne_eq_false_iff_eq]; omega
      have gn4 : ((f.here.size : Int) != 4) = false := by rw [bne_eq_false_iff_eq]; omega
      clear hf hg k
      have B1 := Lib.hid (Below.refl w.heap.size w)
      have K2 : Hid (Blk (w.alloc (.cells #[.string p.hl, .string p.hh, .string p.tl, .string p.th, .int .i64 p.pr, .int .i64 p.nl, .int .i64 p.nh, .int .i64 p.fl, .int .i64 p.fh] 37)) w.heap.size 37 #[.string p.hl, .string p.hh, .string p.tl, .string p.th, .int .i64 p.pr, .int .i64 p.nl, .int .i64 p.nh, .int .i64 p.fl, .int .i64 p.fh]) := Lib.hid (by have h := Blk.new w 37 #[.string p.hl, .string p.hh, .string p.tl, .string p.th, .int .i64 p.pr, .int .i64 p.nl, .int .i64 p.nh, .int .i64 p.fl, .int .i64 p.fh]; first | exact h | simpa using h)
      have B3 := Lib.hid (B1.out.alloc (by have h := B1.out.size; first | exact h | omega | (simp at h ⊢; omega)) (.cells #[.string p.hl, .string p.hh, .string p.tl, .string p.th, .int .i64 p.pr, .int .i64 p.nl, .int .i64 p.nh, .int .i64 p.fl, .int .i64 p.fh] 37))
      have G4 : Hid (w.heap.size ≤ w.heap.size) := Lib.hid (by have h := B1.out.size; first | exact h | omega | (simp at h ⊢; omega))
      have K5 : Hid (Blk ((w.alloc (.cells #[.string p.hl, .string p.hh, .string p.tl, .string p.th, .int .i64 p.pr, .int .i64 p.nl, .int .i64 p.nh, .int .i64 p.fl, .int .i64 p.fh] 37)).alloc (.cells #[.string f.here, .string f.there, .int .i64 f.pr, .int .i64 f.near, .int .i64 f.far] 24)) w.heap.size 37 #[.string p.hl, .string p.hh, .string p.tl, .string p.th, .int .i64 p.pr, .int .i64 p.nl, .int .i64 p.nh, .int .i64 p.fl, .int .i64 p.fh]) := Lib.hid (Blk.alloc K2.out _)
      have N6 : Hid (w.heap.size ≠ (w.heap.size + 1)) := Lib.hid (by have h := Blk.lt K2.out; first | omega | (simp at h; omega))
      have K7 : Hid (Blk ((w.alloc (.cells #[.string p.hl, .string p.hh, .string p.tl, .string p.th, .int .i64 p.pr, .int .i64 p.nl, .int .i64 p.nh, .int .i64 p.fl, .int .i64 p.fh] 37)).alloc (.cells #[.string f.here, .string f.there, .int .i64 f.pr, .int .i64 f.near, .int .i64 f.far] 24)) (w.heap.size + 1) 24 #[.string f.here, .string f.there, .int .i64 f.pr, .int .i64 f.near, .int .i64 f.far]) := Lib.hid (by have h := Blk.new (w.alloc (.cells #[.string p.hl, .string p.hh, .string p.tl, .string p.th, .int .i64 p.pr, .int .i64 p.nl, .int .i64 p.nh, .int .i64 p.fl, .int .i64 p.fh] 37)) 24 #[.string f.here, .string f.there, .int .i64 f.pr, .int .i64 f.near, .int .i64 f.far]; first | exact h | simpa using h)
      have B8 := Lib.hid (B3.out.alloc (by have h := B3.out.size; first | exact h | omega | (simp at h ⊢; omega)) (.cells #[.string f.here, .string f.there, .int .i64 f.pr, .int .i64 f.near, .int .i64 f.far] 24))
      have G9 : Hid (w.heap.size ≤ (w.heap.size + 1)) := Lib.hid (by have h := B3.out.size; first | exact h | omega | (simp at h ⊢; omega))
      skip
      go_enter Try.func6, Try.ntmps6
      go_wp2_with (first | (refine Store.at_load 37 (.tmp 2) ?_ ?_; exact rfl; refine Loads.wpList_load_w rfl 37 (.tmp 2) rfl w.heap.size rfl 37 #[.string p.hl, .string p.hh, .string p.tl, .string p.th, .int .i64 p.pr, .int .i64 p.nl, .int .i64 p.nh, .int .i64 p.fl, .int .i64 p.fh] (0, 0) _ (K5.out) Try.underlying37 rfl (by kernel_rfl) ?_) | (refine Store.at_load 24 (.tmp 3) ?_ ?_; exact rfl; refine Loads.wpList_load_w rfl 24 (.tmp 3) rfl (w.heap.size + 1) rfl 24 #[.string f.here, .string f.there, .int .i64 f.pr, .int .i64 f.near, .int .i64 f.far] (0, 0) _ (K7.out) Try.underlying24 rfl (by kernel_rfl) ?_))
      refine (FW.out _).mono ?_
      rintro e w1 ⟨rfl, hb10⟩
      have K11 : Hid (Blk w1 w.heap.size 37 #[.string p.hl, .string p.hh, .string p.tl, .string p.th, .int .i64 p.pr, .int .i64 p.nl, .int .i64 p.nh, .int .i64 p.fl, .int .i64 p.fh]) := Lib.hid (Blk.below K5.out hb10 (Blk.lt K5.out))
      have K12 : Hid (Blk w1 (w.heap.size + 1) 24 #[.string f.here, .string f.there, .int .i64 f.pr, .int .i64 f.near, .int .i64 f.far]) := Lib.hid (Blk.below K7.out hb10 (Blk.lt K7.out))
      have B13 := Lib.hid (B8.out.trans (hb10.mono B8.out.size))
      clear hb10
      clear FW
      have c14 : w1.cell? ⟨(w.heap.size + 1), 0, none⟩ = some (.string f.here) := K12.out.cell 0
      have c15 : w1.cell? ⟨(w.heap.size + 1), 1, none⟩ = some (.string f.there) := K12.out.cell 1
      have c16 : w1.cell? ⟨(w.heap.size + 1), 2, none⟩ = some (.int .i64 f.pr) := K12.out.cell 2
      have c17 : w1.cell? ⟨(w.heap.size + 1), 3, none⟩ = some (.int .i64 f.near) := K12.out.cell 3
      have c18 : w1.cell? ⟨(w.heap.size + 1), 4, none⟩ = some (.int .i64 f.far) := K12.out.cell 4
      go_wp2_with fail
      go_ret
      exact ⟨rfl, B13.out⟩
    · have gq3 : decide (f.pr < 0) = false := decide_eq_false (by omega)
      have gq4 : decide (255 < f.pr) = false := decide_eq_false (by omega)
      have gse : ((f.here.size : Int) != (f.there.size : Int)) = false := by rw [bne_eq_false_iff_eq]; omega
      have gn4 : ((f.here.size : Int) != 4) = true := by rw [bne_iff_ne]; omega
      have gn6 : ((f.here.size : Int) != 16) = false := by rw [bne_eq_false_iff_eq]; omega
      clear hf hg k
      have B1 := Lib.hid (Below.refl w.heap.size w)
      have K2 : Hid (Blk (w.alloc (.cells #[.string p.hl, .string p.hh, .string p.tl, .string p.th, .int .i64 p.pr, .int .i64 p.nl, .int .i64 p.nh, .int .i64 p.fl, .int .i64 p.fh] 37)) w.heap.size 37 #[.string p.hl, .string p.hh, .string p.tl, .string p.th, .int .i64 p.pr, .int .i64 p.nl, .int .i64 p.nh, .int .i64 p.fl, .int .i64 p.fh]) := Lib.hid (by have h := Blk.new w 37 #[.string p.hl, .string p.hh, .string p.tl, .string p.th, .int .i64 p.pr, .int .i64 p.nl, .int .i64 p.nh, .int .i64 p.fl, .int .i64 p.fh]; first | exact h | simpa using h)
      have B3 := Lib.hid (B1.out.alloc (by have h := B1.out.size; first | exact h | omega | (simp at h ⊢; omega)) (.cells #[.string p.hl, .string p.hh, .string p.tl, .string p.th, .int .i64 p.pr, .int .i64 p.nl, .int .i64 p.nh, .int .i64 p.fl, .int .i64 p.fh] 37))
      have G4 : Hid (w.heap.size ≤ w.heap.size) := Lib.hid (by have h := B1.out.size; first | exact h | omega | (simp at h ⊢; omega))
      have K5 : Hid (Blk ((w.alloc (.cells #[.string p.hl, .string p.hh, .string p.tl, .string p.th, .int .i64 p.pr, .int .i64 p.nl, .int .i64 p.nh, .int .i64 p.fl, .int .i64 p.fh] 37)).alloc (.cells #[.string f.here, .string f.there, .int .i64 f.pr, .int .i64 f.near, .int .i64 f.far] 24)) w.heap.size 37 #[.string p.hl, .string p.hh, .string p.tl, .string p.th, .int .i64 p.pr, .int .i64 p.nl, .int .i64 p.nh, .int .i64 p.fl, .int .i64 p.fh]) := Lib.hid (Blk.alloc K2.out _)
      have N6 : Hid (w.heap.size ≠ (w.heap.size + 1)) := Lib.hid (by have h := Blk.lt K2.out; first | omega | (simp at h; omega))
      have K7 : Hid (Blk ((w.alloc (.cells #[.string p.hl, .string p.hh, .string p.tl, .string p.th, .int .i64 p.pr, .int .i64 p.nl, .int .i64 p.nh, .int .i64 p.fl, .int .i64 p.fh] 37)).alloc (.cells #[.string f.here, .string f.there, .int .i64 f.pr, .int .i64 f.near, .int .i64 f.far] 24)) (w.heap.size + 1) 24 #[.string f.here, .string f.there, .int .i64 f.pr, .int .i64 f.near, .int .i64 f.far]) := Lib.hid (by have h := Blk.new (w.alloc (.cells #[.string p.hl, .string p.hh, .string p.tl, .string p.th, .int .i64 p.pr, .int .i64 p.nl, .int .i64 p.nh, .int .i64 p.fl, .int .i64 p.fh] 37)) 24 #[.string f.here, .string f.there, .int .i64 f.pr, .int .i64 f.near, .int .i64 f.far]; first | exact h | simpa using h)
      have B8 := Lib.hid (B3.out.alloc (by have h := B3.out.size; first | exact h | omega | (simp at h ⊢; omega)) (.cells #[.string f.here, .string f.there, .int .i64 f.pr, .int .i64 f.near, .int .i64 f.far] 24))
      have G9 : Hid (w.heap.size ≤ (w.heap.size + 1)) := Lib.hid (by have h := B3.out.size; first | exact h | omega | (simp at h ⊢; omega))
      skip
      go_enter Try.func6, Try.ntmps6
      go_wp2_with (first | (refine Store.at_load 37 (.tmp 2) ?_ ?_; exact rfl; refine Loads.wpList_load_w rfl 37 (.tmp 2) rfl w.heap.size rfl 37 #[.string p.hl, .string p.hh, .string p.tl, .string p.th, .int .i64 p.pr, .int .i64 p.nl, .int .i64 p.nh, .int .i64 p.fl, .int .i64 p.fh] (0, 0) _ (K5.out) Try.underlying37 rfl (by kernel_rfl) ?_) | (refine Store.at_load 24 (.tmp 3) ?_ ?_; exact rfl; refine Loads.wpList_load_w rfl 24 (.tmp 3) rfl (w.heap.size + 1) rfl 24 #[.string f.here, .string f.there, .int .i64 f.pr, .int .i64 f.near, .int .i64 f.far] (0, 0) _ (K7.out) Try.underlying24 rfl (by kernel_rfl) ?_))
      refine (FW.out _).mono ?_
      rintro e w1 ⟨rfl, hb10⟩
      have K11 : Hid (Blk w1 w.heap.size 37 #[.string p.hl, .string p.hh, .string p.tl, .string p.th, .int .i64 p.pr, .int .i64 p.nl, .int .i64 p.nh, .int .i64 p.fl, .int .i64 p.fh]) := Lib.hid (Blk.below K5.out hb10 (Blk.lt K5.out))
      have K12 : Hid (Blk w1 (w.heap.size + 1) 24 #[.string f.here, .string f.there, .int .i64 f.pr, .int .i64 f.near, .int .i64 f.far]) := Lib.hid (Blk.below K7.out hb10 (Blk.lt K7.out))
      have B13 := Lib.hid (B8.out.trans (hb10.mono B8.out.size))
      clear hb10
      clear FW
      have c14 : w1.cell? ⟨(w.heap.size + 1), 0, none⟩ = some (.string f.here) := K12.out.cell 0
      have c15 : w1.cell? ⟨(w.heap.size + 1), 1, none⟩ = some (.string f.there) := K12.out.cell 1
      have c16 : w1.cell? ⟨(w.heap.size + 1), 2, none⟩ = some (.int .i64 f.pr) := K12.out.cell 2
      have c17 : w1.cell? ⟨(w.heap.size + 1), 3, none⟩ = some (.int .i64 f.near) := K12.out.cell 3
      have c18 : w1.cell? ⟨(w.heap.size + 1), 4, none⟩ = some (.int .i64 f.far) := K12.out.cell 4
      go_wp2_with fail
      go_ret
      exact ⟨rfl, B13.out⟩
  by_cases q6 : 65535 < f.near
  · have gq6 : decide (65535 < f.near) = true := decide_eq_true q6
    rcases hf.2.2.1 with k | k
    · have gq3 : decide (f.pr < 0) = false := decide_eq_false (by omega)
      have gq4 : decide (255 < f.pr) = false := decide_eq_false (by omega)
      have gq5 : decide (f.near < -1) = false := decide_eq_false q5
      have gse : ((f.here.size : Int) != (f.there.size : Int)) = false := by rw [bne_eq_false_iff_eq]; omega
      have gn4 : ((f.here.size : Int) != 4) = false := by rw [bne_eq_false_iff_eq]; omega
      clear hf hg k
      have B1 := Lib.hid (Below.refl w.heap.size w)
      have K2 : Hid (Blk (w.alloc (.cells #[.string p.hl, .string p.hh, .string p.tl, .string p.th, .int .i64 p.pr, .int .i64 p.nl, .int .i64 p.nh, .int .i64 p.fl, .int .i64 p.fh] 37)) w.heap.size 37 #[.string p.hl, .string p.hh, .string p.tl, .string p.th, .int .i64 p.pr, .int .i64 p.nl, .int .i64 p.nh, .int .i64 p.fl, .int .i64 p.fh]) := Lib.hid (by have h := Blk.new w 37 #[.string p.hl, .string p.hh, .string p.tl, .string p.th, .int .i64 p.pr, .int .i64 p.nl, .int .i64 p.nh, .int .i64 p.fl, .int .i64 p.fh]; first | exact h | simpa using h)
      have B3 := Lib.hid (B1.out.alloc (by have h := B1.out.size; first | exact h | omega | (simp at h ⊢; omega)) (.cells #[.string p.hl, .string p.hh, .string p.tl, .string p.th, .int .i64 p.pr, .int .i64 p.nl, .int .i64 p.nh, .int .i64 p.fl, .int .i64 p.fh] 37))
      have G4 : Hid (w.heap.size ≤ w.heap.size) := Lib.hid (by have h := B1.out.size; first | exact h | omega | (simp at h ⊢; omega))
      have K5 : Hid (Blk ((w.alloc (.cells #[.string p.hl, .string p.hh, .string p.tl, .string p.th, .int .i64 p.pr, .int .i64 p.nl, .int .i64 p.nh, .int .i64 p.fl, .int .i64 p.fh] 37)).alloc (.cells #[.string f.here, .string f.there, .int .i64 f.pr, .int .i64 f.near, .int .i64 f.far] 24)) w.heap.size 37 #[.string p.hl, .string p.hh, .string p.tl, .string p.th, .int .i64 p.pr, .int .i64 p.nl, .int .i64 p.nh, .int .i64 p.fl, .int .i64 p.fh]) := Lib.hid (Blk.alloc K2.out _)
      have N6 : Hid (w.heap.size ≠ (w.heap.size + 1)) := Lib.hid (by have h := Blk.lt K2.out; first | omega | (simp at h; omega))
      have K7 : Hid (Blk ((w.alloc (.cells #[.string p.hl, .string p.hh, .string p.tl, .string p.th, .int .i64 p.pr, .int .i64 p.nl, .int .i64 p.nh, .int .i64 p.fl, .int .i64 p.fh] 37)).alloc (.cells #[.string f.here, .string f.there, .int .i64 f.pr, .int .i64 f.near, .int .i64 f.far] 24)) (w.heap.size + 1) 24 #[.string f.here, .string f.there, .int .i64 f.pr, .int .i64 f.near, .int .i64 f.far]) := Lib.hid (by have h := Blk.new (w.alloc (.cells #[.string p.hl, .string p.hh, .string p.tl, .string p.th, .int .i64 p.pr, .int .i64 p.nl, .int .i64 p.nh, .int .i64 p.fl, .int .i64 p.fh] 37)) 24 #[.string f.here, .string f.there, .int .i64 f.pr, .int .i64 f.near, .int .i64 f.far]; first | exact h | simpa using h)
      have B8 := Lib.hid (B3.out.alloc (by have h := B3.out.size; first | exact h | omega | (simp at h ⊢; omega)) (.cells #[.string f.here, .string f.there, .int .i64 f.pr, .int .i64 f.near, .int .i64 f.far] 24))
      have G9 : Hid (w.heap.size ≤ (w.heap.size + 1)) := Lib.hid (by have h := B3.out.size; first | exact h | omega | (simp at h ⊢; omega))
      skip
      go_enter Try.func6, Try.ntmps6
      go_wp2_with (first | (refine Store.at_load 37 (.tmp 2) ?_ ?_; exact rfl; refine Loads.wpList_load_w rfl 37 (.tmp 2) rfl w.heap.size rfl 37 #[.string p.hl, .string p.hh, .string p.tl, .string p.th, .int .i64 p.pr, .int .i64 p.nl, .int .i64 p.nh, .int .i64 p.fl, .int .i64 p.fh] (0, 0) _ (K5.out) Try.underlying37 rfl (by kernel_rfl) ?_) | (refine Store.at_load 24 (.tmp 3) ?_ ?_; exact rfl; refine Loads.wpList_load_w rfl 24 (.tmp 3) rfl (w.heap.size + 1) rfl 24 #[.string f.here, .string f.there, .int .i64 f.pr, .int .i64 f.near, .int .i64 f.far] (0, 0) _ (K7.out) Try.underlying24 rfl (by kernel_rfl) ?_))
      refine (FW.out _).mono ?_
      rintro e w1 ⟨rfl, hb10⟩
      have K11 : Hid (Blk w1 w.heap.size 37 #[.string p.hl, .string p.hh, .string p.tl, .string p.th, .int .i64 p.pr, .int .i64 p.nl, .int .i64 p.nh, .int .i64 p.fl, .int .i64 p.fh]) := Lib.hid (Blk.below K5.out hb10 (Blk.lt K5.out))
      have K12 : Hid (Blk w1 (w.heap.size + 1) 24 #[.string f.here, .string f.there, .int .i64 f.pr, .int .i64 f.near, .int .i64 f.far]) := Lib.hid (Blk.below K7.out hb10 (Blk.lt K7.out))
      have B13 := Lib.hid (B8.out.trans (hb10.mono B8.out.size))
      clear hb10
      clear FW
      have c14 : w1.cell? ⟨(w.heap.size + 1), 0, none⟩ = some (.string f.here) := K12.out.cell 0
      have c15 : w1.cell? ⟨(w.heap.size + 1), 1, none⟩ = some (.string f.there) := K12.out.cell 1
      have c16 : w1.cell? ⟨(w.heap.size + 1), 2, none⟩ = some (.int .i64 f.pr) := K12.out.cell 2
      have c17 : w1.cell? ⟨(w.heap.size + 1), 3, none⟩ = some (.int .i64 f.near) := K12.out.cell 3
      have c18 : w1.cell? ⟨(w.heap.size + 1), 4, none⟩ = some (.int .i64 f.far) := K12.out.cell 4
      go_wp2_with fail
      go_ret
      exact ⟨rfl, B13.out⟩
    · have gq3 : decide (f.pr < 0) = false := decide_eq_false (by omega)
      have gq4 : decide (255 < f.pr) = false := decide_eq_false (by omega)
      have gq5 : decide (f.near < -1) = false := decide_eq_false q5
      have gse : ((f.here.size : Int) != (f.there.size : Int)) = false := by rw [bne_eq_false_iff_eq]; omega
      have gn4 : ((f.here.size : Int) != 4) = true := by rw [bne_iff_ne]; omega
      have gn6 : ((f.here.size : Int) != 16) = false := by rw [bne_eq_false_iff_eq]; omega
      clear hf hg k
      have B1 := Lib.hid (Below.refl w.heap.size w)
      have K2 : Hid (Blk (w.alloc (.cells #[.string p.hl, .string p.hh, .string p.tl, .string p.th, .int .i64 p.pr, .int .i64 p.nl, .int .i64 p.nh, .int .i64 p.fl, .int .i64 p.fh] 37)) w.heap.size 37 #[.string p.hl, .string p.hh, .string p.tl, .string p.th, .int .i64 p.pr, .int .i64 p.nl, .int .i64 p.nh, .int .i64 p.fl, .int .i64 p.fh]) := Lib.hid (by have h := Blk.new w 37 #[.string p.hl, .string p.hh, .string p.tl, .string p.th, .int .i64 p.pr, .int .i64 p.nl, .int .i64 p.nh, .int .i64 p.fl, .int .i64 p.fh]; first | exact h | simpa using h)
      have B3 := Lib.hid (B1.out.alloc (by have h := B1.out.size; first | exact h | omega | (simp at h ⊢; omega)) (.cells #[.string p.hl, .string p.hh, .string p.tl, .string p.th, .int .i64 p.pr, .int .i64 p.nl, .int .i64 p.nh, .int .i64 p.fl, .int .i64 p.fh] 37))
      have G4 : Hid (w.heap.size ≤ w.heap.size) := Lib.hid (by have h := B1.out.size; first | exact h | omega | (simp at h ⊢; omega))
      have K5 : Hid (Blk ((w.alloc (.cells #[.string p.hl, .string p.hh, .string p.tl, .string p.th, .int .i64 p.pr, .int .i64 p.nl, .int .i64 p.nh, .int .i64 p.fl, .int .i64 p.fh] 37)).alloc (.cells #[.string f.here, .string f.there, .int .i64 f.pr, .int .i64 f.near, .int .i64 f.far] 24)) w.heap.size 37 #[.string p.hl, .string p.hh, .string p.tl, .string p.th, .int .i64 p.pr, .int .i64 p.nl, .int .i64 p.nh, .int .i64 p.fl, .int .i64 p.fh]) := Lib.hid (Blk.alloc K2.out _)
      have N6 : Hid (w.heap.size ≠ (w.heap.size + 1)) := Lib.hid (by have h := Blk.lt K2.out; first | omega | (simp at h; omega))
      have K7 : Hid (Blk ((w.alloc (.cells #[.string p.hl, .string p.hh, .string p.tl, .string p.th, .int .i64 p.pr, .int .i64 p.nl, .int .i64 p.nh, .int .i64 p.fl, .int .i64 p.fh] 37)).alloc (.cells #[.string f.here, .string f.there, .int .i64 f.pr, .int .i64 f.near, .int .i64 f.far] 24)) (w.heap.size + 1) 24 #[.string f.here, .string f.there, .int .i64 f.pr, .int .i64 f.near, .int .i64 f.far]) := Lib.hid (by have h := Blk.new (w.alloc (.cells #[.string p.hl, .string p.hh, .string p.tl, .string p.th, .int .i64 p.pr, .int .i64 p.nl, .int .i64 p.nh, .int .i64 p.fl, .int .i64 p.fh] 37)) 24 #[.string f.here, .string f.there, .int .i64 f.pr, .int .i64 f.near, .int .i64 f.far]; first | exact h | simpa using h)
      have B8 := Lib.hid (B3.out.alloc (by have h := B3.out.size; first | exact h | omega | (simp at h ⊢; omega)) (.cells #[.string f.here, .string f.there, .int .i64 f.pr, .int .i64 f.near, .int .i64 f.far] 24))
      have G9 : Hid (w.heap.size ≤ (w.heap.size + 1)) := Lib.hid (by have h := B3.out.size; first | exact h | omega | (simp at h ⊢; omega))
      skip
      go_enter Try.func6, Try.ntmps6
      go_wp2_with (first | (refine Store.at_load 37 (.tmp 2) ?_ ?_; exact rfl; refine Loads.wpList_load_w rfl 37 (.tmp 2) rfl w.heap.size rfl 37 #[.string p.hl, .string p.hh, .string p.tl, .string p.th, .int .i64 p.pr, .int .i64 p.nl, .int .i64 p.nh, .int .i64 p.fl, .int .i64 p.fh] (0, 0) _ (K5.out) Try.underlying37 rfl (by kernel_rfl) ?_) | (refine Store.at_load 24 (.tmp 3) ?_ ?_; exact rfl; refine Loads.wpList_load_w rfl 24 (.tmp 3) rfl (w.heap.size + 1) rfl 24 #[.string f.here, .string f.there, .int .i64 f.pr, .int .i64 f.near, .int .i64 f.far] (0, 0) _ (K7.out) Try.underlying24 rfl (by kernel_rfl) ?_))
      refine (FW.out _).mono ?_
      rintro e w1 ⟨rfl, hb10⟩
      have K11 : Hid (Blk w1 w.heap.size 37 #[.string p.hl, .string p.hh, .string p.tl, .string p.th, .int .i64 p.pr, .int .i64 p.nl, .int .i64 p.nh, .int .i64 p.fl, .int .i64 p.fh]) := Lib.hid (Blk.below K5.out hb10 (Blk.lt K5.out))
      have K12 : Hid (Blk w1 (w.heap.size + 1) 24 #[.string f.here, .string f.there, .int .i64 f.pr, .int .i64 f.near, .int .i64 f.far]) := Lib.hid (Blk.below K7.out hb10 (Blk.lt K7.out))
      have B13 := Lib.hid (B8.out.trans (hb10.mono B8.out.size))
      clear hb10
      clear FW
      have c14 : w1.cell? ⟨(w.heap.size + 1), 0, none⟩ = some (.string f.here) := K12.out.cell 0
      have c15 : w1.cell? ⟨(w.heap.size + 1), 1, none⟩ = some (.string f.there) := K12.out.cell 1
      have c16 : w1.cell? ⟨(w.heap.size + 1), 2, none⟩ = some (.int .i64 f.pr) := K12.out.cell 2
      have c17 : w1.cell? ⟨(w.heap.size + 1), 3, none⟩ = some (.int .i64 f.near) := K12.out.cell 3
      have c18 : w1.cell? ⟨(w.heap.size + 1), 4, none⟩ = some (.int .i64 f.far) := K12.out.cell 4
      go_wp2_with fail
      go_ret
      exact ⟨rfl, B13.out⟩
  by_cases q7 : f.far < -1
  · have gq7 : decide (f.far < -1) = true := decide_eq_true q7
    rcases hf.2.2.1 with k | k
    · have gq3 : decide (f.pr < 0) = false := decide_eq_false (by omega)
      have gq4 : decide (255 < f.pr) = false := decide_eq_false (by omega)
      have gq5 : decide (f.near < -1) = false := decide_eq_false q5
      have gq6 : decide (65535 < f.near) = false := decide_eq_false q6
      have gse : ((f.here.size : Int) != (f.there.size : Int)) = false := by rw [bne_eq_false_iff_eq]; omega
      have gn4 : ((f.here.size : Int) != 4) = false := by rw [bne_eq_false_iff_eq]; omega
      clear hf hg k
      have B1 := Lib.hid (Below.refl w.heap.size w)
      have K2 : Hid (Blk (w.alloc (.cells #[.string p.hl, .string p.hh, .string p.tl, .string p.th, .int .i64 p.pr, .int .i64 p.nl, .int .i64 p.nh, .int .i64 p.fl, .int .i64 p.fh] 37)) w.heap.size 37 #[.string p.hl, .string p.hh, .string p.tl, .string p.th, .int .i64 p.pr, .int .i64 p.nl, .int .i64 p.nh, .int .i64 p.fl, .int .i64 p.fh]) := Lib.hid (by have h := Blk.new w 37 #[.string p.hl, .string p.hh, .string p.tl, .string p.th, .int .i64 p.pr, .int .i64 p.nl, .int .i64 p.nh, .int .i64 p.fl, .int .i64 p.fh]; first | exact h | simpa using h)
      have B3 := Lib.hid (B1.out.alloc (by have h := B1.out.size; first | exact h | omega | (simp at h ⊢; omega)) (.cells #[.string p.hl, .string p.hh, .string p.tl, .string p.th, .int .i64 p.pr, .int .i64 p.nl, .int .i64 p.nh, .int .i64 p.fl, .int .i64 p.fh] 37))
      have G4 : Hid (w.heap.size ≤ w.heap.size) := Lib.hid (by have h := B1.out.size; first | exact h | omega | (simp at h ⊢; omega))
      have K5 : Hid (Blk ((w.alloc (.cells #[.string p.hl, .string p.hh, .string p.tl, .string p.th, .int .i64 p.pr, .int .i64 p.nl, .int .i64 p.nh, .int .i64 p.fl, .int .i64 p.fh] 37)).alloc (.cells #[.string f.here, .string f.there, .int .i64 f.pr, .int .i64 f.near, .int .i64 f.far] 24)) w.heap.size 37 #[.string p.hl, .string p.hh, .string p.tl, .string p.th, .int .i64 p.pr, .int .i64 p.nl, .int .i64 p.nh, .int .i64 p.fl, .int .i64 p.fh]) := Lib.hid (Blk.alloc K2.out _)
      have N6 : Hid (w.heap.size ≠ (w.heap.size + 1)) := Lib.hid (by have h := Blk.lt K2.out; first | omega | (simp at h; omega))
      have K7 : Hid (Blk ((w.alloc (.cells #[.string p.hl, .string p.hh, .string p.tl, .string p.th, .int .i64 p.pr, .int .i64 p.nl, .int .i64 p.nh, .int .i64 p.fl, .int .i64 p.fh] 37)).alloc (.cells #[.string f.here, .string f.there, .int .i64 f.pr, .int .i64 f.near, .int .i64 f.far] 24)) (w.heap.size + 1) 24 #[.string f.here, .string f.there, .int .i64 f.pr, .int .i64 f.near, .int .i64 f.far]) := Lib.hid (by have h := Blk.new (w.alloc (.cells #[.string p.hl, .string p.hh, .string p.tl, .string p.th, .int .i64 p.pr, .int .i64 p.nl, .int .i64 p.nh, .int .i64 p.fl, .int .i64 p.fh] 37)) 24 #[.string f.here, .string f.there, .int .i64 f.pr, .int .i64 f.near, .int .i64 f.far]; first | exact h | simpa using h)
      have B8 := Lib.hid (B3.out.alloc (by have h := B3.out.size; first | exact h | omega | (simp at h ⊢; omega)) (.cells #[.string f.here, .string f.there, .int .i64 f.pr, .int .i64 f.near, .int .i64 f.far] 24))
      have G9 : Hid (w.heap.size ≤ (w.heap.size + 1)) := Lib.hid (by have h := B3.out.size; first | exact h | omega | (simp at h ⊢; omega))
      skip
      go_enter Try.func6, Try.ntmps6
      go_wp2_with (first | (refine Store.at_load 37 (.tmp 2) ?_ ?_; exact rfl; refine Loads.wpList_load_w rfl 37 (.tmp 2) rfl w.heap.size rfl 37 #[.string p.hl, .string p.hh, .string p.tl, .string p.th, .int .i64 p.pr, .int .i64 p.nl, .int .i64 p.nh, .int .i64 p.fl, .int .i64 p.fh] (0, 0) _ (K5.out) Try.underlying37 rfl (by kernel_rfl) ?_) | (refine Store.at_load 24 (.tmp 3) ?_ ?_; exact rfl; refine Loads.wpList_load_w rfl 24 (.tmp 3) rfl (w.heap.size + 1) rfl 24 #[.string f.here, .string f.there, .int .i64 f.pr, .int .i64 f.near, .int .i64 f.far] (0, 0) _ (K7.out) Try.underlying24 rfl (by kernel_rfl) ?_))
      refine (FW.out _).mono ?_
      rintro e w1 ⟨rfl, hb10⟩
      have K11 : Hid (Blk w1 w.heap.size 37 #[.string p.hl, .string p.hh, .string p.tl, .string p.th, .int .i64 p.pr, .int .i64 p.nl, .int .i64 p.nh, .int .i64 p.fl, .int .i64 p.fh]) := Lib.hid (Blk.below K5.out hb10 (Blk.lt K5.out))
      have K12 : Hid (Blk w1 (w.heap.size + 1) 24 #[.string f.here, .string f.there, .int .i64 f.pr, .int .i64 f.near, .int .i64 f.far]) := Lib.hid (Blk.below K7.out hb10 (Blk.lt K7.out))
      have B13 := Lib.hid (B8.out.trans (hb10.mono B8.out.size))
      clear hb10
      clear FW
      have c14 : w1.cell? ⟨(w.heap.size + 1), 0, none⟩ = some (.string f.here) := K12.out.cell 0
      have c15 : w1.cell? ⟨(w.heap.size + 1), 1, none⟩ = some (.string f.there) := K12.out.cell 1
      have c16 : w1.cell? ⟨(w.heap.size + 1), 2, none⟩ = some (.int .i64 f.pr) := K12.out.cell 2
      have c17 : w1.cell? ⟨(w.heap.size + 1), 3, none⟩ = some (.int .i64 f.near) := K12.out.cell 3
      have c18 : w1.cell? ⟨(w.heap.size + 1), 4, none⟩ = some (.int .i64 f.far) := K12.out.cell 4
      go_wp2_with fail
      go_ret
      exact ⟨rfl, B13.out⟩
    · have gq3 : decide (f.pr < 0) = false := decide_eq_false (by omega)
      have gq4 : decide (255 < f.pr) = false := decide_eq_false (by omega)
      have gq5 : decide (f.near < -1) = false := decide_eq_false q5
      have gq6 : decide (65535 < f.near) = false := decide_eq_false q6
      have gse : ((f.here.size : Int) != (f.there.size : Int)) = false := by rw [bne_eq_false_iff_eq]; omega
      have gn4 : ((f.here.size : Int) != 4) = true := by rw [bne_iff_ne]; omega
      have gn6 : ((f.here.size : Int) != 16) = false := by rw [bne_eq_false_iff_eq]; omega
      clear hf hg k
      have B1 := Lib.hid (Below.refl w.heap.size w)
      have K2 : Hid (Blk (w.alloc (.cells #[.string p.hl, .string p.hh, .string p.tl, .string p.th, .int .i64 p.pr, .int .i64 p.nl, .int .i64 p.nh, .int .i64 p.fl, .int .i64 p.fh] 37)) w.heap.size 37 #[.string p.hl, .string p.hh, .string p.tl, .string p.th, .int .i64 p.pr, .int .i64 p.nl, .int .i64 p.nh, .int .i64 p.fl, .int .i64 p.fh]) := Lib.hid (by have h := Blk.new w 37 #[.string p.hl, .string p.hh, .string p.tl, .string p.th, .int .i64 p.pr, .int .i64 p.nl, .int .i64 p.nh, .int .i64 p.fl, .int .i64 p.fh]; first | exact h | simpa using h)
      have B3 := Lib.hid (B1.out.alloc (by have h := B1.out.size; first | exact h | omega | (simp at h ⊢; omega)) (.cells #[.string p.hl, .string p.hh, .string p.tl, .string p.th, .int .i64 p.pr, .int .i64 p.nl, .int .i64 p.nh, .int .i64 p.fl, .int .i64 p.fh] 37))
      have G4 : Hid (w.heap.size ≤ w.heap.size) := Lib.hid (by have h := B1.out.size; first | exact h | omega | (simp at h ⊢; omega))
      have K5 : Hid (Blk ((w.alloc (.cells #[.string p.hl, .string p.hh, .string p.tl, .string p.th, .int .i64 p.pr, .int .i64 p.nl, .int .i64 p.nh, .int .i64 p.fl, .int .i64 p.fh] 37)).alloc (.cells #[.string f.here, .string f.there, .int .i64 f.pr, .int .i64 f.near, .int .i64 f.far] 24)) w.heap.size 37 #[.string p.hl, .string p.hh, .string p.tl, .string p.th, .int .i64 p.pr, .int .i64 p.nl, .int .i64 p.nh, .int .i64 p.fl, .int .i64 p.fh]) := Lib.hid (Blk.alloc K2.out _)
      have N6 : Hid (w.heap.size ≠ (w.heap.size + 1)) := Lib.hid (by have h := Blk.lt K2.out; first | omega | (simp at h; omega))
      have K7 : Hid (Blk ((w.alloc (.cells #[.string p.hl, .string p.hh, .string p.tl, .string p.th, .int .i64 p.pr, .int .i64 p.nl, .int .i64 p.nh, .int .i64 p.fl, .int .i64 p.fh] 37)).alloc (.cells #[.string f.here, .string f.there, .int .i64 f.pr, .int .i64 f.near, .int .i64 f.far] 24)) (w.heap.size + 1) 24 #[.string f.here, .string f.there, .int .i64 f.pr, .int .i64 f.near, .int .i64 f.far]) := Lib.hid (by have h := Blk.new (w.alloc (.cells #[.string p.hl, .string p.hh, .string p.tl, .string p.th, .int .i64 p.pr, .int .i64 p.nl, .int .i64 p.nh, .int .i64 p.fl, .int .i64 p.fh] 37)) 24 #[.string f.here, .string f.there, .int .i64 f.pr, .int .i64 f.near, .int .i64 f.far]; first | exact h | simpa using h)
      have B8 := Lib.hid (B3.out.alloc (by have h := B3.out.size; first | exact h | omega | (simp at h ⊢; omega)) (.cells #[.string f.here, .string f.there, .int .i64 f.pr, .int .i64 f.near, .int .i64 f.far] 24))
      have G9 : Hid (w.heap.size ≤ (w.heap.size + 1)) := Lib.hid (by have h := B3.out.size; first | exact h | omega | (simp at h ⊢; omega))
      skip
      go_enter Try.func6, Try.ntmps6
      go_wp2_with (first | (refine Store.at_load 37 (.tmp 2) ?_ ?_; exact rfl; refine Loads.wpList_load_w rfl 37 (.tmp 2) rfl w.heap.size rfl 37 #[.string p.hl, .string p.hh, .string p.tl, .string p.th, .int .i64 p.pr, .int .i64 p.nl, .int .i64 p.nh, .int .i64 p.fl, .int .i64 p.fh] (0, 0) _ (K5.out) Try.underlying37 rfl (by kernel_rfl) ?_) | (refine Store.at_load 24 (.tmp 3) ?_ ?_; exact rfl; refine Loads.wpList_load_w rfl 24 (.tmp 3) rfl (w.heap.size + 1) rfl 24 #[.string f.here, .string f.there, .int .i64 f.pr, .int .i64 f.near, .int .i64 f.far] (0, 0) _ (K7.out) Try.underlying24 rfl (by kernel_rfl) ?_))
      refine (FW.out _).mono ?_
      rintro e w1 ⟨rfl, hb10⟩
      have K11 : Hid (Blk w1 w.heap.size 37 #[.string p.hl, .string p.hh, .string p.tl, .string p.th, .int .i64 p.pr, .int .i64 p.nl, .int .i64 p.nh, .int .i64 p.fl, .int .i64 p.fh]) := Lib.hid (Blk.below K5.out hb10 (Blk.lt K5.out))
      have K12 : Hid (Blk w1 (w.heap.size + 1) 24 #[.string f.here, .string f.there, .int .i64 f.pr, .int .i64 f.near, .int .i64 f.far]) := Lib.hid (Blk.below K7.out hb10 (Blk.lt K7.out))
      have B13 := Lib.hid (B8.out.trans (hb10.mono B8.out.size))
      clear hb10
      clear FW
      have c14 : w1.cell? ⟨(w.heap.size + 1), 0, none⟩ = some (.string f.here) := K12.out.cell 0
      have c15 : w1.cell? ⟨(w.heap.size + 1), 1, none⟩ = some (.string f.there) := K12.out.cell 1
      have c16 : w1.cell? ⟨(w.heap.size + 1), 2, none⟩ = some (.int .i64 f.pr) := K12.out.cell 2
      have c17 : w1.cell? ⟨(w.heap.size + 1), 3, none⟩ = some (.int .i64 f.near) := K12.out.cell 3
      have c18 : w1.cell? ⟨(w.heap.size + 1), 4, none⟩ = some (.int .i64 f.far) := K12.out.cell 4
      go_wp2_with fail
      go_ret
      exact ⟨rfl, B13.out⟩
  by_cases q8 : 65535 < f.far
  · have gq8 : decide (65535 < f.far) = true := decide_eq_true q8
    rcases hf.2.2.1 with k | k
    · have gq3 : decide (f.pr < 0) = false := decide_eq_false (by omega)
      have gq4 : decide (255 < f.pr) = false := decide_eq_false (by omega)
      have gq5 : decide (f.near < -1) = false := decide_eq_false q5
      have gq6 : decide (65535 < f.near) = false := decide_eq_false q6
      have gq7 : decide (f.far < -1) = false := decide_eq_false q7
      have gse : ((f.here.size : Int) != (f.there.size : Int)) = false := by rw [bne_eq_false_iff_eq]; omega
      have gn4 : ((f.here.size : Int) != 4) = false := by rw [bne_eq_false_iff_eq]; omega
      clear hf hg k
      have B1 := Lib.hid (Below.refl w.heap.size w)
      have K2 : Hid (Blk (w.alloc (.cells #[.string p.hl, .string p.hh, .string p.tl, .string p.th, .int .i64 p.pr, .int .i64 p.nl, .int .i64 p.nh, .int .i64 p.fl, .int .i64 p.fh] 37)) w.heap.size 37 #[.string p.hl, .string p.hh, .string p.tl, .string p.th, .int .i64 p.pr, .int .i64 p.nl, .int .i64 p.nh, .int .i64 p.fl, .int .i64 p.fh]) := Lib.hid (by have h := Blk.new w 37 #[.string p.hl, .string p.hh, .string p.tl, .string p.th, .int .i64 p.pr, .int .i64 p.nl, .int .i64 p.nh, .int .i64 p.fl, .int .i64 p.fh]; first | exact h | simpa using h)
      have B3 := Lib.hid (B1.out.alloc (by have h := B1.out.size; first | exact h | omega | (simp at h ⊢; omega)) (.cells #[.string p.hl, .string p.hh, .string p.tl, .string p.th, .int .i64 p.pr, .int .i64 p.nl, .int .i64 p.nh, .int .i64 p.fl, .int .i64 p.fh] 37))
      have G4 : Hid (w.heap.size ≤ w.heap.size) := Lib.hid (by have h := B1.out.size; first | exact h | omega | (simp at h ⊢; omega))
      have K5 : Hid (Blk ((w.alloc (.cells #[.string p.hl, .string p.hh, .string p.tl, .string p.th, .int .i64 p.pr, .int .i64 p.nl, .int .i64 p.nh, .int .i64 p.fl, .int .i64 p.fh] 37)).alloc (.cells #[.string f.here, .string f.there, .int .i64 f.pr, .int .i64 f.near, .int .i64 f.far] 24)) w.heap.size 37 #[.string p.hl, .string p.hh, .string p.tl, .string p.th, .int .i64 p.pr, .int .i64 p.nl, .int .i64 p.nh, .int .i64 p.fl, .int .i64 p.fh]) := Lib.hid (Blk.alloc K2.out _)
      have N6 : Hid (w.heap.size ≠ (w.heap.size + 1)) := Lib.hid (by have h := Blk.lt K2.out; first | omega | (simp at h; omega))
      have K7 : Hid (Blk ((w.alloc (.cells #[.string p.hl, .string p.hh, .string p.tl, .string p.th, .int .i64 p.pr, .int .i64 p.nl, .int .i64 p.nh, .int .i64 p.fl, .int .i64 p.fh] 37)).alloc (.cells #[.string f.here, .string f.there, .int .i64 f.pr, .int .i64 f.near, .int .i64 f.far] 24)) (w.heap.size + 1) 24 #[.string f.here, .string f.there, .int .i64 f.pr, .int .i64 f.near, .int .i64 f.far]) := Lib.hid (by have h := Blk.new (w.alloc (.cells #[.string p.hl, .string p.hh, .string p.tl, .string p.th, .int .i64 p.pr, .int .i64 p.nl, .int .i64 p.nh, .int .i64 p.fl, .int .i64 p.fh] 37)) 24 #[.string f.here, .string f.there, .int .i64 f.pr, .int .i64 f.near, .int .i64 f.far]; first | exact h | simpa using h)
      have B8 := Lib.hid (B3.out.alloc (by have h := B3.out.size; first | exact h | omega | (simp at h ⊢; omega)) (.cells #[.string f.here, .string f.there, .int .i64 f.pr, .int .i64 f.near, .int .i64 f.far] 24))
      have G9 : Hid (w.heap.size ≤ (w.heap.size + 1)) := Lib.hid (by have h := B3.out.size; first | exact h | omega | (simp at h ⊢; omega))
      skip
      go_enter Try.func6, Try.ntmps6
      go_wp2_with (first | (refine Store.at_load 37 (.tmp 2) ?_ ?_; exact rfl; refine Loads.wpList_load_w rfl 37 (.tmp 2) rfl w.heap.size rfl 37 #[.string p.hl, .string p.hh, .string p.tl, .string p.th, .int .i64 p.pr, .int .i64 p.nl, .int .i64 p.nh, .int .i64 p.fl, .int .i64 p.fh] (0, 0) _ (K5.out) Try.underlying37 rfl (by kernel_rfl) ?_) | (refine Store.at_load 24 (.tmp 3) ?_ ?_; exact rfl; refine Loads.wpList_load_w rfl 24 (.tmp 3) rfl (w.heap.size + 1) rfl 24 #[.string f.here, .string f.there, .int .i64 f.pr, .int .i64 f.near, .int .i64 f.far] (0, 0) _ (K7.out) Try.underlying24 rfl (by kernel_rfl) ?_))
      refine (FW.out _).mono ?_
      rintro e w1 ⟨rfl, hb10⟩
      have K11 : Hid (Blk w1 w.heap.size 37 #[.string p.hl, .string p.hh, .string p.tl, .string p.th, .int .i64 p.pr, .int .i64 p.nl, .int .i64 p.nh, .int .i64 p.fl, .int .i64 p.fh]) := Lib.hid (Blk.below K5.out hb10 (Blk.lt K5.out))
      have K12 : Hid (Blk w1 (w.heap.size + 1) 24 #[.string f.here, .string f.there, .int .i64 f.pr, .int .i64 f.near, .int .i64 f.far]) := Lib.hid (Blk.below K7.out hb10 (Blk.lt K7.out))
      have B13 := Lib.hid (B8.out.trans (hb10.mono B8.out.size))
      clear hb10
      clear FW
      have c14 : w1.cell? ⟨(w.heap.size + 1), 0, none⟩ = some (.string f.here) := K12.out.cell 0
      have c15 : w1.cell? ⟨(w.heap.size + 1), 1, none⟩ = some (.string f.there) := K12.out.cell 1
      have c16 : w1.cell? ⟨(w.heap.size + 1), 2, none⟩ = some (.int .i64 f.pr) := K12.out.cell 2
      have c17 : w1.cell? ⟨(w.heap.size + 1), 3, none⟩ = some (.int .i64 f.near) := K12.out.cell 3
      have c18 : w1.cell? ⟨(w.heap.size + 1), 4, none⟩ = some (.int .i64 f.far) := K12.out.cell 4
      go_wp2_with fail
      go_ret
      exact ⟨rfl, B13.out⟩
    · have gq3 : decide (f.pr < 0) = false := decide_eq_false (by omega)
      have gq4 : decide (255 < f.pr) = false := decide_eq_false (by omega)
      have gq5 : decide (f.near < -1) = false := decide_eq_false q5
      have gq6 : decide (65535 < f.near) = false := decide_eq_false q6
      have gq7 : decide (f.far < -1) = false := decide_eq_false q7
      have gse : ((f.here.size : Int) != (f.there.size : Int)) = false := by rw [bne_eq_false_iff_eq]; omega
      have gn4 : ((f.here.size : Int) != 4) = true := by rw [bne_iff_ne]; omega
      have gn6 : ((f.here.size : Int) != 16) = false := by rw [bne_eq_false_iff_eq]; omega
      clear hf hg k
      have B1 := Lib.hid (Below.refl w.heap.size w)
      have K2 : Hid (Blk (w.alloc (.cells #[.string p.hl, .string p.hh, .string p.tl, .string p.th, .int .i64 p.pr, .int .i64 p.nl, .int .i64 p.nh, .int .i64 p.fl, .int .i64 p.fh] 37)) w.heap.size 37 #[.string p.hl, .string p.hh, .string p.tl, .string p.th, .int .i64 p.pr, .int .i64 p.nl, .int .i64 p.nh, .int .i64 p.fl, .int .i64 p.fh]) := Lib.hid (by have h := Blk.new w 37 #[.string p.hl, .string p.hh, .string p.tl, .string p.th, .int .i64 p.pr, .int .i64 p.nl, .int .i64 p.nh, .int .i64 p.fl, .int .i64 p.fh]; first | exact h | simpa using h)
      have B3 := Lib.hid (B1.out.alloc (by have h := B1.out.size; first | exact h | omega | (simp at h ⊢; omega)) (.cells #[.string p.hl, .string p.hh, .string p.tl, .string p.th, .int .i64 p.pr, .int .i64 p.nl, .int .i64 p.nh, .int .i64 p.fl, .int .i64 p.fh] 37))
      have G4 : Hid (w.heap.size ≤ w.heap.size) := Lib.hid (by have h := B1.out.size; first | exact h | omega | (simp at h ⊢; omega))
      have K5 : Hid (Blk ((w.alloc (.cells #[.string p.hl, .string p.hh, .string p.tl, .string p.th, .int .i64 p.pr, .int .i64 p.nl, .int .i64 p.nh, .int .i64 p.fl, .int .i64 p.fh] 37)).alloc (.cells #[.string f.here, .string f.there, .int .i64 f.pr, .int .i64 f.near, .int .i64 f.far] 24)) w.heap.size 37 #[.string p.hl, .string p.hh, .string p.tl, .string p.th, .int .i64 p.pr, .int .i64 p.nl, .int .i64 p.nh, .int .i64 p.fl, .int .i64 p.fh]) := Lib.hid (Blk.alloc K2.out _)
      have N6 : Hid (w.heap.size ≠ (w.heap.size + 1)) := Lib.hid (by have h := Blk.lt K2.out; first | omega | (simp at h; omega))
      have K7 : Hid (Blk ((w.alloc (.cells #[.string p.hl, .string p.hh, .string p.tl, .string p.th, .int .i64 p.pr, .int .i64 p.nl, .int .i64 p.nh, .int .i64 p.fl, .int .i64 p.fh] 37)).alloc (.cells #[.string f.here, .string f.there, .int .i64 f.pr, .int .i64 f.near, .int .i64 f.far] 24)) (w.heap.size + 1) 24 #[.string f.here, .string f.there, .int .i64 f.pr, .int .i64 f.near, .int .i64 f.far]) := Lib.hid (by have h := Blk.new (w.alloc (.cells #[.string p.hl, .string p.hh, .string p.tl, .string p.th, .int .i64 p.pr, .int .i64 p.nl, .int .i64 p.nh, .int .i64 p.fl, .int .i64 p.fh] 37)) 24 #[.string f.here, .string f.there, .int .i64 f.pr, .int .i64 f.near, .int .i64 f.far]; first | exact h | simpa using h)
      have B8 := Lib.hid (B3.out.alloc (by have h := B3.out.size; first | exact h | omega | (simp at h ⊢; omega)) (.cells #[.string f.here, .string f.there, .int .i64 f.pr, .int .i64 f.near, .int .i64 f.far] 24))
      have G9 : Hid (w.heap.size ≤ (w.heap.size + 1)) := Lib.hid (by have h := B3.out.size; first | exact h | omega | (simp at h ⊢; omega))
      skip
      go_enter Try.func6, Try.ntmps6
      go_wp2_with (first | (refine Store.at_load 37 (.tmp 2) ?_ ?_; exact rfl; refine Loads.wpList_load_w rfl 37 (.tmp 2) rfl w.heap.size rfl 37 #[.string p.hl, .string p.hh, .string p.tl, .string p.th, .int .i64 p.pr, .int .i64 p.nl, .int .i64 p.nh, .int .i64 p.fl, .int .i64 p.fh] (0, 0) _ (K5.out) Try.underlying37 rfl (by kernel_rfl) ?_) | (refine Store.at_load 24 (.tmp 3) ?_ ?_; exact rfl; refine Loads.wpList_load_w rfl 24 (.tmp 3) rfl (w.heap.size + 1) rfl 24 #[.string f.here, .string f.there, .int .i64 f.pr, .int .i64 f.near, .int .i64 f.far] (0, 0) _ (K7.out) Try.underlying24 rfl (by kernel_rfl) ?_))
      refine (FW.out _).mono ?_
      rintro e w1 ⟨rfl, hb10⟩
      have K11 : Hid (Blk w1 w.heap.size 37 #[.string p.hl, .string p.hh, .string p.tl, .string p.th, .int .i64 p.pr, .int .i64 p.nl, .int .i64 p.nh, .int .i64 p.fl, .int .i64 p.fh]) := Lib.hid (Blk.below K5.out hb10 (Blk.lt K5.out))
      have K12 : Hid (Blk w1 (w.heap.size + 1) 24 #[.string f.here, .string f.there, .int .i64 f.pr, .int .i64 f.near, .int .i64 f.far]) := Lib.hid (Blk.below K7.out hb10 (Blk.lt K7.out))
      have B13 := Lib.hid (B8.out.trans (hb10.mono B8.out.size))
      clear hb10
      clear FW
      have c14 : w1.cell? ⟨(w.heap.size + 1), 0, none⟩ = some (.string f.here) := K12.out.cell 0
      have c15 : w1.cell? ⟨(w.heap.size + 1), 1, none⟩ = some (.string f.there) := K12.out.cell 1
      have c16 : w1.cell? ⟨(w.heap.size + 1), 2, none⟩ = some (.int .i64 f.pr) := K12.out.cell 2
      have c17 : w1.cell? ⟨(w.heap.size + 1), 3, none⟩ = some (.int .i64 f.near) := K12.out.cell 3
      have c18 : w1.cell? ⟨(w.heap.size + 1), 4, none⟩ = some (.int .i64 f.far) := K12.out.cell 4
      go_wp2_with fail
      go_ret
      exact ⟨rfl, B13.out⟩
  exact absurd (by omega) hg
end Go.Proofs.Ytijlggfcinnfeaa.LawNone0
