/- The law PickWider: its walk. -/
import Derived.Test.YtijlggfcinnfeaaLawWide0
import Derived.Test.YtijlggfcinnfeaaLawWide1
set_option linter.unusedVariables false
namespace Go.Proofs.Ytijlggfcinnfeaa.LawWidest
open Go.RowKit Go.Proofs.Ytijlggfcinnfeaa.Mem Go.Proofs.Ytijlggfcinnfeaa.Blk Go.Proofs.Ytijlggfcinnfeaa.Ahead Go.Proofs.Ytijlggfcinnfeaa.PickD Go.Proofs.Ytijlggfcinnfeaa.PickR1 Go.Proofs.Ytijlggfcinnfeaa.PickR2 Go.Proofs.Ytijlggfcinnfeaa.PickR3 Go.Proofs.Ytijlggfcinnfeaa.Pick1 Go.Proofs.Ytijlggfcinnfeaa.Pick2 Go.Proofs.Ytijlggfcinnfeaa.Pick3 Go.Proofs.Ytijlggfcinnfeaa.Pick4 Go.Proofs.Ytijlggfcinnfeaa.Free Go.Proofs.Ytijlggfcinnfeaa.Steps Go.Proofs.Ytijlggfcinnfeaa.Regs Go.Proofs.Ytijlggfcinnfeaa.Com Go.Proofs.Ytijlggfcinnfeaa.Pick5 Go.Proofs.Ytijlggfcinnfeaa.PickA Go.Proofs.Ytijlggfcinnfeaa.LawFew15 Go.Proofs.Ytijlggfcinnfeaa.LawWider
set_option maxRecDepth 100000 in
set_option maxHeartbeats 2000000 in
theorem wider_any (p : Pk) (f : Fl) (a2 a3 : Int) (a4 a5 a6 : Bool) (w : World) (h : small p f) :
    Calls Try.prog 5 #[.agg #[.string p.hl, .string p.hh, .string p.tl, .string p.th, .int .i64 p.pr, .int .i64 p.nl, .int .i64 p.nh, .int .i64 p.fl, .int .i64 p.fh], .agg #[.string f.here, .string f.there, .int .i64 f.pr, .int .i64 f.near, .int .i64 f.far], .int .i64 a2, .int .i64 a3, .bool a4, .bool a5, .bool a6] w fun e w' => e = .returned (.bool true) ∧ Below w.heap.size w w' := by
  obtain ⟨fb, hfb⟩ : ∃ b, b = decide (sz p f ≤ 600) := ⟨_, rfl⟩
  have FW := Lib.hid (fun W => few_code p f W h)
  rw [← hfb] at FW
  have AW := Lib.hid (fun W => awake_any W)
  cases fb
  · clear hfb h
    have B1 := Lib.hid (Below.refl w.heap.size w)
    have K2 : Hid (Blk (w.alloc (.cells #[.string p.hl, .string p.hh, .string p.tl, .string p.th, .int .i64 p.pr, .int .i64 p.nl, .int .i64 p.nh, .int .i64 p.fl, .int .i64 p.fh] 37)) w.heap.size 37 #[.string p.hl, .string p.hh, .string p.tl, .string p.th, .int .i64 p.pr, .int .i64 p.nl, .int .i64 p.nh, .int .i64 p.fl, .int .i64 p.fh]) := Lib.hid (by have h := Blk.new w 37 #[.string p.hl, .string p.hh, .string p.tl, .string p.th, .int .i64 p.pr, .int .i64 p.nl, .int .i64 p.nh, .int .i64 p.fl, .int .i64 p.fh]; first | exact h | simpa using h)
    have B3 := Lib.hid (B1.out.alloc (by have h := B1.out.size; first | exact h | omega | (simp at h ⊢; omega)) (.cells #[.string p.hl, .string p.hh, .string p.tl, .string p.th, .int .i64 p.pr, .int .i64 p.nl, .int .i64 p.nh, .int .i64 p.fl, .int .i64 p.fh] 37))
    have G4 : Hid (w.heap.size ≤ w.heap.size) := Lib.hid (by have h := B1.out.size; first | exact h | omega | (simp at h ⊢; omega))
    have K5 : Hid (Blk ((w.alloc (.cells #[.string p.hl, .string p.hh, .string p.tl, .string p.th, .int .i64 p.pr, .int .i64 p.nl, .int .i64 p.nh, .int .i64 p.fl, .int .i64 p.fh] 37)).alloc (.cells #[.string f.here, .string f.there, .int .i64 f.pr, .int .i64 f.near, .int .i64 f.far] 24)) w.heap.size 37 #[.string p.hl, .string p.hh, .string p.tl, .string p.th, .int .i64 p.pr, .int .i64 p.nl, .int .i64 p.nh, .int .i64 p.fl, .int .i64 p.fh]) := Lib.hid (Blk.alloc K2.out _)
    have N6 : Hid (w.heap.size ≠ (w.heap.size + 1)) := Lib.hid (by have h := Blk.lt K2.out; first | omega | (simp at h; omega))
    have K7 : Hid (Blk ((w.alloc (.cells #[.string p.hl, .string p.hh, .string p.tl, .string p.th, .int .i64 p.pr, .int .i64 p.nl, .int .i64 p.nh, .int .i64 p.fl, .int .i64 p.fh] 37)).alloc (.cells #[.string f.here, .string f.there, .int .i64 f.pr, .int .i64 f.near, .int .i64 f.far] 24)) (w.heap.size + 1) 24 #[.string f.here, .string f.there, .int .i64 f.pr, .int .i64 f.near, .int .i64 f.far]) := Lib.hid (by have h := Blk.new (w.alloc (.cells #[.string p.hl, .string p.hh, .string p.tl, .string p.th, .int .i64 p.pr, .int .i64 p.nl, .int .i64 p.nh, .int .i64 p.fl, .int .i64 p.fh] 37)) 24 #[.string f.here, .string f.there, .int .i64 f.pr, .int .i64 f.near, .int .i64 f.far]; first | exact h | simpa using h)
    have B8 := Lib.hid (B3.out.alloc (by have h := B3.out.size; first | exact h | omega | (simp at h ⊢; omega)) (.cells #[.string f.here, .string f.there, .int .i64 f.pr, .int .i64 f.near, .int .i64 f.far] 24))
    have G9 : Hid (w.heap.size ≤ (w.heap.size + 1)) := Lib.hid (by have h := B3.out.size; first | exact h | omega | (simp at h ⊢; omega))
    go_enter Try.func5, Try.ntmps5
    go_wp2_with (first | (refine Store.at_load 37 (.tmp 7) ?_ ?_; exact rfl; refine Loads.wpList_load_w rfl 37 (.tmp 7) rfl w.heap.size rfl 37 #[.string p.hl, .string p.hh, .string p.tl, .string p.th, .int .i64 p.pr, .int .i64 p.nl, .int .i64 p.nh, .int .i64 p.fl, .int .i64 p.fh] (0, 0) _ (K5.out) Try.underlying37 rfl (by kernel_rfl) ?_) | (refine Store.at_load 24 (.tmp 8) ?_ ?_; exact rfl; refine Loads.wpList_load_w rfl 24 (.tmp 8) rfl (w.heap.size + 1) rfl 24 #[.string f.here, .string f.there, .int .i64 f.pr, .int .i64 f.near, .int .i64 f.far] (0, 0) _ (K7.out) Try.underlying24 rfl (by kernel_rfl) ?_))
    refine (FW.out _).mono ?_
    rintro e w1 ⟨rfl, hb10⟩
    have K11 : Hid (Blk w1 w.heap.size 37 #[.string p.hl, .string p.hh, .string p.tl, .string p.th, .int .i64 p.pr, .int .i64 p.nl, .int .i64 p.nh, .int .i64 p.fl, .int .i64 p.fh]) := Lib.hid (Blk.below K5.out hb10 (Blk.lt K5.out))
    have K12 : Hid (Blk w1 (w.heap.size + 1) 24 #[.string f.here, .string f.there, .int .i64 f.pr, .int .i64 f.near, .int .i64 f.far]) := Lib.hid (Blk.below K7.out hb10 (Blk.lt K7.out))
    have B13 := Lib.hid (B8.out.trans (hb10.mono B8.out.size))
    clear hb10
    clear FW
    go_wp2_with fail
    refine (AW.out _).mono ?_
    rintro e w2 ⟨rfl, hb14⟩
    have K15 : Hid (Blk w2 w.heap.size 37 #[.string p.hl, .string p.hh, .string p.tl, .string p.th, .int .i64 p.pr, .int .i64 p.nl, .int .i64 p.nh, .int .i64 p.fl, .int .i64 p.fh]) := Lib.hid (Blk.below K11.out hb14 (Blk.lt K11.out))
    have K16 : Hid (Blk w2 (w.heap.size + 1) 24 #[.string f.here, .string f.there, .int .i64 f.pr, .int .i64 f.near, .int .i64 f.far]) := Lib.hid (Blk.below K12.out hb14 (Blk.lt K12.out))
    have B17 := Lib.hid (B13.out.trans (hb14.mono B13.out.size))
    clear hb14
    go_wp2_with fail
    go_ret
    exact ⟨rfl, B17.out⟩
  by_cases q2 : a2 < 0
  · clear hfb h
    have B1 := Lib.hid (Below.refl w.heap.size w)
    have K2 : Hid (Blk (w.alloc (.cells #[.string p.hl, .string p.hh, .string p.tl, .string p.th, .int .i64 p.pr, .int .i64 p.nl, .int .i64 p.nh, .int .i64 p.fl, .int .i64 p.fh] 37)) w.heap.size 37 #[.string p.hl, .string p.hh, .string p.tl, .string p.th, .int .i64 p.pr, .int .i64 p.nl, .int .i64 p.nh, .int .i64 p.fl, .int .i64 p.fh]) := Lib.hid (by have h := Blk.new w 37 #[.string p.hl, .string p.hh, .string p.tl, .string p.th, .int .i64 p.pr, .int .i64 p.nl, .int .i64 p.nh, .int .i64 p.fl, .int .i64 p.fh]; first | exact h | simpa using h)
    have B3 := Lib.hid (B1.out.alloc (by have h := B1.out.size; first | exact h | omega | (simp at h ⊢; omega)) (.cells #[.string p.hl, .string p.hh, .string p.tl, .string p.th, .int .i64 p.pr, .int .i64 p.nl, .int .i64 p.nh, .int .i64 p.fl, .int .i64 p.fh] 37))
    have G4 : Hid (w.heap.size ≤ w.heap.size) := Lib.hid (by have h := B1.out.size; first | exact h | omega | (simp at h ⊢; omega))
    have K5 : Hid (Blk ((w.alloc (.cells #[.string p.hl, .string p.hh, .string p.tl, .string p.th, .int .i64 p.pr, .int .i64 p.nl, .int .i64 p.nh, .int .i64 p.fl, .int .i64 p.fh] 37)).alloc (.cells #[.string f.here, .string f.there, .int .i64 f.pr, .int .i64 f.near, .int .i64 f.far] 24)) w.heap.size 37 #[.string p.hl, .string p.hh, .string p.tl, .string p.th, .int .i64 p.pr, .int .i64 p.nl, .int .i64 p.nh, .int .i64 p.fl, .int .i64 p.fh]) := Lib.hid (Blk.alloc K2.out _)
    have N6 : Hid (w.heap.size ≠ (w.heap.size + 1)) := Lib.hid (by have h := Blk.lt K2.out; first | omega | (simp at h; omega))
    have K7 : Hid (Blk ((w.alloc (.cells #[.string p.hl, .string p.hh, .string p.tl, .string p.th, .int .i64 p.pr, .int .i64 p.nl, .int .i64 p.nh, .int .i64 p.fl, .int .i64 p.fh] 37)).alloc (.cells #[.string f.here, .string f.there, .int .i64 f.pr, .int .i64 f.near, .int .i64 f.far] 24)) (w.heap.size + 1) 24 #[.string f.here, .string f.there, .int .i64 f.pr, .int .i64 f.near, .int .i64 f.far]) := Lib.hid (by have h := Blk.new (w.alloc (.cells #[.string p.hl, .string p.hh, .string p.tl, .string p.th, .int .i64 p.pr, .int .i64 p.nl, .int .i64 p.nh, .int .i64 p.fl, .int .i64 p.fh] 37)) 24 #[.string f.here, .string f.there, .int .i64 f.pr, .int .i64 f.near, .int .i64 f.far]; first | exact h | simpa using h)
    have B8 := Lib.hid (B3.out.alloc (by have h := B3.out.size; first | exact h | omega | (simp at h ⊢; omega)) (.cells #[.string f.here, .string f.there, .int .i64 f.pr, .int .i64 f.near, .int .i64 f.far] 24))
    have G9 : Hid (w.heap.size ≤ (w.heap.size + 1)) := Lib.hid (by have h := B3.out.size; first | exact h | omega | (simp at h ⊢; omega))
    skip
    have gq2 : decide (a2 < 0) = true := decide_eq_true (by omega)
    go_enter Try.func5, Try.ntmps5
    go_wp2_with (first | (refine Store.at_load 37 (.tmp 7) ?_ ?_; exact rfl; refine Loads.wpList_load_w rfl 37 (.tmp 7) rfl w.heap.size rfl 37 #[.string p.hl, .string p.hh, .string p.tl, .string p.th, .int .i64 p.pr, .int .i64 p.nl, .int .i64 p.nh, .int .i64 p.fl, .int .i64 p.fh] (0, 0) _ (K5.out) Try.underlying37 rfl (by kernel_rfl) ?_) | (refine Store.at_load 24 (.tmp 8) ?_ ?_; exact rfl; refine Loads.wpList_load_w rfl 24 (.tmp 8) rfl (w.heap.size + 1) rfl 24 #[.string f.here, .string f.there, .int .i64 f.pr, .int .i64 f.near, .int .i64 f.far] (0, 0) _ (K7.out) Try.underlying24 rfl (by kernel_rfl) ?_))
    refine (FW.out _).mono ?_
    rintro e w1 ⟨rfl, hb10⟩
    have K11 : Hid (Blk w1 w.heap.size 37 #[.string p.hl, .string p.hh, .string p.tl, .string p.th, .int .i64 p.pr, .int .i64 p.nl, .int .i64 p.nh, .int .i64 p.fl, .int .i64 p.fh]) := Lib.hid (Blk.below K5.out hb10 (Blk.lt K5.out))
    have K12 : Hid (Blk w1 (w.heap.size + 1) 24 #[.string f.here, .string f.there, .int .i64 f.pr, .int .i64 f.near, .int .i64 f.far]) := Lib.hid (Blk.below K7.out hb10 (Blk.lt K7.out))
    have B13 := Lib.hid (B8.out.trans (hb10.mono B8.out.size))
    clear hb10
    clear FW
    go_wp2_with fail
    refine (AW.out _).mono ?_
    rintro e w2 ⟨rfl, hb14⟩
    have K15 : Hid (Blk w2 w.heap.size 37 #[.string p.hl, .string p.hh, .string p.tl, .string p.th, .int .i64 p.pr, .int .i64 p.nl, .int .i64 p.nh, .int .i64 p.fl, .int .i64 p.fh]) := Lib.hid (Blk.below K11.out hb14 (Blk.lt K11.out))
    have K16 : Hid (Blk w2 (w.heap.size + 1) 24 #[.string f.here, .string f.there, .int .i64 f.pr, .int .i64 f.near, .int .i64 f.far]) := Lib.hid (Blk.below K12.out hb14 (Blk.lt K12.out))
    have B17 := Lib.hid (B13.out.trans (hb14.mono B13.out.size))
    clear hb14
    go_wp2_with fail
    go_ret
    exact ⟨rfl, B17.out⟩
  by_cases q3 : 65535 < a2
  · clear hfb h
    have B1 := Lib.hid (Below.refl w.heap.size w)
    have K2 : Hid (Blk (w.alloc (.cells #[.string p.hl, .string p.hh, .string p.tl, .string p.th, .int .i64 p.pr, .int .i64 p.nl, .int .i64 p.nh, .int .i64 p.fl, .int .i64 p.fh] 37)) w.heap.size 37 #[.string p.hl, .string p.hh, .string p.tl, .string p.th, .int .i64 p.pr, .int .i64 p.nl, .int .i64 p.nh, .int .i64 p.fl, .int .i64 p.fh]) := Lib.hid (by have h := Blk.new w 37 #[.string p.hl, .string p.hh, .string p.tl, .string p.th, .int .i64 p.pr, .int .i64 p.nl, .int .i64 p.nh, .int .i64 p.fl, .int .i64 p.fh]; first | exact h | simpa using h)
    have B3 := Lib.hid (B1.out.alloc (by have h := B1.out.size; first | exact h | omega | (simp at h ⊢; omega)) (.cells #[.string p.hl, .string p.hh, .string p.tl, .string p.th, .int .i64 p.pr, .int .i64 p.nl, .int .i64 p.nh, .int .i64 p.fl, .int .i64 p.fh] 37))
    have G4 : Hid (w.heap.size ≤ w.heap.size) := Lib.hid (by have h := B1.out.size; first | exact h | omega | (simp at h ⊢; omega))
    have K5 : Hid (Blk ((w.alloc (.cells #[.string p.hl, .string p.hh, .string p.tl, .string p.th, .int .i64 p.pr, .int .i64 p.nl, .int .i64 p.nh, .int .i64 p.fl, .int .i64 p.fh] 37)).alloc (.cells #[.string f.here, .string f.there, .int .i64 f.pr, .int .i64 f.near, .int .i64 f.far] 24)) w.heap.size 37 #[.string p.hl, .string p.hh, .string p.tl, .string p.th, .int .i64 p.pr, .int .i64 p.nl, .int .i64 p.nh, .int .i64 p.fl, .int .i64 p.fh]) := Lib.hid (Blk.alloc K2.out _)
    have N6 : Hid (w.heap.size ≠ (w.heap.size + 1)) := Lib.hid (by have h := Blk.lt K2.out; first | omega | (simp at h; omega))
    have K7 : Hid (Blk ((w.alloc (.cells #[.string p.hl, .string p.hh, .string p.tl, .string p.th, .int .i64 p.pr, .int .i64 p.nl, .int .i64 p.nh, .int .i64 p.fl, .int .i64 p.fh] 37)).alloc (.cells #[.string f.here, .string f.there, .int .i64 f.pr, .int .i64 f.near, .int .i64 f.far] 24)) (w.heap.size + 1) 24 #[.string f.here, .string f.there, .int .i64 f.pr, .int .i64 f.near, .int .i64 f.far]) := Lib.hid (by have h := Blk.new (w.alloc (.cells #[.string p.hl, .string p.hh, .string p.tl, .string p.th, .int .i64 p.pr, .int .i64 p.nl, .int .i64 p.nh, .int .i64 p.fl, .int .i64 p.fh] 37)) 24 #[.string f.here, .string f.there, .int .i64 f.pr, .int .i64 f.near, .int .i64 f.far]; first | exact h | simpa using h)
    have B8 := Lib.hid (B3.out.alloc (by have h := B3.out.size; first | exact h | omega | (simp at h ⊢; omega)) (.cells #[.string f.here, .string f.there, .int .i64 f.pr, .int .i64 f.near, .int .i64 f.far] 24))
    have G9 : Hid (w.heap.size ≤ (w.heap.size + 1)) := Lib.hid (by have h := B3.out.size; first | exact h | omega | (simp at h ⊢; omega))
    have gq2 : decide (a2 < 0) = false := decide_eq_false (by omega)
    have gq3 : decide (65535 < a2) = true := decide_eq_true (by omega)
    go_enter Try.func5, Try.ntmps5
    go_wp2_with (first | (refine Store.at_load 37 (.tmp 7) ?_ ?_; exact rfl; refine Loads.wpList_load_w rfl 37 (.tmp 7) rfl w.heap.size rfl 37 #[.string p.hl, .string p.hh, .string p.tl, .string p.th, .int .i64 p.pr, .int .i64 p.nl, .int .i64 p.nh, .int .i64 p.fl, .int .i64 p.fh] (0, 0) _ (K5.out) Try.underlying37 rfl (by kernel_rfl) ?_) | (refine Store.at_load 24 (.tmp 8) ?_ ?_; exact rfl; refine Loads.wpList_load_w rfl 24 (.tmp 8) rfl (w.heap.size + 1) rfl 24 #[.string f.here, .string f.there, .int .i64 f.pr, .int .i64 f.near, .int .i64 f.far] (0, 0) _ (K7.out) Try.underlying24 rfl (by kernel_rfl) ?_))
    refine (FW.out _).mono ?_
    rintro e w1 ⟨rfl, hb10⟩
    have K11 : Hid (Blk w1 w.heap.size 37 #[.string p.hl, .string p.hh, .string p.tl, .string p.th, .int .i64 p.pr, .int .i64 p.nl, .int .i64 p.nh, .int .i64 p.fl, .int .i64 p.fh]) := Lib.hid (Blk.below K5.out hb10 (Blk.lt K5.out))
    have K12 : Hid (Blk w1 (w.heap.size + 1) 24 #[.string f.here, .string f.there, .int .i64 f.pr, .int .i64 f.near, .int .i64 f.far]) := Lib.hid (Blk.below K7.out hb10 (Blk.lt K7.out))
    have B13 := Lib.hid (B8.out.trans (hb10.mono B8.out.size))
    clear hb10
    clear FW
    go_wp2_with fail
    refine (AW.out _).mono ?_
    rintro e w2 ⟨rfl, hb14⟩
    have K15 : Hid (Blk w2 w.heap.size 37 #[.string p.hl, .string p.hh, .string p.tl, .string p.th, .int .i64 p.pr, .int .i64 p.nl, .int .i64 p.nh, .int .i64 p.fl, .int .i64 p.fh]) := Lib.hid (Blk.below K11.out hb14 (Blk.lt K11.out))
    have K16 : Hid (Blk w2 (w.heap.size + 1) 24 #[.string f.here, .string f.there, .int .i64 f.pr, .int .i64 f.near, .int .i64 f.far]) := Lib.hid (Blk.below K12.out hb14 (Blk.lt K12.out))
    have B17 := Lib.hid (B13.out.trans (hb14.mono B13.out.size))
    clear hb14
    go_wp2_with fail
    go_ret
    exact ⟨rfl, B17.out⟩
  by_cases q4 : a3 < 0
  · clear hfb h
    have B1 := Lib.hid (Below.refl w.heap.size w)
    have K2 : Hid (Blk (w.alloc (.cells #[.string p.hl, .string p.hh, .string p.tl, .string p.th, .int .i64 p.pr, .int .i64 p.nl, .int .i64 p.nh, .int .i64 p.fl, .int .i64 p.fh] 37)) w.heap.size 37 #[.string p.hl, .string p.hh, .string p.tl, .string p.th, .int .i64 p.pr, .int .i64 p.nl, .int .i64 p.nh, .int .i64 p.fl, .int .i64 p.fh]) := Lib.hid (by have h := Blk.new w 37 #[.string p.hl, .string p.hh, .string p.tl, .string p.th, .int .i64 p.pr, .int .i64 p.nl, .int .i64 p.nh, .int .i64 p.fl, .int .i64 p.fh]; first | exact h | simpa using h)
    have B3 := Lib.hid (B1.out.alloc (by have h := B1.out.size; first | exact h | omega | (simp at h ⊢; omega)) (.cells #[.string p.hl, .string p.hh, .string p.tl, .string p.th, .int .i64 p.pr, .int .i64 p.nl, .int .i64 p.nh, .int .i64 p.fl, .int .i64 p.fh] 37))
    have G4 : Hid (w.heap.size ≤ w.heap.size) := Lib.hid (by have h := B1.out.size; first | exact h | omega | (simp at h ⊢; omega))
    have K5 : Hid (Blk ((w.alloc (.cells #[.string p.hl, .string p.hh, .string p.tl, .string p.th, .int .i64 p.pr, .int .i64 p.nl, .int .i64 p.nh, .int .i64 p.fl, .int .i64 p.fh] 37)).alloc (.cells #[.string f.here, .string f.there, .int .i64 f.pr, .int .i64 f.near, .int .i64 f.far] 24)) w.heap.size 37 #[.string p.hl, .string p.hh, .string p.tl, .string p.th, .int .i64 p.pr, .int .i64 p.nl, .int .i64 p.nh, .int .i64 p.fl, .int .i64 p.fh]) := Lib.hid (Blk.alloc K2.out _)
    have N6 : Hid (w.heap.size ≠ (w.heap.size + 1)) := Lib.hid (by have h := Blk.lt K2.out; first | omega | (simp at h; omega))
    have K7 : Hid (Blk ((w.alloc (.cells #[.string p.hl, .string p.hh, .string p.tl, .string p.th, .int .i64 p.pr, .int .i64 p.nl, .int .i64 p.nh, .int .i64 p.fl, .int .i64 p.fh] 37)).alloc (.cells #[.string f.here, .string f.there, .int .i64 f.pr, .int .i64 f.near, .int .i64 f.far] 24)) (w.heap.size + 1) 24 #[.string f.here, .string f.there, .int .i64 f.pr, .int .i64 f.near, .int .i64 f.far]) := Lib.hid (by have h := Blk.new (w.alloc (.cells #[.string p.hl, .string p.hh, .string p.tl, .string p.th, .int .i64 p.pr, .int .i64 p.nl, .int .i64 p.nh, .int .i64 p.fl, .int .i64 p.fh] 37)) 24 #[.string f.here, .string f.there, .int .i64 f.pr, .int .i64 f.near, .int .i64 f.far]; first | exact h | simpa using h)
    have B8 := Lib.hid (B3.out.alloc (by have h := B3.out.size; first | exact h | omega | (simp at h ⊢; omega)) (.cells #[.string f.here, .string f.there, .int .i64 f.pr, .int .i64 f.near, .int .i64 f.far] 24))
    have G9 : Hid (w.heap.size ≤ (w.heap.size + 1)) := Lib.hid (by have h := B3.out.size; first | exact h | omega | (simp at h ⊢; omega))
    have gq2 : decide (a2 < 0) = false := decide_eq_false (by omega)
    have gq3 : decide (65535 < a2) = false := decide_eq_false (by omega)
    have gq4 : decide (a3 < 0) = true := decide_eq_true (by omega)
    go_enter Try.func5, Try.ntmps5
    go_wp2_with (first | (refine Store.at_load 37 (.tmp 7) ?_ ?_; exact rfl; refine Loads.wpList_load_w rfl 37 (.tmp 7) rfl w.heap.size rfl 37 #[.string p.hl, .string p.hh, .string p.tl, .string p.th, .int .i64 p.pr, .int .i64 p.nl, .int .i64 p.nh, .int .i64 p.fl, .int .i64 p.fh] (0, 0) _ (K5.out) Try.underlying37 rfl (by kernel_rfl) ?_) | (refine Store.at_load 24 (.tmp 8) ?_ ?_; exact rfl; refine Loads.wpList_load_w rfl 24 (.tmp 8) rfl (w.heap.size + 1) rfl 24 #[.string f.here, .string f.there, .int .i64 f.pr, .int .i64 f.near, .int .i64 f.far] (0, 0) _ (K7.out) Try.underlying24 rfl (by kernel_rfl) ?_))
    refine (FW.out _).mono ?_
    rintro e w1 ⟨rfl, hb10⟩
    have K11 : Hid (Blk w1 w.heap.size 37 #[.string p.hl, .string p.hh, .string p.tl, .string p.th, .int .i64 p.pr, .int .i64 p.nl, .int .i64 p.nh, .int .i64 p.fl, .int .i64 p.fh]) := Lib.hid (Blk.below K5.out hb10 (Blk.lt K5.out))
    have K12 : Hid (Blk w1 (w.heap.size + 1) 24 #[.string f.here, .string f.there, .int .i64 f.pr, .int .i64 f.near, .int .i64 f.far]) := Lib.hid (Blk.below K7.out hb10 (Blk.lt K7.out))
    have B13 := Lib.hid (B8.out.trans (hb10.mono B8.out.size))
    clear hb10
    clear FW
    go_wp2_with fail
    refine (AW.out _).mono ?_
    rintro e w2 ⟨rfl, hb14⟩
    have K15 : Hid (Blk w2 w.heap.size 37 #[.string p.hl, .string p.hh, .string p.tl, .string p.th, .int .i64 p.pr, .int .i64 p.nl, .int .i64 p.nh, .int .i64 p.fl, .int .i64 p.fh]) := Lib.hid (Blk.below K11.out hb14 (Blk.lt K11.out))
    have K16 : Hid (Blk w2 (w.heap.size + 1) 24 #[.string f.here, .string f.there, .int .i64 f.pr, .int .i64 f.near, .int .i64 f.far]) := Lib.hid (Blk.below K12.out hb14 (Blk.lt K12.out))
    have B17 := Lib.hid (B13.out.trans (hb14.mono B13.out.size))
    clear hb14
    go_wp2_with fail
    go_ret
    exact ⟨rfl, B17.out⟩
  by_cases q5 : 65535 < a3
  · clear hfb h
    have B1 := Lib.hid (Below.refl w.heap.size w)
    have K2 : Hid (Blk (w.alloc (.cells #[.string p.hl, .string p.hh, .string p.tl, .string p.th, .int .i64 p.pr, .int .i64 p.nl, .int .i64 p.nh, .int .i64 p.fl, .int .i64 p.fh] 37)) w.heap.size 37 #[.string p.hl, .string p.hh, .string p.tl, .string p.th, .int .i64 p.pr, .int .i64 p.nl, .int .i64 p.nh, .int .i64 p.fl, .int .i64 p.fh]) := Lib.hid (by have h := Blk.new w 37 #[.string p.hl, .string p.hh, .string p.tl, .string p.th, .int .i64 p.pr, .int .i64 p.nl, .int .i64 p.nh, .int .i64 p.fl, .int .i64 p.fh]; first | exact h | simpa using h)
    have B3 := Lib.hid (B1.out.alloc (by have h := B1.out.size; first | exact h | omega | (simp at h ⊢; omega)) (.cells #[.string p.hl, .string p.hh, .string p.tl, .string p.th, .int .i64 p.pr, .int .i64 p.nl, .int .i64 p.nh, .int .i64 p.fl, .int .i64 p.fh] 37))
    have G4 : Hid (w.heap.size ≤ w.heap.size) := Lib.hid (by have h := B1.out.size; first | exact h | omega | (simp at h ⊢; omega))
    have K5 : Hid (Blk ((w.alloc (.cells #[.string p.hl, .string p.hh, .string p.tl, .string p.th, .int .i64 p.pr, .int .i64 p.nl, .int .i64 p.nh, .int .i64 p.fl, .int .i64 p.fh] 37)).alloc (.cells #[.string f.here, .string f.there, .int .i64 f.pr, .int .i64 f.near, .int .i64 f.far] 24)) w.heap.size 37 #[.string p.hl, .string p.hh, .string p.tl, .string p.th, .int .i64 p.pr, .int .i64 p.nl, .int .i64 p.nh, .int .i64 p.fl, .int .i64 p.fh]) := Lib.hid (Blk.alloc K2.out _)
    have N6 : Hid (w.heap.size ≠ (w.heap.size + 1)) := Lib.hid (by have h := Blk.lt K2.out; first | omega | (simp at h; omega))
    have K7 : Hid (Blk ((w.alloc (.cells #[.string p.hl, .string p.hh, .string p.tl, .string p.th, .int .i64 p.pr, .int .i64 p.nl, .int .i64 p.nh, .int .i64 p.fl, .int .i64 p.fh] 37)).alloc (.cells #[.string f.here, .string f.there, .int .i64 f.pr, .int .i64 f.near, .int .i64 f.far] 24)) (w.heap.size + 1) 24 #[.string f.here, .string f.there, .int .i64 f.pr, .int .i64 f.near, .int .i64 f.far]) := Lib.hid (by have h := Blk.new (w.alloc (.cells #[.string p.hl, .string p.hh, .string p.tl, .string p.th, .int .i64 p.pr, .int .i64 p.nl, .int .i64 p.nh, .int .i64 p.fl, .int .i64 p.fh] 37)) 24 #[.string f.here, .string f.there, .int .i64 f.pr, .int .i64 f.near, .int .i64 f.far]; first | exact h | simpa using h)
    have B8 := Lib.hid (B3.out.alloc (by have h := B3.out.size; first | exact h | omega | (simp at h ⊢; omega)) (.cells #[.string f.here, .string f.there, .int .i64 f.pr, .int .i64 f.near, .int .i64 f.far] 24))
    have G9 : Hid (w.heap.size ≤ (w.heap.size + 1)) := Lib.hid (by have h := B3.out.size; first | exact h | omega | (simp at h ⊢; omega))
    have gq2 : decide (a2 < 0) = false := decide_eq_false (by omega)
    have gq3 : decide (65535 < a2) = false := decide_eq_false (by omega)
    have gq4 : decide (a3 < 0) = false := decide_eq_false (by omega)
    have gq5 : decide (65535 < a3) = true := decide_eq_true (by omega)
    go_enter Try.func5, Try.ntmps5
    go_wp2_with (first | (refine Store.at_load 37 (.tmp 7) ?_ ?_; exact rfl; refine Loads.wpList_load_w rfl 37 (.tmp 7) rfl w.heap.size rfl 37 #[.string p.hl, .string p.hh, .string p.tl, .string p.th, .int .i64 p.pr, .int .i64 p.nl, .int .i64 p.nh, .int .i64 p.fl, .int .i64 p.fh] (0, 0) _ (K5.out) Try.underlying37 rfl (by kernel_rfl) ?_) | (refine Store.at_load 24 (.tmp 8) ?_ ?_; exact rfl; refine Loads.wpList_load_w rfl 24 (.tmp 8) rfl (w.heap.size + 1) rfl 24 #[.string f.here, .string f.there, .int .i64 f.pr, .int .i64 f.near, .int .i64 f.far] (0, 0) _ (K7.out) Try.underlying24 rfl (by kernel_rfl) ?_))
    refine (FW.out _).mono ?_
    rintro e w1 ⟨rfl, hb10⟩
    have K11 : Hid (Blk w1 w.heap.size 37 #[.string p.hl, .string p.hh, .string p.tl, .string p.th, .int .i64 p.pr, .int .i64 p.nl, .int .i64 p.nh, .int .i64 p.fl, .int .i64 p.fh]) := Lib.hid (Blk.below K5.out hb10 (Blk.lt K5.out))
    have K12 : Hid (Blk w1 (w.heap.size + 1) 24 #[.string f.here, .string f.there, .int .i64 f.pr, .int .i64 f.near, .int .i64 f.far]) := Lib.hid (Blk.below K7.out hb10 (Blk.lt K7.out))
    have B13 := Lib.hid (B8.out.trans (hb10.mono B8.out.size))
    clear hb10
    clear FW
    go_wp2_with fail
    refine (AW.out _).mono ?_
    rintro e w2 ⟨rfl, hb14⟩
    have K15 : Hid (Blk w2 w.heap.size 37 #[.string p.hl, .string p.hh, .string p.tl, .string p.th, .int .i64 p.pr, .int .i64 p.nl, .int .i64 p.nh, .int .i64 p.fl, .int .i64 p.fh]) := Lib.hid (Blk.below K11.out hb14 (Blk.lt K11.out))
    have K16 : Hid (Blk w2 (w.heap.size + 1) 24 #[.string f.here, .string f.there, .int .i64 f.pr, .int .i64 f.near, .int .i64 f.far]) := Lib.hid (Blk.below K12.out hb14 (Blk.lt K12.out))
    have B17 := Lib.hid (B13.out.trans (hb14.mono B13.out.size))
    clear hb14
    go_wp2_with fail
    go_ret
    exact ⟨rfl, B17.out⟩
  obtain ⟨mb, hmb⟩ : ∃ b, matB p f = b := ⟨_, rfl⟩
  cases mb
  · have B1 := Lib.hid (Below.refl w.heap.size w)
    have K2 : Hid (Blk (w.alloc (.cells #[.string p.hl, .string p.hh, .string p.tl, .string p.th, .int .i64 p.pr, .int .i64 p.nl, .int .i64 p.nh, .int .i64 p.fl, .int .i64 p.fh] 37)) w.heap.size 37 #[.string p.hl, .string p.hh, .string p.tl, .string p.th, .int .i64 p.pr, .int .i64 p.nl, .int .i64 p.nh, .int .i64 p.fl, .int .i64 p.fh]) := Lib.hid (by have h := Blk.new w 37 #[.string p.hl, .string p.hh, .string p.tl, .string p.th, .int .i64 p.pr, .int .i64 p.nl, .int .i64 p.nh, .int .i64 p.fl, .int .i64 p.fh]; first | exact h | simpa using h)
    have B3 := Lib.hid (B1.out.alloc (by have h := B1.out.size; first | exact h | omega | (simp at h ⊢; omega)) (.cells #[.string p.hl, .string p.hh, .string p.tl, .string p.th, .int .i64 p.pr, .int .i64 p.nl, .int .i64 p.nh, .int .i64 p.fl, .int .i64 p.fh] 37))
    have G4 : Hid (w.heap.size ≤ w.heap.size) := Lib.hid (by have h := B1.out.size; first | exact h | omega | (simp at h ⊢; omega))
    have K5 : Hid (Blk ((w.alloc (.cells #[.string p.hl, .string p.hh, .string p.tl, .string p.th, .int .i64 p.pr, .int .i64 p.nl, .int .i64 p.nh, .int .i64 p.fl, .int .i64 p.fh] 37)).alloc (.cells #[.string f.here, .string f.there, .int .i64 f.pr, .int .i64 f.near, .int .i64 f.far] 24)) w.heap.size 37 #[.string p.hl, .string p.hh, .string p.tl, .string p.th, .int .i64 p.pr, .int .i64 p.nl, .int .i64 p.nh, .int .i64 p.fl, .int .i64 p.fh]) := Lib.hid (Blk.alloc K2.out _)
    have N6 : Hid (w.heap.size ≠ (w.heap.size + 1)) := Lib.hid (by have h := Blk.lt K2.out; first | omega | (simp at h; omega))
    have K7 : Hid (Blk ((w.alloc (.cells #[.string p.hl, .string p.hh, .string p.tl, .string p.th, .int .i64 p.pr, .int .i64 p.nl, .int .i64 p.nh, .int .i64 p.fl, .int .i64 p.fh] 37)).alloc (.cells #[.string f.here, .string f.there, .int .i64 f.pr, .int .i64 f.near, .int .i64 f.far] 24)) (w.heap.size + 1) 24 #[.string f.here, .string f.there, .int .i64 f.pr, .int .i64 f.near, .int .i64 f.far]) := Lib.hid (by have h := Blk.new (w.alloc (.cells #[.string p.hl, .string p.hh, .string p.tl, .string p.th, .int .i64 p.pr, .int .i64 p.nl, .int .i64 p.nh, .int .i64 p.fl, .int .i64 p.fh] 37)) 24 #[.string f.here, .string f.there, .int .i64 f.pr, .int .i64 f.near, .int .i64 f.far]; first | exact h | simpa using h)
    have B8 := Lib.hid (B3.out.alloc (by have h := B3.out.size; first | exact h | omega | (simp at h ⊢; omega)) (.cells #[.string f.here, .string f.there, .int .i64 f.pr, .int .i64 f.near, .int .i64 f.far] 24))
    have G9 : Hid (w.heap.size ≤ (w.heap.size + 1)) := Lib.hid (by have h := B3.out.size; first | exact h | omega | (simp at h ⊢; omega))
    have MW := Lib.hid (fun W => mat_is p f false hmb W)
    clear hfb h
    have gq2 : decide (a2 < 0) = false := decide_eq_false (by omega)
    have gq3 : decide (65535 < a2) = false := decide_eq_false (by omega)
    have gq4 : decide (a3 < 0) = false := decide_eq_false (by omega)
    have gq5 : decide (65535 < a3) = false := decide_eq_false (by omega)
    go_enter Try.func5, Try.ntmps5
    go_wp2_with (first | (refine Store.at_load 37 (.tmp 7) ?_ ?_; exact rfl; refine Loads.wpList_load_w rfl 37 (.tmp 7) rfl w.heap.size rfl 37 #[.string p.hl, .string p.hh, .string p.tl, .string p.th, .int .i64 p.pr, .int .i64 p.nl, .int .i64 p.nh, .int .i64 p.fl, .int .i64 p.fh] (0, 0) _ (K5.out) Try.underlying37 rfl (by kernel_rfl) ?_) | (refine Store.at_load 24 (.tmp 8) ?_ ?_; exact rfl; refine Loads.wpList_load_w rfl 24 (.tmp 8) rfl (w.heap.size + 1) rfl 24 #[.string f.here, .string f.there, .int .i64 f.pr, .int .i64 f.near, .int .i64 f.far] (0, 0) _ (K7.out) Try.underlying24 rfl (by kernel_rfl) ?_))
    refine (FW.out _).mono ?_
    rintro e w1 ⟨rfl, hb10⟩
    have K11 : Hid (Blk w1 w.heap.size 37 #[.string p.hl, .string p.hh, .string p.tl, .string p.th, .int .i64 p.pr, .int .i64 p.nl, .int .i64 p.nh, .int .i64 p.fl, .int .i64 p.fh]) := Lib.hid (Blk.below K5.out hb10 (Blk.lt K5.out))
    have K12 : Hid (Blk w1 (w.heap.size + 1) 24 #[.string f.here, .string f.there, .int .i64 f.pr, .int .i64 f.near, .int .i64 f.far]) := Lib.hid (Blk.below K7.out hb10 (Blk.lt K7.out))
    have B13 := Lib.hid (B8.out.trans (hb10.mono B8.out.size))
    clear hb10
    clear FW
    go_wp2_with (first | (refine Store.at_load 37 (.tmp 7) ?_ ?_; exact rfl; refine Loads.wpList_load_w rfl 37 (.tmp 7) rfl w.heap.size rfl 37 #[.string p.hl, .string p.hh, .string p.tl, .string p.th, .int .i64 p.pr, .int .i64 p.nl, .int .i64 p.nh, .int .i64 p.fl, .int .i64 p.fh] (0, 0) _ (K11.out) Try.underlying37 rfl (by kernel_rfl) ?_) | (refine Store.at_load 24 (.tmp 8) ?_ ?_; exact rfl; refine Loads.wpList_load_w rfl 24 (.tmp 8) rfl (w.heap.size + 1) rfl 24 #[.string f.here, .string f.there, .int .i64 f.pr, .int .i64 f.near, .int .i64 f.far] (0, 0) _ (K12.out) Try.underlying24 rfl (by kernel_rfl) ?_))
    refine (MW.out _).mono ?_
    rintro e w2 ⟨rfl, hb14⟩
    have K15 : Hid (Blk w2 w.heap.size 37 #[.string p.hl, .string p.hh, .string p.tl, .string p.th, .int .i64 p.pr, .int .i64 p.nl, .int .i64 p.nh, .int .i64 p.fl, .int .i64 p.fh]) := Lib.hid (Blk.below K11.out hb14 (Blk.lt K11.out))
    have K16 : Hid (Blk w2 (w.heap.size + 1) 24 #[.string f.here, .string f.there, .int .i64 f.pr, .int .i64 f.near, .int .i64 f.far]) := Lib.hid (Blk.below K12.out hb14 (Blk.lt K12.out))
    have B17 := Lib.hid (B13.out.trans (hb14.mono B13.out.size))
    clear hb14
    go_wp2_with fail
    refine (AW.out _).mono ?_
    rintro e w3 ⟨rfl, hb18⟩
    have K19 : Hid (Blk w3 w.heap.size 37 #[.string p.hl, .string p.hh, .string p.tl, .string p.th, .int .i64 p.pr, .int .i64 p.nl, .int .i64 p.nh, .int .i64 p.fl, .int .i64 p.fh]) := Lib.hid (Blk.below K15.out hb18 (Blk.lt K15.out))
    have K20 : Hid (Blk w3 (w.heap.size + 1) 24 #[.string f.here, .string f.there, .int .i64 f.pr, .int .i64 f.near, .int .i64 f.far]) := Lib.hid (Blk.below K16.out hb18 (Blk.lt K16.out))
    have B21 := Lib.hid (B17.out.trans (hb18.mono B17.out.size))
    clear hb18
    go_wp2_with fail
    go_ret
    exact ⟨rfl, B21.out⟩
  have hs : sz p f ≤ 600 := of_decide_eq_true hfb.symm
  have hq : (0 ≤ a2 ∧ a2 ≤ 65535) ∧ (0 ≤ a3 ∧ a3 ≤ 65535) := by omega
  cases a4 <;> cases a5 <;> cases a6
  · exact LawWide0.wide_000 p f a2 a3 w h hs hq hmb
  · exact LawWide0.wide_001 p f a2 a3 w h hs hq hmb
  · exact LawWide0.wide_010 p f a2 a3 w h hs hq hmb
  · exact LawWide0.wide_011 p f a2 a3 w h hs hq hmb
  · exact LawWide1.wide_100 p f a2 a3 w h hs hq hmb
  · exact LawWide1.wide_101 p f a2 a3 w h hs hq hmb
  · exact LawWide1.wide_110 p f a2 a3 w h hs hq hmb
  · exact LawWide1.wide_111 p f a2 a3 w h hs hq hmb
end Go.Proofs.Ytijlggfcinnfeaa.LawWidest
