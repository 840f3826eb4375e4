/- The law PickTurned: its walk. -/
import Derived.Test.YtijlggfcinnfeaaLawFew15
set_option linter.unusedVariables false
namespace Go.Proofs.Ytijlggfcinnfeaa.LawTurned15
open Go.RowKit Go.Proofs.Ytijlggfcinnfeaa.Mem Go.Proofs.Ytijlggfcinnfeaa.Blk Go.Proofs.Ytijlggfcinnfeaa.Ahead Go.Proofs.Ytijlggfcinnfeaa.PickD Go.Proofs.Ytijlggfcinnfeaa.PickR1 Go.Proofs.Ytijlggfcinnfeaa.PickR2 Go.Proofs.Ytijlggfcinnfeaa.PickR3 Go.Proofs.Ytijlggfcinnfeaa.Pick1 Go.Proofs.Ytijlggfcinnfeaa.Pick2 Go.Proofs.Ytijlggfcinnfeaa.Pick3 Go.Proofs.Ytijlggfcinnfeaa.Pick4 Go.Proofs.Ytijlggfcinnfeaa.Free Go.Proofs.Ytijlggfcinnfeaa.Steps Go.Proofs.Ytijlggfcinnfeaa.Regs Go.Proofs.Ytijlggfcinnfeaa.Com Go.Proofs.Ytijlggfcinnfeaa.Pick5 Go.Proofs.Ytijlggfcinnfeaa.PickA Go.Proofs.Ytijlggfcinnfeaa.LawFew15

def swap (p : Pk) : Pk := ⟨p.tl, p.th, p.hl, p.hh, p.pr, p.fl, p.fh, p.nl, p.nh⟩
theorem mat_swap (p : Pk) (f : Fl) : matB (swap p) (turned f) = matB p f := by
  unfold matB mayP swap turned
  dsimp only
  generalize spanB p.hl p.hh = b1
  generalize spanB p.tl p.th = b2
  generalize portsB p.nl p.nh = b3
  generalize portsB p.fl p.fh = b4
  generalize inB f.here p.hl p.hh = b5
  generalize inB f.there p.tl p.th = b6
  generalize portB f.near p.nl p.nh = b7
  generalize portB f.far p.fl p.fh = b8
  generalize (decide (p.pr = -1) || decide (p.pr = f.pr)) = b9
  generalize decide (-1 ≤ p.pr) = c1
  generalize decide (p.pr ≤ 255) = c2
  ac_rfl
theorem paired_comm (a b : ByteArray) : paired a b = paired b a := by
  unfold paired
  by_cases h : a.size = b.size
  · rw [h]
  · rw [decide_eq_false h, decide_eq_false (show ¬ b.size = a.size from fun e => h e.symm), Bool.false_and, Bool.false_and]
theorem ofE_comm (a b : ByteArray) (pr : Int) (n : Nat) : ofE a b pr n = ofE b a pr n := by
  unfold ofE
  rw [paired_comm]
theorem of_answer (a b : ByteArray) (pr x0 x1 y0 y1 : Int) : ofR b a pr [y0, y1, x0, x1] true = ofR a b pr [x0, x1, y0, y1] false := by
  unfold ofR
  rw [show ([y0, y1, x0, x1] : List Int).length = 4 from rfl, show ([x0, x1, y0, y1] : List Int).length = 4 from rfl, ofE_comm b a]
  rfl
theorem of_small {a b : ByteArray} {pr : Int} {l : List Int} {o : Bool} (ha : a.size ≤ maxT) (hb : b.size ≤ maxT) : (ofR a b pr l o).here.size ≤ maxT ∧ (ofR a b pr l o).there.size ≤ maxT := by
  unfold ofR ofF
  split
  · cases o
    · exact ⟨hb, ha⟩
    · exact ⟨ha, hb⟩
  · exact ⟨by decide, by decide⟩
theorem ent_of : Enters Try.prog 8 := enters_of Try.func8 (by kernel_rfl) rfl
set_option maxRecDepth 100000 in
set_option maxHeartbeats 2000000 in
theorem turned_any (a0 a1 : ByteArray) (a2 a3 a4 : Int) (p : Pk) (w : World) (z0 : a0.size ≤ 140737488355328) (z1 : a1.size ≤ 140737488355328) (z5 : p.hl.size ≤ 140737488355328 ∧ p.hh.size ≤ 140737488355328 ∧ p.tl.size ≤ 140737488355328 ∧ p.th.size ≤ 140737488355328) :
    Calls Try.prog 4 #[.string a0, .string a1, .int .i64 a2, .int .i64 a3, .int .i64 a4, .agg #[.string p.hl, .string p.hh, .string p.tl, .string p.th, .int .i64 p.pr, .int .i64 p.nl, .int .i64 p.nh, .int .i64 p.fl, .int .i64 p.fh]] w fun e w' => e = .returned (.bool true) ∧ Below w.heap.size w w' := by
  by_cases q1 : 300 < a0.size + a1.size
  · have B1 := Lib.hid (Below.refl w.heap.size w)
    have K2 : Hid (Blk (w.alloc (.cells #[.string p.hl, .string p.hh, .string p.tl, .string p.th, .int .i64 p.pr, .int .i64 p.nl, .int .i64 p.nh, .int .i64 p.fl, .int .i64 p.fh] 37)) w.heap.size 37 #[.string p.hl, .string p.hh, .string p.tl, .string p.th, .int .i64 p.pr, .int .i64 p.nl, .int .i64 p.nh, .int .i64 p.fl, .int .i64 p.fh]) := Lib.hid (by have h := Blk.new w 37 #[.string p.hl, .string p.hh, .string p.tl, .string p.th, .int .i64 p.pr, .int .i64 p.nl, .int .i64 p.nh, .int .i64 p.fl, .int .i64 p.fh]; first | exact h | simpa using h)
    have B3 := Lib.hid (B1.out.alloc (by have h := B1.out.size; first | exact h | omega | (simp at h ⊢; omega)) (.cells #[.string p.hl, .string p.hh, .string p.tl, .string p.th, .int .i64 p.pr, .int .i64 p.nl, .int .i64 p.nh, .int .i64 p.fl, .int .i64 p.fh] 37))
    have G4 : Hid (w.heap.size ≤ w.heap.size) := Lib.hid (by have h := B1.out.size; first | exact h | omega | (simp at h ⊢; omega))
    have u0 : IntKind.i64.wrap ((a0.size : Int) + (a1.size : Int)) = (a0.size : Int) + (a1.size : Int) := IntWalk.i64_in _ (by omega)
    skip
    have gq1 : decide (300 < (a0.size : Int) + (a1.size : Int)) = true := decide_eq_true (by omega)
    clear z5
    go_enter Try.func4, Try.ntmps4
    go_wp2_with fail
    go_ret
    exact ⟨rfl, B3.out⟩
  by_cases q2 : a3 < 0
  · have B1 := Lib.hid (Below.refl w.heap.size w)
    have K2 : Hid (Blk (w.alloc (.cells #[.string p.hl, .string p.hh, .string p.tl, .string p.th, .int .i64 p.pr, .int .i64 p.nl, .int .i64 p.nh, .int .i64 p.fl, .int .i64 p.fh] 37)) w.heap.size 37 #[.string p.hl, .string p.hh, .string p.tl, .string p.th, .int .i64 p.pr, .int .i64 p.nl, .int .i64 p.nh, .int .i64 p.fl, .int .i64 p.fh]) := Lib.hid (by have h := Blk.new w 37 #[.string p.hl, .string p.hh, .string p.tl, .string p.th, .int .i64 p.pr, .int .i64 p.nl, .int .i64 p.nh, .int .i64 p.fl, .int .i64 p.fh]; first | exact h | simpa using h)
    have B3 := Lib.hid (B1.out.alloc (by have h := B1.out.size; first | exact h | omega | (simp at h ⊢; omega)) (.cells #[.string p.hl, .string p.hh, .string p.tl, .string p.th, .int .i64 p.pr, .int .i64 p.nl, .int .i64 p.nh, .int .i64 p.fl, .int .i64 p.fh] 37))
    have G4 : Hid (w.heap.size ≤ w.heap.size) := Lib.hid (by have h := B1.out.size; first | exact h | omega | (simp at h ⊢; omega))
    have u0 : IntKind.i64.wrap ((a0.size : Int) + (a1.size : Int)) = (a0.size : Int) + (a1.size : Int) := IntWalk.i64_in _ (by omega)
    have gq1 : decide (300 < (a0.size : Int) + (a1.size : Int)) = false := decide_eq_false (by omega)
    have gq2 : decide (a3 < 0) = true := decide_eq_true (by omega)
    clear z5
    go_enter Try.func4, Try.ntmps4
    go_wp2_with fail
    go_ret
    exact ⟨rfl, B3.out⟩
  by_cases q3 : 65535 < a3
  · have B1 := Lib.hid (Below.refl w.heap.size w)
    have K2 : Hid (Blk (w.alloc (.cells #[.string p.hl, .string p.hh, .string p.tl, .string p.th, .int .i64 p.pr, .int .i64 p.nl, .int .i64 p.nh, .int .i64 p.fl, .int .i64 p.fh] 37)) w.heap.size 37 #[.string p.hl, .string p.hh, .string p.tl, .string p.th, .int .i64 p.pr, .int .i64 p.nl, .int .i64 p.nh, .int .i64 p.fl, .int .i64 p.fh]) := Lib.hid (by have h := Blk.new w 37 #[.string p.hl, .string p.hh, .string p.tl, .string p.th, .int .i64 p.pr, .int .i64 p.nl, .int .i64 p.nh, .int .i64 p.fl, .int .i64 p.fh]; first | exact h | simpa using h)
    have B3 := Lib.hid (B1.out.alloc (by have h := B1.out.size; first | exact h | omega | (simp at h ⊢; omega)) (.cells #[.string p.hl, .string p.hh, .string p.tl, .string p.th, .int .i64 p.pr, .int .i64 p.nl, .int .i64 p.nh, .int .i64 p.fl, .int .i64 p.fh] 37))
    have G4 : Hid (w.heap.size ≤ w.heap.size) := Lib.hid (by have h := B1.out.size; first | exact h | omega | (simp at h ⊢; omega))
    have u0 : IntKind.i64.wrap ((a0.size : Int) + (a1.size : Int)) = (a0.size : Int) + (a1.size : Int) := IntWalk.i64_in _ (by omega)
    have gq1 : decide (300 < (a0.size : Int) + (a1.size : Int)) = false := decide_eq_false (by omega)
    have gq2 : decide (a3 < 0) = false := decide_eq_false (by omega)
    have gq3 : decide (65535 < a3) = true := decide_eq_true (by omega)
    clear z5
    go_enter Try.func4, Try.ntmps4
    go_wp2_with fail
    go_ret
    exact ⟨rfl, B3.out⟩
  by_cases q4 : a4 < 0
  · have B1 := Lib.hid (Below.refl w.heap.size w)
    have K2 : Hid (Blk (w.alloc (.cells #[.string p.hl, .string p.hh, .string p.tl, .string p.th, .int .i64 p.pr, .int .i64 p.nl, .int .i64 p.nh, .int .i64 p.fl, .int .i64 p.fh] 37)) w.heap.size 37 #[.string p.hl, .string p.hh, .string p.tl, .string p.th, .int .i64 p.pr, .int .i64 p.nl, .int .i64 p.nh, .int .i64 p.fl, .int .i64 p.fh]) := Lib.hid (by have h := Blk.new w 37 #[.string p.hl, .string p.hh, .string p.tl, .string p.th, .int .i64 p.pr, .int .i64 p.nl, .int .i64 p.nh, .int .i64 p.fl, .int .i64 p.fh]; first | exact h | simpa using h)
    have B3 := Lib.hid (B1.out.alloc (by have h := B1.out.size; first | exact h | omega | (simp at h ⊢; omega)) (.cells #[.string p.hl, .string p.hh, .string p.tl, .string p.th, .int .i64 p.pr, .int .i64 p.nl, .int .i64 p.nh, .int .i64 p.fl, .int .i64 p.fh] 37))
    have G4 : Hid (w.heap.size ≤ w.heap.size) := Lib.hid (by have h := B1.out.size; first | exact h | omega | (simp at h ⊢; omega))
    have u0 : IntKind.i64.wrap ((a0.size : Int) + (a1.size : Int)) = (a0.size : Int) + (a1.size : Int) := IntWalk.i64_in _ (by omega)
    have gq1 : decide (300 < (a0.size : Int) + (a1.size : Int)) = false := decide_eq_false (by omega)
    have gq2 : decide (a3 < 0) = false := decide_eq_false (by omega)
    have gq3 : decide (65535 < a3) = false := decide_eq_false (by omega)
    have gq4 : decide (a4 < 0) = true := decide_eq_true (by omega)
    clear z5
    go_enter Try.func4, Try.ntmps4
    go_wp2_with fail
    go_ret
    exact ⟨rfl, B3.out⟩
  by_cases q5 : 65535 < a4
  · have B1 := Lib.hid (Below.refl w.heap.size w)
    have K2 : Hid (Blk (w.alloc (.cells #[.string p.hl, .string p.hh, .string p.tl, .string p.th, .int .i64 p.pr, .int .i64 p.nl, .int .i64 p.nh, .int .i64 p.fl, .int .i64 p.fh] 37)) w.heap.size 37 #[.string p.hl, .string p.hh, .string p.tl, .string p.th, .int .i64 p.pr, .int .i64 p.nl, .int .i64 p.nh, .int .i64 p.fl, .int .i64 p.fh]) := Lib.hid (by have h := Blk.new w 37 #[.string p.hl, .string p.hh, .string p.tl, .string p.th, .int .i64 p.pr, .int .i64 p.nl, .int .i64 p.nh, .int .i64 p.fl, .int .i64 p.fh]; first | exact h | simpa using h)
    have B3 := Lib.hid (B1.out.alloc (by have h := B1.out.size; first | exact h | omega | (simp at h ⊢; omega)) (.cells #[.string p.hl, .string p.hh, .string p.tl, .string p.th, .int .i64 p.pr, .int .i64 p.nl, .int .i64 p.nh, .int .i64 p.fl, .int .i64 p.fh] 37))
    have G4 : Hid (w.heap.size ≤ w.heap.size) := Lib.hid (by have h := B1.out.size; first | exact h | omega | (simp at h ⊢; omega))
    have u0 : IntKind.i64.wrap ((a0.size : Int) + (a1.size : Int)) = (a0.size : Int) + (a1.size : Int) := IntWalk.i64_in _ (by omega)
    have gq1 : decide (300 < (a0.size : Int) + (a1.size : Int)) = false := decide_eq_false (by omega)
    have gq2 : decide (a3 < 0) = false := decide_eq_false (by omega)
    have gq3 : decide (65535 < a3) = false := decide_eq_false (by omega)
    have gq4 : decide (a4 < 0) = false := decide_eq_false (by omega)
    have gq5 : decide (65535 < a4) = true := decide_eq_true (by omega)
    clear z5
    go_enter Try.func4, Try.ntmps4
    go_wp2_with fail
    go_ret
    exact ⟨rfl, B3.out⟩
  obtain ⟨fb, hfb⟩ : ∃ b, b = decide (sz p zeroF ≤ 600) := ⟨_, rfl⟩
  have FW := Lib.hid (fun W => few_code p zeroF W ⟨z5.1, z5.2.1, z5.2.2.1, z5.2.2.2, by decide, by decide⟩)
  rw [← hfb] at FW
  clear hfb
  cases fb
  · have B1 := Lib.hid (Below.refl w.heap.size w)
    have K2 : Hid (Blk (w.alloc (.cells #[.string p.hl, .string p.hh, .string p.tl, .string p.th, .int .i64 p.pr, .int .i64 p.nl, .int .i64 p.nh, .int .i64 p.fl, .int .i64 p.fh] 37)) w.heap.size 37 #[.string p.hl, .string p.hh, .string p.tl, .string p.th, .int .i64 p.pr, .int .i64 p.nl, .int .i64 p.nh, .int .i64 p.fl, .int .i64 p.fh]) := Lib.hid (by have h := Blk.new w 37 #[.string p.hl, .string p.hh, .string p.tl, .string p.th, .int .i64 p.pr, .int .i64 p.nl, .int .i64 p.nh, .int .i64 p.fl, .int .i64 p.fh]; first | exact h | simpa using h)
    have B3 := Lib.hid (B1.out.alloc (by have h := B1.out.size; first | exact h | omega | (simp at h ⊢; omega)) (.cells #[.string p.hl, .string p.hh, .string p.tl, .string p.th, .int .i64 p.pr, .int .i64 p.nl, .int .i64 p.nh, .int .i64 p.fl, .int .i64 p.fh] 37))
    have G4 : Hid (w.heap.size ≤ w.heap.size) := Lib.hid (by have h := B1.out.size; first | exact h | omega | (simp at h ⊢; omega))
    have u0 : IntKind.i64.wrap ((a0.size : Int) + (a1.size : Int)) = (a0.size : Int) + (a1.size : Int) := IntWalk.i64_in _ (by omega)
    have gq1 : decide (300 < (a0.size : Int) + (a1.size : Int)) = false := decide_eq_false (by omega)
    have gq2 : decide (a3 < 0) = false := decide_eq_false (by omega)
    have gq3 : decide (65535 < a3) = false := decide_eq_false (by omega)
    have gq4 : decide (a4 < 0) = false := decide_eq_false (by omega)
    have gq5 : decide (65535 < a4) = false := decide_eq_false (by omega)
    clear z5
    go_enter Try.func4, Try.ntmps4
    go_wp2_with (refine Loads.wpList_load_w rfl 37 (.tmp 11) rfl w.heap.size rfl 37 #[.string p.hl, .string p.hh, .string p.tl, .string p.th, .int .i64 p.pr, .int .i64 p.nl, .int .i64 p.nh, .int .i64 p.fl, .int .i64 p.fh] (0, 0) _ (K2.out) Try.underlying37 rfl (by kernel_rfl) ?_)
    refine (FW.out _).mono ?_
    rintro e w1 ⟨rfl, hb5⟩
    have K6 : Hid (Blk w1 w.heap.size 37 #[.string p.hl, .string p.hh, .string p.tl, .string p.th, .int .i64 p.pr, .int .i64 p.nl, .int .i64 p.nh, .int .i64 p.fl, .int .i64 p.fh]) := Lib.hid (Blk.below K2.out hb5 (Blk.lt K2.out))
    have B7 := Lib.hid (B3.out.trans (hb5.mono B3.out.size))
    clear hb5
    go_wp2_with fail
    go_ret
    exact ⟨rfl, B7.out⟩
  have B1 := Lib.hid (Below.refl w.heap.size w)
  have K2 : Hid (Blk (w.alloc (.cells #[.string p.hl, .string p.hh, .string p.tl, .string p.th, .int .i64 p.pr, .int .i64 p.nl, .int .i64 p.nh, .int .i64 p.fl, .int .i64 p.fh] 37)) w.heap.size 37 #[.string p.hl, .string p.hh, .string p.tl, .string p.th, .int .i64 p.pr, .int .i64 p.nl, .int .i64 p.nh, .int .i64 p.fl, .int .i64 p.fh]) := Lib.hid (by have h := Blk.new w 37 #[.string p.hl, .string p.hh, .string p.tl, .string p.th, .int .i64 p.pr, .int .i64 p.nl, .int .i64 p.nh, .int .i64 p.fl, .int .i64 p.fh]; first | exact h | simpa using h)
  have B3 := Lib.hid (B1.out.alloc (by have h := B1.out.size; first | exact h | omega | (simp at h ⊢; omega)) (.cells #[.string p.hl, .string p.hh, .string p.tl, .string p.th, .int .i64 p.pr, .int .i64 p.nl, .int .i64 p.nh, .int .i64 p.fl, .int .i64 p.fh] 37))
  have G4 : Hid (w.heap.size ≤ w.heap.size) := Lib.hid (by have h := B1.out.size; first | exact h | omega | (simp at h ⊢; omega))
  have u0 : IntKind.i64.wrap ((a0.size : Int) + (a1.size : Int)) = (a0.size : Int) + (a1.size : Int) := IntWalk.i64_in _ (by omega)
  have gq1 : decide (300 < (a0.size : Int) + (a1.size : Int)) = false := decide_eq_false (by omega)
  have gq2 : decide (a3 < 0) = false := decide_eq_false (by omega)
  have gq3 : decide (65535 < a3) = false := decide_eq_false (by omega)
  have gq4 : decide (a4 < 0) = false := decide_eq_false (by omega)
  have gq5 : decide (65535 < a4) = false := decide_eq_false (by omega)
  obtain ⟨xh, hxh⟩ : ∃ v, v = a3 / 256 := ⟨_, rfl⟩
  obtain ⟨xl, hxl⟩ : ∃ v, v = a3 % 256 := ⟨_, rfl⟩
  obtain ⟨yh, hyh⟩ : ∃ v, v = a4 / 256 := ⟨_, rfl⟩
  obtain ⟨yl, hyl⟩ : ∃ v, v = a4 % 256 := ⟨_, rfl⟩
  have BX : Hid ((0 ≤ xh ∧ xh ≤ 255) ∧ (0 ≤ xl ∧ xl ≤ 255) ∧ (0 ≤ yh ∧ yh ≤ 255) ∧ (0 ≤ yl ∧ yl ≤ 255)) := Lib.hid (by omega)
  have e1 : a3.tdiv 256 = xh := by rw [Int.tdiv_eq_ediv_of_nonneg (by omega), hxh]
  have e2 : a3.tmod 256 = xl := by rw [Int.tmod_eq_emod_of_nonneg (by omega), hxl]
  have e3 : a4.tdiv 256 = yh := by rw [Int.tdiv_eq_ediv_of_nonneg (by omega), hyh]
  have e4 : a4.tmod 256 = yl := by rw [Int.tmod_eq_emod_of_nonneg (by omega), hyl]
  have ixh : IntKind.i64.wrap xh = xh := IntWalk.i64_in _ (by omega)
  have jxh : IntKind.u8.wrap xh = xh := by rw [IntKind.wrap_u8]; omega
  have ixl : IntKind.i64.wrap xl = xl := IntWalk.i64_in _ (by omega)
  have jxl : IntKind.u8.wrap xl = xl := by rw [IntKind.wrap_u8]; omega
  have iyh : IntKind.i64.wrap yh = yh := IntWalk.i64_in _ (by omega)
  have jyh : IntKind.u8.wrap yh = yh := by rw [IntKind.wrap_u8]; omega
  have iyl : IntKind.i64.wrap yl = yl := IntWalk.i64_in _ (by omega)
  have jyl : IntKind.u8.wrap yl = yl := by rw [IntKind.wrap_u8]; omega
  obtain ⟨F, hF⟩ : ∃ F, F = ofR a0 a1 a2 [xh, xl, yh, yl] false := ⟨_, rfl⟩
  obtain ⟨k, hk⟩ : ∃ k, k = ofE a0 a1 a2 4 := ⟨_, rfl⟩
  have s0 : a0.size ≤ maxT := by unfold maxT; omega
  have s1' : a1.size ≤ maxT := by unfold maxT; omega
  have SF := of_small (pr := a2) (l := [xh, xl, yh, yl]) (o := false) s0 s1'
  rw [← hF] at SF
  have OA : Hid (∀ W A c, Holds W W.heap.size A 4 c [xh, xl, yh, yl] → Calls Try.prog 8 #[.string a0, .string a1, .int .i64 a2, .slice A 4 c, .bool false] W fun e w' => e = .returned (.tuple #[.agg #[.string F.here, .string F.there, .int .i64 F.pr, .int .i64 F.near, .int .i64 F.far], .int .i64 (k : Int)]) ∧ Below W.heap.size W w') := Lib.hid fun W A c h => by
    rw [hF, hk]
    exact of_code a0 a1 a2 A 4 c _ false W W.heap.size h (Nat.le_refl _) s0 s1'
  have OB : Hid (∀ W A c, Holds W W.heap.size A 4 c [yh, yl, xh, xl] → Calls Try.prog 8 #[.string a1, .string a0, .int .i64 a2, .slice A 4 c, .bool true] W fun e w' => e = .returned (.tuple #[.agg #[.string F.here, .string F.there, .int .i64 F.pr, .int .i64 F.near, .int .i64 F.far], .int .i64 (k : Int)]) ∧ Below W.heap.size W w') := Lib.hid fun W A c h => by
    rw [hF, hk, ← of_answer, ofE_comm]
    exact of_code a1 a0 a2 A 4 c _ true W W.heap.size h (Nat.le_refl _) s1' s0
  have T1 := Lib.hid (fun W => turned_code F.here F.there F.pr F.near F.far W SF.1 SF.2)
  have T2 := Lib.hid (fun W => turned_code F.there F.here F.pr F.far F.near W SF.2 SF.1)
  obtain ⟨mb, hmb⟩ : ∃ b, matB p F = b := ⟨_, rfl⟩
  have M1 := Lib.hid (fun W => mat_is p F mb hmb W)
  have M2 := Lib.hid (fun W => mat_is (swap p) (turned F) mb (by rw [mat_swap, hmb]) W)
  have BA : Hid (Sums.Bytes [xh, xl, yh, yl] ∧ Sums.Bytes [yh, yl, xh, xl]) := Lib.hid ⟨by intro z hz; simp at hz; omega, by intro z hz; simp at hz; omega⟩
  clear q1 q2 q3 q4 q5 z5 hxh hxl hyh hyl hF hk SF s0 s1' hmb
  go_enter Try.func4, Try.ntmps4
  go_wp2_with (refine Loads.wpList_load_w rfl 37 (.tmp 11) rfl w.heap.size rfl 37 #[.string p.hl, .string p.hh, .string p.tl, .string p.th, .int .i64 p.pr, .int .i64 p.nl, .int .i64 p.nh, .int .i64 p.fl, .int .i64 p.fh] (0, 0) _ (K2.out) Try.underlying37 rfl (by kernel_rfl) ?_)
  refine (FW.out _).mono ?_
  rintro e w1 ⟨rfl, hb5⟩
  have K6 : Hid (Blk w1 w.heap.size 37 #[.string p.hl, .string p.hh, .string p.tl, .string p.th, .int .i64 p.pr, .int .i64 p.nl, .int .i64 p.nh, .int .i64 p.fl, .int .i64 p.fh]) := Lib.hid (Blk.below K2.out hb5 (Blk.lt K2.out))
  have B7 := Lib.hid (B3.out.trans (hb5.mono B3.out.size))
  clear hb5
  clear FW
  have K8 : Hid (Blk (w1.alloc (.cells #[Value.int .u8 xh, .int .u8 xl, .int .u8 yh, .int .u8 yl] 5)) w.heap.size 37 #[.string p.hl, .string p.hh, .string p.tl, .string p.th, .int .i64 p.pr, .int .i64 p.nl, .int .i64 p.nh, .int .i64 p.fl, .int .i64 p.fh]) := Lib.hid (Blk.alloc K6.out _)
  have N9 : Hid (w.heap.size ≠ w1.heap.size) := Lib.hid (by have h := Blk.lt K6.out; first | omega | (simp at h; omega))
  have K10 : Hid (Blk (w1.alloc (.cells #[Value.int .u8 xh, .int .u8 xl, .int .u8 yh, .int .u8 yl] 5)) w1.heap.size 5 #[Value.int .u8 xh, .int .u8 xl, .int .u8 yh, .int .u8 yl]) := Lib.hid (by have h := Blk.new w1 5 #[Value.int .u8 xh, .int .u8 xl, .int .u8 yh, .int .u8 yl]; first | exact h | simpa using h)
  have B11 := Lib.hid (B7.out.alloc (by have h := B7.out.size; first | exact h | omega | (simp at h ⊢; omega)) (.cells #[Value.int .u8 xh, .int .u8 xl, .int .u8 yh, .int .u8 yl] 5))
  have G12 : Hid (w.heap.size ≤ w1.heap.size) := Lib.hid (by have h := B7.out.size; first | exact h | omega | (simp at h ⊢; omega))
  have HA0 := Lib.hid (Draw.lit_holds w1 [xh, xl, yh, yl] #[Value.int .u8 xh, .int .u8 xl, .int .u8 yh, .int .u8 yl] (0, 0) 4 _ rfl BA.out.1 rfl rfl (by decide))
  have K13 : Hid (Blk ((w1.alloc (.cells #[Value.int .u8 xh, .int .u8 xl, .int .u8 yh, .int .u8 yl] 5)).alloc (.cells #[Value.int .u8 yh, .int .u8 yl, .int .u8 xh, .int .u8 xl] 5)) w.heap.size 37 #[.string p.hl, .string p.hh, .string p.tl, .string p.th, .int .i64 p.pr, .int .i64 p.nl, .int .i64 p.nh, .int .i64 p.fl, .int .i64 p.fh]) := Lib.hid (Blk.alloc K8.out _)
  have N14 : Hid (w.heap.size ≠ (w1.heap.size + 1)) := Lib.hid (by have h := Blk.lt K8.out; first | omega | (simp at h; omega))
  have K15 : Hid (Blk ((w1.alloc (.cells #[Value.int .u8 xh, .int .u8 xl, .int .u8 yh, .int .u8 yl] 5)).alloc (.cells #[Value.int .u8 yh, .int .u8 yl, .int .u8 xh, .int .u8 xl] 5)) (w1.heap.size + 1) 5 #[Value.int .u8 yh, .int .u8 yl, .int .u8 xh, .int .u8 xl]) := Lib.hid (by have h := Blk.new (w1.alloc (.cells #[Value.int .u8 xh, .int .u8 xl, .int .u8 yh, .int .u8 yl] 5)) 5 #[Value.int .u8 yh, .int .u8 yl, .int .u8 xh, .int .u8 xl]; first | exact h | simpa using h)
  have B16 := Lib.hid (B11.out.alloc (by have h := B11.out.size; first | exact h | omega | (simp at h ⊢; omega)) (.cells #[Value.int .u8 yh, .int .u8 yl, .int .u8 xh, .int .u8 xl] 5))
  have G17 : Hid (w.heap.size ≤ (w1.heap.size + 1)) := Lib.hid (by have h := B11.out.size; first | exact h | omega | (simp at h ⊢; omega))
  have HA : Hid (Holds ((w1.alloc (.cells #[Value.int .u8 xh, .int .u8 xl, .int .u8 yh, .int .u8 yl] 5)).alloc (.cells #[Value.int .u8 yh, .int .u8 yl, .int .u8 xh, .int .u8 xl] 5)) ((w1.alloc (.cells #[Value.int .u8 xh, .int .u8 xl, .int .u8 yh, .int .u8 yl] 5)).alloc (.cells #[Value.int .u8 yh, .int .u8 yl, .int .u8 xh, .int .u8 xl] 5)).heap.size (some ⟨w1.heap.size, 0, none⟩) 4 4 [xh, xl, yh, yl]) := Lib.hid ((HA0.out.below (((Below.refl _ _).alloc (Nat.le_refl _) _).mono (by simp))).more (by simp))
  have HB : Hid (Holds ((w1.alloc (.cells #[Value.int .u8 xh, .int .u8 xl, .int .u8 yh, .int .u8 yl] 5)).alloc (.cells #[Value.int .u8 yh, .int .u8 yl, .int .u8 xh, .int .u8 xl] 5)) ((w1.alloc (.cells #[Value.int .u8 xh, .int .u8 xl, .int .u8 yh, .int .u8 yl] 5)).alloc (.cells #[Value.int .u8 yh, .int .u8 yl, .int .u8 xh, .int .u8 xl] 5)).heap.size (some ⟨w1.heap.size + 1, 0, none⟩) 4 4 [yh, yl, xh, xl]) := Lib.hid ((Draw.lit_holds (w1.alloc (.cells #[Value.int .u8 xh, .int .u8 xl, .int .u8 yh, .int .u8 yl] 5)) [yh, yl, xh, xl] _ (0, 0) 4 (w1.heap.size + 1) rfl BA.out.2 rfl (by simp) (by decide)).more (by simp))
  clear HA0 BA
  go_wp2_with fail
  clear e1 e2 e3 e4 ixh ixl iyh iyl jxh jxl jyh jyl
  generalize ((w1.alloc (.cells #[Value.int .u8 xh, .int .u8 xl, .int .u8 yh, .int .u8 yl] 5)).alloc (.cells #[Value.int .u8 yh, .int .u8 yl, .int .u8 xh, .int .u8 xl] 5)) = w2 at *
  have B18 := Lib.hid (Below.refl w2.heap.size w2)
  refine (OA.out _ _ _ HA.out).mono ?_
  rintro e w3 ⟨rfl, hb19⟩
  have K20 : Hid (Blk w3 w.heap.size 37 #[.string p.hl, .string p.hh, .string p.tl, .string p.th, .int .i64 p.pr, .int .i64 p.nl, .int .i64 p.nh, .int .i64 p.fl, .int .i64 p.fh]) := Lib.hid (Blk.below K13.out hb19 (Blk.lt K13.out))
  have B21 := Lib.hid (B16.out.trans (hb19.mono B16.out.size))
  have B22 := Lib.hid (B18.out.trans (hb19.mono B18.out.size))
  clear hb19
  have K23 : Hid (Blk (w3.alloc (.cells #[.string ⟨#[]⟩, .string ⟨#[]⟩, .int .i64 0, .int .i64 0, .int .i64 0] 24)) w.heap.size 37 #[.string p.hl, .string p.hh, .string p.tl, .string p.th, .int .i64 p.pr, .int .i64 p.nl, .int .i64 p.nh, .int .i64 p.fl, .int .i64 p.fh]) := Lib.hid (Blk.alloc K20.out _)
  have N24 : Hid (w.heap.size ≠ w3.heap.size) := Lib.hid (by have h := Blk.lt K20.out; first | omega | (simp at h; omega))
  have K25 : Hid (Blk (w3.alloc (.cells #[.string ⟨#[]⟩, .string ⟨#[]⟩, .int .i64 0, .int .i64 0, .int .i64 0] 24)) w3.heap.size 24 #[.string ⟨#[]⟩, .string ⟨#[]⟩, .int .i64 0, .int .i64 0, .int .i64 0]) := Lib.hid (by have h := Blk.new w3 24 #[.string ⟨#[]⟩, .string ⟨#[]⟩, .int .i64 0, .int .i64 0, .int .i64 0]; first | exact h | simpa using h)
  have B26 := Lib.hid (B21.out.alloc (by have h := B21.out.size; first | exact h | omega | (simp at h ⊢; omega)) (.cells #[.string ⟨#[]⟩, .string ⟨#[]⟩, .int .i64 0, .int .i64 0, .int .i64 0] 24))
  have G27 : Hid (w.heap.size ≤ w3.heap.size) := Lib.hid (by have h := B21.out.size; first | exact h | omega | (simp at h ⊢; omega))
  have B28 := Lib.hid (B22.out.alloc (by have h := B22.out.size; first | exact h | omega | (simp at h ⊢; omega)) (.cells #[.string ⟨#[]⟩, .string ⟨#[]⟩, .int .i64 0, .int .i64 0, .int .i64 0] 24))
  have G29 : Hid (w2.heap.size ≤ w3.heap.size) := Lib.hid (by have h := B22.out.size; first | exact h | omega | (simp at h ⊢; omega))
  have K30 : Hid (Blk ((w3.alloc (.cells #[.string ⟨#[]⟩, .string ⟨#[]⟩, .int .i64 0, .int .i64 0, .int .i64 0] 24)).setRow w3.heap.size #[.string F.here, .string F.there, .int .i64 F.pr, .int .i64 F.near, .int .i64 F.far]) w.heap.size 37 #[.string p.hl, .string p.hh, .string p.tl, .string p.th, .int .i64 p.pr, .int .i64 p.nl, .int .i64 p.nh, .int .i64 p.fl, .int .i64 p.fh]) := Lib.hid ((setRow_other _ _ _ _ (N24.out)).trans K23.out)
  have K31 : Hid (Blk ((w3.alloc (.cells #[.string ⟨#[]⟩, .string ⟨#[]⟩, .int .i64 0, .int .i64 0, .int .i64 0] 24)).setRow w3.heap.size #[.string F.here, .string F.there, .int .i64 F.pr, .int .i64 F.near, .int .i64 F.far]) w3.heap.size 24 #[.string F.here, .string F.there, .int .i64 F.pr, .int .i64 F.near, .int .i64 F.far]) := Lib.hid (setRow_heap _ _ _ #[.string F.here, .string F.there, .int .i64 F.pr, .int .i64 F.near, .int .i64 F.far] _ _ K25.out)
  have B32 := Lib.hid (setRow_bel (g := w3.heap.size) B26.out G27.out #[.string F.here, .string F.there, .int .i64 F.pr, .int .i64 F.near, .int .i64 F.far])
  have B33 := Lib.hid (setRow_bel (g := w3.heap.size) B28.out G29.out #[.string F.here, .string F.there, .int .i64 F.pr, .int .i64 F.near, .int .i64 F.far])
  go_wp2_with (refine wpList_store_row rfl 24 (.tmp 15) (.tmp 80) rfl w3.heap.size #[.string F.here, .string F.there, .int .i64 F.pr, .int .i64 F.near, .int .i64 F.far] rfl rfl 24 _ K25.out (by kernel_rfl) rfl (oneF _ _ _ _ _) ?_)
  refine (OB.out _ _ _ ((HB.out.below B33.out).more B33.out.size)).mono ?_
  rintro e w4 ⟨rfl, hb34⟩
  have K35 : Hid (Blk w4 w.heap.size 37 #[.string p.hl, .string p.hh, .string p.tl, .string p.th, .int .i64 p.pr, .int .i64 p.nl, .int .i64 p.nh, .int .i64 p.fl, .int .i64 p.fh]) := Lib.hid (Blk.below K30.out hb34 (Blk.lt K30.out))
  have K36 : Hid (Blk w4 w3.heap.size 24 #[.string F.here, .string F.there, .int .i64 F.pr, .int .i64 F.near, .int .i64 F.far]) := Lib.hid (Blk.below K31.out hb34 (Blk.lt K31.out))
  have B37 := Lib.hid (B32.out.trans (hb34.mono B32.out.size))
  have B38 := Lib.hid (B33.out.trans (hb34.mono B33.out.size))
  clear hb34
  clear OA OB HA HB
  have K39 : Hid (Blk (w4.alloc (.cells #[.string ⟨#[]⟩, .string ⟨#[]⟩, .int .i64 0, .int .i64 0, .int .i64 0] 24)) w.heap.size 37 #[.string p.hl, .string p.hh, .string p.tl, .string p.th, .int .i64 p.pr, .int .i64 p.nl, .int .i64 p.nh, .int .i64 p.fl, .int .i64 p.fh]) := Lib.hid (Blk.alloc K35.out _)
  have N40 : Hid (w.heap.size ≠ w4.heap.size) := Lib.hid (by have h := Blk.lt K35.out; first | omega | (simp at h; omega))
  have K41 : Hid (Blk (w4.alloc (.cells #[.string ⟨#[]⟩, .string ⟨#[]⟩, .int .i64 0, .int .i64 0, .int .i64 0] 24)) w3.heap.size 24 #[.string F.here, .string F.there, .int .i64 F.pr, .int .i64 F.near, .int .i64 F.far]) := Lib.hid (Blk.alloc K36.out _)
  have N42 : Hid (w3.heap.size ≠ w4.heap.size) := Lib.hid (by have h := Blk.lt K36.out; first | omega | (simp at h; omega))
  have K43 : Hid (Blk (w4.alloc (.cells #[.string ⟨#[]⟩, .string ⟨#[]⟩, .int .i64 0, .int .i64 0, .int .i64 0] 24)) w4.heap.size 24 #[.string ⟨#[]⟩, .string ⟨#[]⟩, .int .i64 0, .int .i64 0, .int .i64 0]) := Lib.hid (by have h := Blk.new w4 24 #[.string ⟨#[]⟩, .string ⟨#[]⟩, .int .i64 0, .int .i64 0, .int .i64 0]; first | exact h | simpa using h)
  have B44 := Lib.hid (B37.out.alloc (by have h := B37.out.size; first | exact h | omega | (simp at h ⊢; omega)) (.cells #[.string ⟨#[]⟩, .string ⟨#[]⟩, .int .i64 0, .int .i64 0, .int .i64 0] 24))
  have G45 : Hid (w.heap.size ≤ w4.heap.size) := Lib.hid (by have h := B37.out.size; first | exact h | omega | (simp at h ⊢; omega))
  have B46 := Lib.hid (B38.out.alloc (by have h := B38.out.size; first | exact h | omega | (simp at h ⊢; omega)) (.cells #[.string ⟨#[]⟩, .string ⟨#[]⟩, .int .i64 0, .int .i64 0, .int .i64 0] 24))
  have G47 : Hid (w2.heap.size ≤ w4.heap.size) := Lib.hid (by have h := B38.out.size; first | exact h | omega | (simp at h ⊢; omega))
  have K48 : Hid (Blk ((w4.alloc (.cells #[.string ⟨#[]⟩, .string ⟨#[]⟩, .int .i64 0, .int .i64 0, .int .i64 0] 24)).setRow w4.heap.size #[.string F.here, .string F.there, .int .i64 F.pr, .int .i64 F.near, .int .i64 F.far]) w.heap.size 37 #[.string p.hl, .string p.hh, .string p.tl, .string p.th, .int .i64 p.pr, .int .i64 p.nl, .int .i64 p.nh, .int .i64 p.fl, .int .i64 p.fh]) := Lib.hid ((setRow_other _ _ _ _ (N40.out)).trans K39.out)
  have K49 : Hid (Blk ((w4.alloc (.cells #[.string ⟨#[]⟩, .string ⟨#[]⟩, .int .i64 0, .int .i64 0, .int .i64 0] 24)).setRow w4.heap.size #[.string F.here, .string F.there, .int .i64 F.pr, .int .i64 F.near, .int .i64 F.far]) w3.heap.size 24 #[.string F.here, .string F.there, .int .i64 F.pr, .int .i64 F.near, .int .i64 F.far]) := Lib.hid ((setRow_other _ _ _ _ (N42.out)).trans K41.out)
  have K50 : Hid (Blk ((w4.alloc (.cells #[.string ⟨#[]⟩, .string ⟨#[]⟩, .int .i64 0, .int .i64 0, .int .i64 0] 24)).setRow w4.heap.size #[.string F.here, .string F.there, .int .i64 F.pr, .int .i64 F.near, .int .i64 F.far]) w4.heap.size 24 #[.string F.here, .string F.there, .int .i64 F.pr, .int .i64 F.near, .int .i64 F.far]) := Lib.hid (setRow_heap _ _ _ #[.string F.here, .string F.there, .int .i64 F.pr, .int .i64 F.near, .int .i64 F.far] _ _ K43.out)
  have B51 := Lib.hid (setRow_bel (g := w4.heap.size) B44.out G45.out #[.string F.here, .string F.there, .int .i64 F.pr, .int .i64 F.near, .int .i64 F.far])
  have B52 := Lib.hid (setRow_bel (g := w4.heap.size) B46.out G47.out #[.string F.here, .string F.there, .int .i64 F.pr, .int .i64 F.near, .int .i64 F.far])
  have c53 : ((w4.alloc (.cells #[.string ⟨#[]⟩, .string ⟨#[]⟩, .int .i64 0, .int .i64 0, .int .i64 0] 24)).setRow w4.heap.size #[.string F.here, .string F.there, .int .i64 F.pr, .int .i64 F.near, .int .i64 F.far]).cell? ⟨w.heap.size, 4, none⟩ = some (.int .i64 p.pr) := K48.out.cell 4
  have K54 : Hid (Blk (((w4.alloc (.cells #[.string ⟨#[]⟩, .string ⟨#[]⟩, .int .i64 0, .int .i64 0, .int .i64 0] 24)).setRow w4.heap.size #[.string F.here, .string F.there, .int .i64 F.pr, .int .i64 F.near, .int .i64 F.far]).alloc (.cells #[.string ⟨#[]⟩, .string ⟨#[]⟩, .string ⟨#[]⟩, .string ⟨#[]⟩, .int .i64 0, .int .i64 0, .int .i64 0, .int .i64 0, .int .i64 0] 37)) w.heap.size 37 #[.string p.hl, .string p.hh, .string p.tl, .string p.th, .int .i64 p.pr, .int .i64 p.nl, .int .i64 p.nh, .int .i64 p.fl, .int .i64 p.fh]) := Lib.hid (Blk.alloc K48.out _)
  have N55 : Hid (w.heap.size ≠ (w4.heap.size + 1)) := Lib.hid (by have h := Blk.lt K48.out; first | omega | (simp at h; omega))
  have K56 : Hid (Blk (((w4.alloc (.cells #[.string ⟨#[]⟩, .string ⟨#[]⟩, .int .i64 0, .int .i64 0, .int .i64 0] 24)).setRow w4.heap.size #[.string F.here, .string F.there, .int .i64 F.pr, .int .i64 F.near, .int .i64 F.far]).alloc (.cells #[.string ⟨#[]⟩, .string ⟨#[]⟩, .string ⟨#[]⟩, .string ⟨#[]⟩, .int .i64 0, .int .i64 0, .int .i64 0, .int .i64 0, .int .i64 0] 37)) w3.heap.size 24 #[.string F.here, .string F.there, .int .i64 F.pr, .int .i64 F.near, .int .i64 F.far]) := Lib.hid (Blk.alloc K49.out _)
  have N57 : Hid (w3.heap.size ≠ (w4.heap.size + 1)) := Lib.hid (by have h := Blk.lt K49.out; first | omega | (simp at h; omega))
  have K58 : Hid (Blk (((w4.alloc (.cells #[.string ⟨#[]⟩, .string ⟨#[]⟩, .int .i64 0, .int .i64 0, .int .i64 0] 24)).setRow w4.heap.size #[.string F.here, .string F.there, .int .i64 F.pr, .int .i64 F.near, .int .i64 F.far]).alloc (.cells #[.string ⟨#[]⟩, .string ⟨#[]⟩, .string ⟨#[]⟩, .string ⟨#[]⟩, .int .i64 0, .int .i64 0, .int .i64 0, .int .i64 0, .int .i64 0] 37)) w4.heap.size 24 #[.string F.here, .string F.there, .int .i64 F.pr, .int .i64 F.near, .int .i64 F.far]) := Lib.hid (Blk.alloc K50.out _)
  have N59 : Hid (w4.heap.size ≠ (w4.heap.size + 1)) := Lib.hid (by have h := Blk.lt K50.out; first | omega | (simp at h; omega))
  have K60 : Hid (Blk (((w4.alloc (.cells #[.string ⟨#[]⟩, .string ⟨#[]⟩, .int .i64 0, .int .i64 0, .int .i64 0] 24)).setRow w4.heap.size #[.string F.here, .string F.there, .int .i64 F.pr, .int .i64 F.near, .int .i64 F.far]).alloc (.cells #[.string ⟨#[]⟩, .string ⟨#[]⟩, .string ⟨#[]⟩, .string ⟨#[]⟩, .int .i64 0, .int .i64 0, .int .i64 0, .int .i64 0, .int .i64 0] 37)) (w4.heap.size + 1) 37 #[.string ⟨#[]⟩, .string ⟨#[]⟩, .string ⟨#[]⟩, .string ⟨#[]⟩, .int .i64 0, .int .i64 0, .int .i64 0, .int .i64 0, .int .i64 0]) := Lib.hid (by have h := Blk.new ((w4.alloc (.cells #[.string ⟨#[]⟩, .string ⟨#[]⟩, .int .i64 0, .int .i64 0, .int .i64 0] 24)).setRow w4.heap.size #[.string F.here, .string F.there, .int .i64 F.pr, .int .i64 F.near, .int .i64 F.far]) 37 #[.string ⟨#[]⟩, .string ⟨#[]⟩, .string ⟨#[]⟩, .string ⟨#[]⟩, .int .i64 0, .int .i64 0, .int .i64 0, .int .i64 0, .int .i64 0]; first | exact h | simpa using h)
  have B61 := Lib.hid (B51.out.alloc (by have h := B51.out.size; first | exact h | omega | (simp at h ⊢; omega)) (.cells #[.string ⟨#[]⟩, .string ⟨#[]⟩, .string ⟨#[]⟩, .string ⟨#[]⟩, .int .i64 0, .int .i64 0, .int .i64 0, .int .i64 0, .int .i64 0] 37))
  have G62 : Hid (w.heap.size ≤ (w4.heap.size + 1)) := Lib.hid (by have h := B51.out.size; first | exact h | omega | (simp at h ⊢; omega))
  have B63 := Lib.hid (B52.out.alloc (by have h := B52.out.size; first | exact h | omega | (simp at h ⊢; omega)) (.cells #[.string ⟨#[]⟩, .string ⟨#[]⟩, .string ⟨#[]⟩, .string ⟨#[]⟩, .int .i64 0, .int .i64 0, .int .i64 0, .int .i64 0, .int .i64 0] 37))
  have G64 : Hid (w2.heap.size ≤ (w4.heap.size + 1)) := Lib.hid (by have h := B52.out.size; first | exact h | omega | (simp at h ⊢; omega))
  have K65 : Hid (Blk ((((w4.alloc (.cells #[.string ⟨#[]⟩, .string ⟨#[]⟩, .int .i64 0, .int .i64 0, .int .i64 0] 24)).setRow w4.heap.size #[.string F.here, .string F.there, .int .i64 F.pr, .int .i64 F.near, .int .i64 F.far]).alloc (.cells #[.string ⟨#[]⟩, .string ⟨#[]⟩, .string ⟨#[]⟩, .string ⟨#[]⟩, .int .i64 0, .int .i64 0, .int .i64 0, .int .i64 0, .int .i64 0] 37)).setRow (w4.heap.size + 1) #[.string p.tl, .string p.th, .string p.hl, .string p.hh, .int .i64 p.pr, .int .i64 p.fl, .int .i64 p.fh, .int .i64 p.nl, .int .i64 p.nh]) w.heap.size 37 #[.string p.hl, .string p.hh, .string p.tl, .string p.th, .int .i64 p.pr, .int .i64 p.nl, .int .i64 p.nh, .int .i64 p.fl, .int .i64 p.fh]) := Lib.hid ((setRow_other _ _ _ _ (N55.out)).trans K54.out)
  have K66 : Hid (Blk ((((w4.alloc (.cells #[.string ⟨#[]⟩, .string ⟨#[]⟩, .int .i64 0, .int .i64 0, .int .i64 0] 24)).setRow w4.heap.size #[.string F.here, .string F.there, .int .i64 F.pr, .int .i64 F.near, .int .i64 F.far]).alloc (.cells #[.string ⟨#[]⟩, .string ⟨#[]⟩, .string ⟨#[]⟩, .string ⟨#[]⟩, .int .i64 0, .int .i64 0, .int .i64 0, .int .i64 0, .int .i64 0] 37)).setRow (w4.heap.size + 1) #[.string p.tl, .string p.th, .string p.hl, .string p.hh, .int .i64 p.pr, .int .i64 p.fl, .int .i64 p.fh, .int .i64 p.nl, .int .i64 p.nh]) w3.heap.size 24 #[.string F.here, .string F.there, .int .i64 F.pr, .int .i64 F.near, .int .i64 F.far]) := Lib.hid ((setRow_other _ _ _ _ (N57.out)).trans K56.out)
  have K67 : Hid (Blk ((((w4.alloc (.cells #[.string ⟨#[]⟩, .string ⟨#[]⟩, .int .i64 0, .int .i64 0, .int .i64 0] 24)).setRow w4.heap.size #[.string F.here, .string F.there, .int .i64 F.pr, .int .i64 F.near, .int .i64 F.far]).alloc (.cells #[.string ⟨#[]⟩, .string ⟨#[]⟩, .string ⟨#[]⟩, .string ⟨#[]⟩, .int .i64 0, .int .i64 0, .int .i64 0, .int .i64 0, .int .i64 0] 37)).setRow (w4.heap.size + 1) #[.string p.tl, .string p.th, .string p.hl, .string p.hh, .int .i64 p.pr, .int .i64 p.fl, .int .i64 p.fh, .int .i64 p.nl, .int .i64 p.nh]) w4.heap.size 24 #[.string F.here, .string F.there, .int .i64 F.pr, .int .i64 F.near, .int .i64 F.far]) := Lib.hid ((setRow_other _ _ _ _ (N59.out)).trans K58.out)
  have K68 : Hid (Blk ((((w4.alloc (.cells #[.string ⟨#[]⟩, .string ⟨#[]⟩, .int .i64 0, .int .i64 0, .int .i64 0] 24)).setRow w4.heap.size #[.string F.here, .string F.there, .int .i64 F.pr, .int .i64 F.near, .int .i64 F.far]).alloc (.cells #[.string ⟨#[]⟩, .string ⟨#[]⟩, .string ⟨#[]⟩, .string ⟨#[]⟩, .int .i64 0, .int .i64 0, .int .i64 0, .int .i64 0, .int .i64 0] 37)).setRow (w4.heap.size + 1) #[.string p.tl, .string p.th, .string p.hl, .string p.hh, .int .i64 p.pr, .int .i64 p.fl, .int .i64 p.fh, .int .i64 p.nl, .int .i64 p.nh]) (w4.heap.size + 1) 37 #[.string p.tl, .string p.th, .string p.hl, .string p.hh, .int .i64 p.pr, .int .i64 p.fl, .int .i64 p.fh, .int .i64 p.nl, .int .i64 p.nh]) := Lib.hid (setRow_heap _ _ _ #[.string p.tl, .string p.th, .string p.hl, .string p.hh, .int .i64 p.pr, .int .i64 p.fl, .int .i64 p.fh, .int .i64 p.nl, .int .i64 p.nh] _ _ K60.out)
  have B69 := Lib.hid (setRow_bel (g := (w4.heap.size + 1)) B61.out G62.out #[.string p.tl, .string p.th, .string p.hl, .string p.hh, .int .i64 p.pr, .int .i64 p.fl, .int .i64 p.fh, .int .i64 p.nl, .int .i64 p.nh])
  have B70 := Lib.hid (setRow_bel (g := (w4.heap.size + 1)) B63.out G64.out #[.string p.tl, .string p.th, .string p.hl, .string p.hh, .int .i64 p.pr, .int .i64 p.fl, .int .i64 p.fh, .int .i64 p.nl, .int .i64 p.nh])
  go_wp2_with (first | (refine wpList_store_row rfl 24 (.tmp 17) (.tmp 88) rfl w4.heap.size #[.string F.here, .string F.there, .int .i64 F.pr, .int .i64 F.near, .int .i64 F.far] rfl rfl 24 _ K43.out (by kernel_rfl) rfl (oneF _ _ _ _ _) ?_) | (refine PickR2.wpList_load_part rfl 33 (.tmp 90) rfl w.heap.size 2 [.string p.tl, .string p.th] rfl (part_span 2 p.tl p.th K48.out rfl rfl) ?_) | (refine PickR2.wpList_load_part rfl 33 (.tmp 92) rfl w.heap.size 0 [.string p.hl, .string p.hh] rfl (part_span 0 p.hl p.hh K48.out rfl rfl) ?_) | (refine PickR2.wpList_load_part rfl 35 (.tmp 96) rfl w.heap.size 7 [.int .i64 p.fl, .int .i64 p.fh] rfl (part_ports 7 p.fl p.fh K48.out rfl rfl) ?_) | (refine PickR2.wpList_load_part rfl 35 (.tmp 98) rfl w.heap.size 5 [.int .i64 p.nl, .int .i64 p.nh] rfl (part_ports 5 p.nl p.nh K48.out rfl rfl) ?_) | (refine wpList_store_row rfl 37 (.tmp 19) (.tmp 100) rfl (w4.heap.size + 1) #[.string p.tl, .string p.th, .string p.hl, .string p.hh, .int .i64 p.pr, .int .i64 p.fl, .int .i64 p.fh, .int .i64 p.nl, .int .i64 p.nh] rfl rfl 37 _ K60.out (by kernel_rfl) rfl (oneP _ _ _ _ _ _ _ _ _) ?_))
  clear c53
  generalize ((((w4.alloc (.cells #[.string ⟨#[]⟩, .string ⟨#[]⟩, .int .i64 0, .int .i64 0, .int .i64 0] 24)).setRow w4.heap.size #[.string F.here, .string F.there, .int .i64 F.pr, .int .i64 F.near, .int .i64 F.far]).alloc (.cells #[.string ⟨#[]⟩, .string ⟨#[]⟩, .string ⟨#[]⟩, .string ⟨#[]⟩, .int .i64 0, .int .i64 0, .int .i64 0, .int .i64 0, .int .i64 0] 37)).setRow (w4.heap.size + 1) #[.string p.tl, .string p.th, .string p.hl, .string p.hh, .int .i64 p.pr, .int .i64 p.fl, .int .i64 p.fh, .int .i64 p.nl, .int .i64 p.nh]) = w5 at *
  have Xp : Hid (∀ V, Below w5.drew.heap.size w5.drew V → Blk V w.heap.size 37 #[.string p.hl, .string p.hh, .string p.tl, .string p.th, .int .i64 p.pr, .int .i64 p.nl, .int .i64 p.nh, .int .i64 p.fl, .int .i64 p.fh]) := Lib.hid fun V hV => Blk.below (show Blk w5.drew w.heap.size 37 #[.string p.hl, .string p.hh, .string p.tl, .string p.th, .int .i64 p.pr, .int .i64 p.nl, .int .i64 p.nh, .int .i64 p.fl, .int .i64 p.fh] from K65.out) hV (Blk.lt K65.out)
  have Xf : Hid (∀ V, Below w5.drew.heap.size w5.drew V → Blk V w3.heap.size 24 #[.string F.here, .string F.there, .int .i64 F.pr, .int .i64 F.near, .int .i64 F.far]) := Lib.hid fun V hV => Blk.below (show Blk w5.drew w3.heap.size 24 #[.string F.here, .string F.there, .int .i64 F.pr, .int .i64 F.near, .int .i64 F.far] from K66.out) hV (Blk.lt K66.out)
  have Xg : Hid (∀ V, Below w5.drew.heap.size w5.drew V → Blk V w4.heap.size 24 #[.string F.here, .string F.there, .int .i64 F.pr, .int .i64 F.near, .int .i64 F.far]) := Lib.hid fun V hV => Blk.below (show Blk w5.drew w4.heap.size 24 #[.string F.here, .string F.there, .int .i64 F.pr, .int .i64 F.near, .int .i64 F.far] from K67.out) hV (Blk.lt K67.out)
  have Xq : Hid (∀ V, Below w5.drew.heap.size w5.drew V → Blk V (w4.heap.size + 1) 37 #[.string p.tl, .string p.th, .string p.hl, .string p.hh, .int .i64 p.pr, .int .i64 p.fl, .int .i64 p.fh, .int .i64 p.nl, .int .i64 p.nh]) := Lib.hid fun V hV => Blk.below (show Blk w5.drew (w4.heap.size + 1) 37 #[.string p.tl, .string p.th, .string p.hl, .string p.hh, .int .i64 p.pr, .int .i64 p.fl, .int .i64 p.fh, .int .i64 p.nl, .int .i64 p.nh] from K68.out) hV (Blk.lt K68.out)
  refine wp_region_freeP [0, 1, 2, 3, 4, 5, 6, 7, 8, 9, 10, 11, 12, 13, 14, 15, 16, 17, 18, 19, 20, 21, 22, 23, 24, 25, 26, 27] 28 [] [(1, true), (6, true), (11, true), (18, true)] (fun w1 w2 => Below w1.heap.size w1 w2) (fun k' w' v => match k' with
    | 0 => v = .bool true
    | 1 => v = .bool true
    | 2 => v = .agg #[.string F.here, .string F.there, .int .i64 F.pr, .int .i64 F.near, .int .i64 F.far]
    | 3 => v = .agg #[.string F.here, .string F.there, .int .i64 F.pr, .int .i64 F.near, .int .i64 F.far]
    | 4 => v = .bool true
    | 5 => v = .bool true
    | 6 => v = .bool true
    | 7 => v = .int .i64 ((k : Int))
    | 8 => v = .int .i64 ((k : Int))
    | 9 => v = .bool true
    | 10 => v = .bool true
    | 11 => v = .bool true
    | 12 => v = .agg #[.string F.here, .string F.there, .int .i64 F.pr, .int .i64 F.near, .int .i64 F.far]
    | 13 => v = .agg #[.string F.there, .string F.here, .int .i64 F.pr, .int .i64 F.far, .int .i64 F.near]
    | 14 => v = .agg #[.string F.here, .string F.there, .int .i64 F.pr, .int .i64 F.near, .int .i64 F.far]
    | 15 => v = .agg #[.string F.here, .string F.there, .int .i64 F.pr, .int .i64 F.near, .int .i64 F.far]
    | 16 => v = .bool true
    | 17 => v = .bool true
    | 18 => v = .bool true
    | 19 => v = .agg #[.string p.hl, .string p.hh, .string p.tl, .string p.th, .int .i64 p.pr, .int .i64 p.nl, .int .i64 p.nh, .int .i64 p.fl, .int .i64 p.fh]
    | 20 => v = .agg #[.string F.here, .string F.there, .int .i64 F.pr, .int .i64 F.near, .int .i64 F.far]
    | 21 => v = .bool mb
    | 22 => v = .agg #[.string p.tl, .string p.th, .string p.hl, .string p.hh, .int .i64 p.pr, .int .i64 p.fl, .int .i64 p.fh, .int .i64 p.nl, .int .i64 p.nh]
    | 23 => v = .agg #[.string F.here, .string F.there, .int .i64 F.pr, .int .i64 F.near, .int .i64 F.far]
    | 24 => v = .agg #[.string F.there, .string F.here, .int .i64 F.pr, .int .i64 F.far, .int .i64 F.near]
    | 25 => v = .bool mb
    | 26 => v = .bool true
    | _ => v = .bool true) (by kernel_rfl) (by kernel_rfl) (fun q hq w v hv => ?_) (Below.refl _ _) (fun _ _ _ h k => h.trans (k.mono h.size)) (fun k' w1 w2 v h => match k' with
    | 0 => fun x => x
    | 1 => fun x => x
    | 2 => fun x => x
    | 3 => fun x => x
    | 4 => fun x => x
    | 5 => fun x => x
    | 6 => fun x => x
    | 7 => fun x => x
    | 8 => fun x => x
    | 9 => fun x => x
    | 10 => fun x => x
    | 11 => fun x => x
    | 12 => fun x => x
    | 13 => fun x => x
    | 14 => fun x => x
    | 15 => fun x => x
    | 16 => fun x => x
    | 17 => fun x => x
    | 18 => fun x => x
    | 19 => fun x => x
    | 20 => fun x => x
    | 21 => fun x => x
    | 22 => fun x => x
    | 23 => fun x => x
    | 24 => fun x => x
    | 25 => fun x => x
    | 26 => fun x => x
    | _ + 27 => fun x => x) (fun _ _ _ _ _ h => h) ?_ _ (by rfl) ?_
  · simp only [List.mem_cons, List.not_mem_nil, or_false] at hq
    rcases hq with rfl | rfl | rfl | rfl <;> exact hv
  · refine obs_cons (by rfl) (fun vals w' hgr hdep K hK => ?_) (obs_cons (by rfl) (fun vals w' hgr hdep K hK => ?_) (obs_cons (by rfl) (fun vals w' hgr hdep K hK => ?_) (obs_cons (by rfl) (fun vals w' hgr hdep K hK => ?_) (obs_cons (by rfl) (fun vals w' hgr hdep K hK => ?_) (obs_cons (by rfl) (fun vals w' hgr hdep K hK => ?_) (obs_cons (by rfl) (fun vals w' hgr hdep K hK => ?_) (obs_cons (by rfl) (fun vals w' hgr hdep K hK => ?_) (obs_cons (by rfl) (fun vals w' hgr hdep K hK => ?_) (obs_cons (by rfl) (fun vals w' hgr hdep K hK => ?_) (obs_cons (by rfl) (fun vals w' hgr hdep K hK => ?_) (obs_cons (by rfl) (fun vals w' hgr hdep K hK => ?_) (obs_cons (by rfl) (fun vals w' hgr hdep K hK => ?_) (obs_cons (by rfl) (fun vals w' hgr hdep K hK => ?_) (obs_cons (by rfl) (fun vals w' hgr hdep K hK => ?_) (obs_cons (by rfl) (fun vals w' hgr hdep K hK => ?_) (obs_cons (by rfl) (fun vals w' hgr hdep K hK => ?_) (obs_cons (by rfl) (fun vals w' hgr hdep K hK => ?_) (obs_cons (by rfl) (fun vals w' hgr hdep K hK => ?_) (obs_cons (by rfl) (fun vals w' hgr hdep K hK => ?_) (obs_cons (by rfl) (fun vals w' hgr hdep K hK => ?_) (obs_cons (by rfl) (fun vals w' hgr hdep K hK => ?_) (obs_cons (by rfl) (fun vals w' hgr hdep K hK => ?_) (obs_cons (by rfl) (fun vals w' hgr hdep K hK => ?_) (obs_cons (by rfl) (fun vals w' hgr hdep K hK => ?_) (obs_cons (by rfl) (fun vals w' hgr hdep K hK => ?_) (obs_cons (by rfl) (fun vals w' hgr hdep K hK => ?_) (obs_cons (by rfl) (fun vals w' hgr hdep K hK => ?_) (obs_nil))))))))))))))))))))))))))))
    · exact wp_call 10 [] _ rfl ent_awake [] rfl (fun v w'' => v = .bool true ∧ Below w'.heap.size w' w'') ((awake_any w').mono fun e w'' ⟨h1, h2⟩ => ⟨_, h1, rfl, h2⟩) (fun v w'' ⟨h1, h2⟩ => hK _ _ h2 h1)
    · exact wp_move (.tmp 101) rfl _ ((at_dst 0 (by kernel_rfl)).trans (hdep 0 (by simp) (by kernel_rfl))) (hK _ _ (Below.refl _ _) rfl)
    · exact st_load_row 24 (.tmp 15) rfl w3.heap.size (at_out _ (by kernel_rfl) rfl) 24 #[.string F.here, .string F.there, .int .i64 F.pr, .int .i64 F.near, .int .i64 F.far] (0, 0) _ (Xf.out w' hgr) Try.underlying24 rfl (by kernel_rfl) (hK _ _ (Below.refl _ _) rfl)
    · exact st_load_row 24 (.tmp 17) rfl w4.heap.size (at_out _ (by kernel_rfl) rfl) 24 #[.string F.here, .string F.there, .int .i64 F.pr, .int .i64 F.near, .int .i64 F.far] (0, 0) _ (Xg.out w' hgr) Try.underlying24 rfl (by kernel_rfl) (hK _ _ (Below.refl _ _) rfl)
    · exact wp_bin (.tmp 103) (.tmp 104) rfl _ _ _ ((at_dst 2 (by kernel_rfl)).trans (hdep 2 (by simp) (by kernel_rfl))) ((at_dst 3 (by kernel_rfl)).trans (hdep 3 (by simp) (by kernel_rfl))) (b_eqF _ _ _ _ _ _ _ _) (hK _ _ (Below.refl _ _) rfl)
    · exact Draw.st_pick (.tmp 102) (.tmp 105) _ rfl _ ((at_dst 1 (by kernel_rfl)).trans (hdep 1 (by simp) (by kernel_rfl))) ((at_dst 4 (by kernel_rfl)).trans (hdep 4 (by simp) (by kernel_rfl))) (hK _ _ (Below.refl _ _) rfl)
    · exact wp_move (.tmp 106) rfl _ ((at_dst 5 (by kernel_rfl)).trans (hdep 5 (by simp) (by kernel_rfl))) (hK _ _ (Below.refl _ _) rfl)
    · exact wp_move (.tmp 16) rfl _ (at_out _ (by kernel_rfl) rfl) (hK _ _ (Below.refl _ _) rfl)
    · exact wp_move (.tmp 18) rfl _ (at_out _ (by kernel_rfl) rfl) (hK _ _ (Below.refl _ _) rfl)
    · exact wp_bin (.tmp 108) (.tmp 109) rfl _ _ _ ((at_dst 7 (by kernel_rfl)).trans (hdep 7 (by simp) (by kernel_rfl))) ((at_dst 8 (by kernel_rfl)).trans (hdep 8 (by simp) (by kernel_rfl))) (Draw.b_eqe _ _ _ _) (hK _ _ (Below.refl _ _) rfl)
    · exact Draw.st_pick (.tmp 107) (.tmp 110) _ rfl _ ((at_dst 6 (by kernel_rfl)).trans (hdep 6 (by simp) (by kernel_rfl))) ((at_dst 9 (by kernel_rfl)).trans (hdep 9 (by simp) (by kernel_rfl))) (hK _ _ (Below.refl _ _) rfl)
    · exact wp_move (.tmp 111) rfl _ ((at_dst 10 (by kernel_rfl)).trans (hdep 10 (by simp) (by kernel_rfl))) (hK _ _ (Below.refl _ _) rfl)
    · exact st_load_row 24 (.tmp 15) rfl w3.heap.size (at_out _ (by kernel_rfl) rfl) 24 #[.string F.here, .string F.there, .int .i64 F.pr, .int .i64 F.near, .int .i64 F.far] (0, 0) _ (Xf.out w' hgr) Try.underlying24 rfl (by kernel_rfl) (hK _ _ (Below.refl _ _) rfl)
    · exact wp_call 11 [.tmp 113] _ rfl ent_turned [.agg #[.string F.here, .string F.there, .int .i64 F.pr, .int .i64 F.near, .int .i64 F.far]] (Draw.list1 ((at_dst 12 (by kernel_rfl)).trans (hdep 12 (by simp) (by kernel_rfl)))) (fun v w'' => v = .agg #[.string F.there, .string F.here, .int .i64 F.pr, .int .i64 F.far, .int .i64 F.near] ∧ Below w'.heap.size w' w'') ((T1.out w').mono fun e w'' ⟨h1, h2⟩ => ⟨_, h1, rfl, h2⟩) (fun v w'' ⟨h1, h2⟩ => hK _ _ h2 h1)
    · exact wp_call 11 [.tmp 114] _ rfl ent_turned [.agg #[.string F.there, .string F.here, .int .i64 F.pr, .int .i64 F.far, .int .i64 F.near]] (Draw.list1 ((at_dst 13 (by kernel_rfl)).trans (hdep 13 (by simp) (by kernel_rfl)))) (fun v w'' => v = .agg #[.string F.here, .string F.there, .int .i64 F.pr, .int .i64 F.near, .int .i64 F.far] ∧ Below w'.heap.size w' w'') ((T2.out w').mono fun e w'' ⟨h1, h2⟩ => ⟨_, h1, rfl, h2⟩) (fun v w'' ⟨h1, h2⟩ => hK _ _ h2 h1)
    · exact st_load_row 24 (.tmp 15) rfl w3.heap.size (at_out _ (by kernel_rfl) rfl) 24 #[.string F.here, .string F.there, .int .i64 F.pr, .int .i64 F.near, .int .i64 F.far] (0, 0) _ (Xf.out w' hgr) Try.underlying24 rfl (by kernel_rfl) (hK _ _ (Below.refl _ _) rfl)
    · exact wp_bin (.tmp 115) (.tmp 116) rfl _ _ _ ((at_dst 14 (by kernel_rfl)).trans (hdep 14 (by simp) (by kernel_rfl))) ((at_dst 15 (by kernel_rfl)).trans (hdep 15 (by simp) (by kernel_rfl))) (b_eqF _ _ _ _ _ _ _ _) (hK _ _ (Below.refl _ _) rfl)
    · exact Draw.st_pick (.tmp 112) (.tmp 117) _ rfl _ ((at_dst 11 (by kernel_rfl)).trans (hdep 11 (by simp) (by kernel_rfl))) ((at_dst 16 (by kernel_rfl)).trans (hdep 16 (by simp) (by kernel_rfl))) (hK _ _ (Below.refl _ _) rfl)
    · exact wp_move (.tmp 118) rfl _ ((at_dst 17 (by kernel_rfl)).trans (hdep 17 (by simp) (by kernel_rfl))) (hK _ _ (Below.refl _ _) rfl)
    · exact st_load_row 37 (.tmp 11) rfl w.heap.size (at_out _ (by kernel_rfl) rfl) 37 #[.string p.hl, .string p.hh, .string p.tl, .string p.th, .int .i64 p.pr, .int .i64 p.nl, .int .i64 p.nh, .int .i64 p.fl, .int .i64 p.fh] (0, 0) _ (Xp.out w' hgr) Try.underlying37 rfl (by kernel_rfl) (hK _ _ (Below.refl _ _) rfl)
    · exact st_load_row 24 (.tmp 15) rfl w3.heap.size (at_out _ (by kernel_rfl) rfl) 24 #[.string F.here, .string F.there, .int .i64 F.pr, .int .i64 F.near, .int .i64 F.far] (0, 0) _ (Xf.out w' hgr) Try.underlying24 rfl (by kernel_rfl) (hK _ _ (Below.refl _ _) rfl)
    · exact wp_call 14 [.tmp 120, .tmp 121] _ rfl ent_matches [.agg #[.string p.hl, .string p.hh, .string p.tl, .string p.th, .int .i64 p.pr, .int .i64 p.nl, .int .i64 p.nh, .int .i64 p.fl, .int .i64 p.fh], .agg #[.string F.here, .string F.there, .int .i64 F.pr, .int .i64 F.near, .int .i64 F.far]] (Draw.list2 ((at_dst 19 (by kernel_rfl)).trans (hdep 19 (by simp) (by kernel_rfl))) ((at_dst 20 (by kernel_rfl)).trans (hdep 20 (by simp) (by kernel_rfl)))) (fun v w'' => v = .bool mb ∧ Below w'.heap.size w' w'') ((M1.out w').mono fun e w'' ⟨h1, h2⟩ => ⟨_, h1, rfl, h2⟩) (fun v w'' ⟨h1, h2⟩ => hK _ _ h2 h1)
    · exact st_load_row 37 (.tmp 19) rfl (w4.heap.size + 1) (at_out _ (by kernel_rfl) rfl) 37 #[.string p.tl, .string p.th, .string p.hl, .string p.hh, .int .i64 p.pr, .int .i64 p.fl, .int .i64 p.fh, .int .i64 p.nl, .int .i64 p.nh] (0, 0) _ (Xq.out w' hgr) Try.underlying37 rfl (by kernel_rfl) (hK _ _ (Below.refl _ _) rfl)
    · exact st_load_row 24 (.tmp 15) rfl w3.heap.size (at_out _ (by kernel_rfl) rfl) 24 #[.string F.here, .string F.there, .int .i64 F.pr, .int .i64 F.near, .int .i64 F.far] (0, 0) _ (Xf.out w' hgr) Try.underlying24 rfl (by kernel_rfl) (hK _ _ (Below.refl _ _) rfl)
    · exact wp_call 11 [.tmp 124] _ rfl ent_turned [.agg #[.string F.here, .string F.there, .int .i64 F.pr, .int .i64 F.near, .int .i64 F.far]] (Draw.list1 ((at_dst 23 (by kernel_rfl)).trans (hdep 23 (by simp) (by kernel_rfl)))) (fun v w'' => v = .agg #[.string F.there, .string F.here, .int .i64 F.pr, .int .i64 F.far, .int .i64 F.near] ∧ Below w'.heap.size w' w'') ((T1.out w').mono fun e w'' ⟨h1, h2⟩ => ⟨_, h1, rfl, h2⟩) (fun v w'' ⟨h1, h2⟩ => hK _ _ h2 h1)
    · exact wp_call 14 [.tmp 123, .tmp 125] _ rfl ent_matches [.agg #[.string p.tl, .string p.th, .string p.hl, .string p.hh, .int .i64 p.pr, .int .i64 p.fl, .int .i64 p.fh, .int .i64 p.nl, .int .i64 p.nh], .agg #[.string F.there, .string F.here, .int .i64 F.pr, .int .i64 F.far, .int .i64 F.near]] (Draw.list2 ((at_dst 22 (by kernel_rfl)).trans (hdep 22 (by simp) (by kernel_rfl))) ((at_dst 24 (by kernel_rfl)).trans (hdep 24 (by simp) (by kernel_rfl)))) (fun v w'' => v = .bool mb ∧ Below w'.heap.size w' w'') ((M2.out w').mono fun e w'' ⟨h1, h2⟩ => ⟨_, h1, rfl, h2⟩) (fun v w'' ⟨h1, h2⟩ => hK _ _ h2 h1)
    · exact wp_bin (.tmp 122) (.tmp 126) rfl _ _ _ ((at_dst 21 (by kernel_rfl)).trans (hdep 21 (by simp) (by kernel_rfl))) ((at_dst 25 (by kernel_rfl)).trans (hdep 25 (by simp) (by kernel_rfl))) (Draw.b_eqb _ _ _ _) (hK _ _ (Below.refl _ _) rfl)
    · exact Draw.st_pick (.tmp 119) (.tmp 127) _ rfl _ ((at_dst 18 (by kernel_rfl)).trans (hdep 18 (by simp) (by kernel_rfl))) ((at_dst 26 (by kernel_rfl)).trans (hdep 26 (by simp) (by kernel_rfl))) (hK _ _ (Below.refl _ _) rfl)
  · intro vals w' hgr hG
    have ev : vals 27 = .bool true := hG 27 (by simp)
    refine st_assign (.tmp 128) _ rfl (at_dst 27 (by kernel_rfl)) (wpAnyH_done (by kernel_rfl) ?_ _)
    have BF := Lib.hid (B69.out.trans ((Draw.below_1 hgr).mono B69.out.size))
    clear hG hgr
    simp only [fill, dstAt, List.getElem?_cons_zero, List.getElem?_cons_succ, Option.bind_some, Act.put, List.setIfInBounds_toArray, List.set_cons_zero, List.set_cons_succ]
    rw [ev]
    clear ev
    generalize vals 0 = y0, vals 1 = y1, vals 2 = y2, vals 3 = y3, vals 4 = y4, vals 5 = y5, vals 6 = y6, vals 7 = y7, vals 8 = y8, vals 9 = y9, vals 10 = y10, vals 11 = y11, vals 12 = y12, vals 13 = y13, vals 14 = y14, vals 15 = y15, vals 16 = y16, vals 17 = y17, vals 18 = y18, vals 19 = y19, vals 20 = y20, vals 21 = y21, vals 22 = y22, vals 23 = y23, vals 24 = y24, vals 25 = y25, vals 26 = y26 at *
    generalize w' = wz at *
    go_wp2_with fail
    go_ret
    exact ⟨rfl, BF.out⟩
end Go.Proofs.Ytijlggfcinnfeaa.LawTurned15
