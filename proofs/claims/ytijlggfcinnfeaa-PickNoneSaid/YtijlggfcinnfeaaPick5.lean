/- The code's Of. -/
import Derived.Test.YtijlggfcinnfeaaPick4
set_option linter.unusedVariables false
namespace Go.Proofs.Ytijlggfcinnfeaa.Pick5
open Go.RowKit Go.Proofs.Ytijlggfcinnfeaa.Mem Go.Proofs.Ytijlggfcinnfeaa.Blk Go.Proofs.Ytijlggfcinnfeaa.Ahead Go.Proofs.Ytijlggfcinnfeaa.PickD Go.Proofs.Ytijlggfcinnfeaa.PickR1 Go.Proofs.Ytijlggfcinnfeaa.PickR2 Go.Proofs.Ytijlggfcinnfeaa.PickR3 Go.Proofs.Ytijlggfcinnfeaa.Pick1 Go.Proofs.Ytijlggfcinnfeaa.Pick2 Go.Proofs.Ytijlggfcinnfeaa.Free Go.Proofs.Ytijlggfcinnfeaa.Steps Go.Proofs.Ytijlggfcinnfeaa.Regs Go.Proofs.Ytijlggfcinnfeaa.Com Go.Proofs.Ytijlggfcinnfeaa.Pick4

set_option maxRecDepth 100000 in
set_option maxHeartbeats 2000000 in
theorem of_code (src dst : ByteArray) (pr : Int) (A : Option Addr) (n c : Nat) (l : List Int) (out : Bool) (w : World) (B : Nat) (h : Holds w B A n c l) (hB : B ≤ w.heap.size) (h1 : src.size ≤ maxT) (h2 : dst.size ≤ maxT) :
    Calls Try.prog 8 #[.string src, .string dst, .int .i64 pr, .slice A n c, .bool out] w fun e w' => e = .returned (.tuple #[.agg #[.string (ofR src dst pr l out).here, .string (ofR src dst pr l out).there, .int .i64 (ofR src dst pr l out).pr, .int .i64 (ofR src dst pr l out).near, .int .i64 (ofR src dst pr l out).far], .int .i64 ((ofE src dst pr l.length : Nat) : Int)]) ∧ Below w.heap.size w w' := by
  have AD := Lib.hid (addr_code src)
  have WI := Lib.hid (within_i pr 0 255)
  have HC := Lib.hid (has_code pr)
  have J0 := Lib.hid (Blk.new w 24 #[.string ⟨#[]⟩, .string ⟨#[]⟩, .int .i64 0, .int .i64 0, .int .i64 0])
  have B0 := Lib.hid ((Below.refl w.heap.size w).alloc (Nat.le_refl _) (.cells #[.string ⟨#[]⟩, .string ⟨#[]⟩, .int .i64 0, .int .i64 0, .int .i64 0] 24))
  have hl := h.1
  obtain ⟨x0, hx0⟩ : ∃ x, isA src = x := ⟨_, rfl⟩
  obtain ⟨x1, hx1⟩ : ∃ x, (decide (0 ≤ pr) && decide (pr ≤ 255)) = x := ⟨_, rfl⟩
  obtain ⟨x2, hx2⟩ : ∃ x, has pr = x := ⟨_, rfl⟩
  have EP : Hid (ofE src dst pr l.length = if ((x0 && decide (src.size = dst.size)) && x1) = false then 1 else if (x2 && decide (n < 4)) = true then 8 else 0) := Lib.hid (by unfold ofE; rw [paired_isA, hx0, hx1, hx2, hl])
  rw [hx0] at AD
  rw [hx1] at WI
  rw [hx2] at HC
  have W2 := Lib.hid hx2
  have HH := Lib.hid h
  have HB := Lib.hid hB
  clear h hB hx0 hx1 hx2 hl
  cases x0
  · have EE : Hid (ofE src dst pr l.length = 1) := Lib.hid (by rw [EP.out]; rfl)
    have RR : Hid (ofR src dst pr l out = zeroF) := Lib.hid (by unfold ofR; rw [EE.out]; rfl)
    go_enter Try.func8, Try.ntmps8
    go_wp2_with fail
    refine (AD.out _).mono ?_
    rintro e w1 ⟨rfl, rfl⟩
    go_wp2_with (refine wpList_store_row rfl 24 (.tmp 10) (.tmp 27) rfl w.heap.size #[.string ⟨#[]⟩, .string ⟨#[]⟩, .int .i64 0, .int .i64 0, .int .i64 0] rfl rfl 24 _ J0.out (by kernel_rfl) rfl (oneF _ _ _ _ _) ?_)
    exact bodyPost_ret (results_pair rfl _ _ w.heap.size 24 #[.string ⟨#[]⟩, .string ⟨#[]⟩, .int .i64 0, .int .i64 0, .int .i64 0] (0, 0) _ _ rfl rfl (setRow_heap _ _ _ _ _ _ J0.out) Try.underlying24 rfl (by kernel_rfl)) rfl ⟨by rw [EE.out, RR.out]; rfl, setRow_bel B0.out (Nat.le_refl _) _⟩
  by_cases q : ¬ src.size = dst.size
  · have g1 : ((src.size : Int) != (dst.size : Int)) = true := by rw [bne_iff_ne]; omega
    have EE : Hid (ofE src dst pr l.length = 1) := Lib.hid (by rw [EP.out, decide_eq_false q]; rfl)
    have RR : Hid (ofR src dst pr l out = zeroF) := Lib.hid (by unfold ofR; rw [EE.out]; rfl)
    clear q
    go_enter Try.func8, Try.ntmps8
    go_wp2_with fail
    refine (AD.out _).mono ?_
    rintro e w1 ⟨rfl, rfl⟩
    go_wp2_with (refine wpList_store_row rfl 24 (.tmp 10) (.tmp 27) rfl w.heap.size #[.string ⟨#[]⟩, .string ⟨#[]⟩, .int .i64 0, .int .i64 0, .int .i64 0] rfl rfl 24 _ J0.out (by kernel_rfl) rfl (oneF _ _ _ _ _) ?_)
    exact bodyPost_ret (results_pair rfl _ _ w.heap.size 24 #[.string ⟨#[]⟩, .string ⟨#[]⟩, .int .i64 0, .int .i64 0, .int .i64 0] (0, 0) _ _ rfl rfl (setRow_heap _ _ _ _ _ _ J0.out) Try.underlying24 rfl (by kernel_rfl)) rfl ⟨by rw [EE.out, RR.out]; rfl, setRow_bel B0.out (Nat.le_refl _) _⟩
  have g1 : ((src.size : Int) != (dst.size : Int)) = false := by rw [bne_eq_false_iff_eq]; omega
  have q' : src.size = dst.size := by omega
  replace EP : Hid (ofE src dst pr l.length = if x1 = false then 1 else if (x2 && decide (n < 4)) = true then 8 else 0) := Lib.hid (by rw [EP.out, decide_eq_true q']; rfl)
  clear q q'
  cases x1
  · have EE : Hid (ofE src dst pr l.length = 1) := Lib.hid (by rw [EP.out]; rfl)
    have RR : Hid (ofR src dst pr l out = zeroF) := Lib.hid (by unfold ofR; rw [EE.out]; rfl)
    go_enter Try.func8, Try.ntmps8
    go_wp2_with fail
    refine (AD.out _).mono ?_
    rintro e w1 ⟨rfl, rfl⟩
    go_wp2_with fail
    refine (WI.out _).mono ?_
    rintro e w1 ⟨rfl, rfl⟩
    go_wp2_with (refine wpList_store_row rfl 24 (.tmp 10) (.tmp 27) rfl w.heap.size #[.string ⟨#[]⟩, .string ⟨#[]⟩, .int .i64 0, .int .i64 0, .int .i64 0] rfl rfl 24 _ J0.out (by kernel_rfl) rfl (oneF _ _ _ _ _) ?_)
    exact bodyPost_ret (results_pair rfl _ _ w.heap.size 24 #[.string ⟨#[]⟩, .string ⟨#[]⟩, .int .i64 0, .int .i64 0, .int .i64 0] (0, 0) _ _ rfl rfl (setRow_heap _ _ _ _ _ _ J0.out) Try.underlying24 rfl (by kernel_rfl)) rfl ⟨by rw [EE.out, RR.out]; rfl, setRow_bel B0.out (Nat.le_refl _) _⟩
  by_cases k4 : x2 = true ∧ n < 4
  · obtain ⟨rfl, k4⟩ := k4
    have g4 : decide ((n : Int) < 4) = true := decide_eq_true (by omega)
    have EE : Hid (ofE src dst pr l.length = 8) := Lib.hid (by rw [EP.out, decide_eq_true k4]; rfl)
    have RR : Hid (ofR src dst pr l out = zeroF) := Lib.hid (by unfold ofR; rw [EE.out]; rfl)
    clear k4
    go_enter Try.func8, Try.ntmps8
    go_wp2_with fail
    refine (AD.out _).mono ?_
    rintro e w1 ⟨rfl, rfl⟩
    go_wp2_with fail
    refine (WI.out _).mono ?_
    rintro e w1 ⟨rfl, rfl⟩
    go_wp2_with fail
    refine (HC.out _).mono ?_
    rintro e w1 ⟨rfl, rfl⟩
    go_wp2_with (refine wpList_store_row rfl 24 (.tmp 10) (.tmp 36) rfl w.heap.size #[.string ⟨#[]⟩, .string ⟨#[]⟩, .int .i64 0, .int .i64 0, .int .i64 0] rfl rfl 24 _ J0.out (by kernel_rfl) rfl (oneF _ _ _ _ _) ?_)
    exact bodyPost_ret (results_pair rfl _ _ w.heap.size 24 #[.string ⟨#[]⟩, .string ⟨#[]⟩, .int .i64 0, .int .i64 0, .int .i64 0] (0, 0) _ _ rfl rfl (setRow_heap _ _ _ _ _ _ J0.out) Try.underlying24 rfl (by kernel_rfl)) rfl ⟨by rw [EE.out, RR.out]; rfl, setRow_bel B0.out (Nat.le_refl _) _⟩
  have EE : Hid (ofE src dst pr l.length = 0) := Lib.hid (by
    rw [EP.out, if_neg (by simp), if_neg]
    intro e
    simp only [Bool.and_eq_true, decide_eq_true_eq] at e
    exact k4 e)
  have BC : Hid (∀ W, Below w.heap.size w W → Calls Try.prog 20 #[.int .i64 pr, .slice A n c] W fun e w' => e = .returned (.tuple #[.int .i64 (nearV pr l), .int .i64 (farV pr l)]) ∧ Below W.heap.size W w') := Lib.hid fun W hW => both_code pr A n c l W B (HH.out.below (hW.mono HB.out)) (Nat.le_trans HB.out hW.size) (fun e => by
    rw [W2.out] at e
    subst e
    by_cases k : n < 4
    · exact absurd ⟨rfl, k⟩ k4
    · omega)
  have RT : Hid (ofR src dst pr l out = if out then ⟨src, dst, pr, nearV pr l, farV pr l⟩ else ⟨dst, src, pr, farV pr l, nearV pr l⟩) := Lib.hid (by unfold ofR ofF nearV farV; rw [EE.out, if_pos rfl])
  have g4 : x2 = true → decide ((n : Int) < 4) = false := fun e => decide_eq_false (fun k => k4 ⟨e, by omega⟩)
  generalize nearV pr l = v1 at *
  generalize farV pr l = v2 at *
  have OC := Lib.hid (fun W => own_code src dst pr v1 v2 W h1 h2)
  have TC := Lib.hid (fun W => turned_code src dst pr v1 v2 W h1 h2)
  clear k4 h1 h2 EP W2 HH HB
  cases out
  · cases x2
    · clear g4
      have RR : Hid (ofR src dst pr l false = ⟨dst, src, pr, v2, v1⟩) := Lib.hid (by rw [RT.out]; rfl)
      clear RT
      go_enter Try.func8, Try.ntmps8
      go_wp2_with fail
      refine (AD.out _).mono ?_
      rintro e w1 ⟨rfl, rfl⟩
      go_wp2_with fail
      refine (WI.out _).mono ?_
      rintro e w1 ⟨rfl, rfl⟩
      go_wp2_with fail
      refine (HC.out _).mono ?_
      rintro e w1 ⟨rfl, rfl⟩
      go_wp2_with fail
      refine (BC.out _ B0.out).mono ?_
      rintro e w1 ⟨rfl, hb⟩
      have J1 := Lib.hid (Blk.below J0.out hb (Blk.lt J0.out))
      have B1 := Lib.hid (B0.out.trans (hb.mono B0.out.size))
      have lt1 : w.heap.size < w1.heap.size := Blk.lt J1.out
      have LL := Lib.hid lt1
      clear hb lt1
      have J2 := Lib.hid (Blk.new w1 24 #[.string ⟨#[]⟩, .string ⟨#[]⟩, .int .i64 0, .int .i64 0, .int .i64 0])
      have RG : Hid (Blk ((w1.alloc (.cells #[.string ⟨#[]⟩, .string ⟨#[]⟩, .int .i64 0, .int .i64 0, .int .i64 0] 24)).setRow w1.heap.size #[.string src, .string dst, .int .i64 pr, .int .i64 v1, .int .i64 v2]) w1.heap.size 24 #[.string src, .string dst, .int .i64 pr, .int .i64 v1, .int .i64 v2]) := Lib.hid (setRow_heap _ _ _ #[.string src, .string dst, .int .i64 pr, .int .i64 v1, .int .i64 v2] _ _ J2.out)
      have RZ : Hid (Blk ((w1.alloc (.cells #[.string ⟨#[]⟩, .string ⟨#[]⟩, .int .i64 0, .int .i64 0, .int .i64 0] 24)).setRow w1.heap.size #[.string src, .string dst, .int .i64 pr, .int .i64 v1, .int .i64 v2]) w.heap.size 24 #[.string ⟨#[]⟩, .string ⟨#[]⟩, .int .i64 0, .int .i64 0, .int .i64 0]) := Lib.hid ((setRow_other _ _ _ _ (by have := LL.out; omega)).trans (Blk.alloc J1.out (.cells #[.string ⟨#[]⟩, .string ⟨#[]⟩, .int .i64 0, .int .i64 0, .int .i64 0] 24)))
      have B3 := Lib.hid (setRow_bel (g := w1.heap.size) (B1.out.alloc (by have := LL.out; omega) (.cells #[.string ⟨#[]⟩, .string ⟨#[]⟩, .int .i64 0, .int .i64 0, .int .i64 0] 24)) (by have := LL.out; omega) #[.string src, .string dst, .int .i64 pr, .int .i64 v1, .int .i64 v2])
      go_wp2_with (first | (refine wpList_store_row rfl 24 (.tmp 14) (.tmp 48) rfl w1.heap.size #[.string src, .string dst, .int .i64 pr, .int .i64 v1, .int .i64 v2] rfl rfl 24 _ J2.out (by kernel_rfl) rfl (oneF _ _ _ _ _) ?_) | (refine Loads.wpList_load_w rfl 24 (.tmp 14) rfl w1.heap.size rfl 24 #[.string src, .string dst, .int .i64 pr, .int .i64 v1, .int .i64 v2] (0, 0) _ (RG.out) Try.underlying24 rfl (by kernel_rfl) ?_))
      refine (TC.out _).mono ?_
      rintro e wt ⟨rfl, hb⟩
      have RZt := Lib.hid (Blk.below RZ.out hb (Blk.lt RZ.out))
      have BBt := Lib.hid (B3.out.trans (hb.mono B3.out.size))
      clear hb
      go_wp2_with (refine wpList_store_row rfl 24 (.tmp 10) (.tmp 53) rfl w.heap.size #[.string dst, .string src, .int .i64 pr, .int .i64 v2, .int .i64 v1] rfl rfl 24 _ RZt.out (by kernel_rfl) rfl (oneF _ _ _ _ _) ?_)
      exact bodyPost_ret (results_pair rfl _ _ w.heap.size 24 #[.string dst, .string src, .int .i64 pr, .int .i64 v2, .int .i64 v1] (0, 0) _ _ rfl rfl (setRow_heap _ _ _ _ _ _ RZt.out) Try.underlying24 rfl (by kernel_rfl)) rfl ⟨by rw [EE.out, RR.out]; rfl, setRow_bel BBt.out (Nat.le_refl _) _⟩
    · replace g4 := g4 rfl
      have RR : Hid (ofR src dst pr l false = ⟨dst, src, pr, v2, v1⟩) := Lib.hid (by rw [RT.out]; rfl)
      clear RT
      go_enter Try.func8, Try.ntmps8
      go_wp2_with fail
      refine (AD.out _).mono ?_
      rintro e w1 ⟨rfl, rfl⟩
      go_wp2_with fail
      refine (WI.out _).mono ?_
      rintro e w1 ⟨rfl, rfl⟩
      go_wp2_with fail
      refine (HC.out _).mono ?_
      rintro e w1 ⟨rfl, rfl⟩
      go_wp2_with fail
      refine (BC.out _ B0.out).mono ?_
      rintro e w1 ⟨rfl, hb⟩
      have J1 := Lib.hid (Blk.below J0.out hb (Blk.lt J0.out))
      have B1 := Lib.hid (B0.out.trans (hb.mono B0.out.size))
      have lt1 : w.heap.size < w1.heap.size := Blk.lt J1.out
      have LL := Lib.hid lt1
      clear hb lt1
      have J2 := Lib.hid (Blk.new w1 24 #[.string ⟨#[]⟩, .string ⟨#[]⟩, .int .i64 0, .int .i64 0, .int .i64 0])
      have RG : Hid (Blk ((w1.alloc (.cells #[.string ⟨#[]⟩, .string ⟨#[]⟩, .int .i64 0, .int .i64 0, .int .i64 0] 24)).setRow w1.heap.size #[.string src, .string dst, .int .i64 pr, .int .i64 v1, .int .i64 v2]) w1.heap.size 24 #[.string src, .string dst, .int .i64 pr, .int .i64 v1, .int .i64 v2]) := Lib.hid (setRow_heap _ _ _ #[.string src, .string dst, .int .i64 pr, .int .i64 v1, .int .i64 v2] _ _ J2.out)
      have RZ : Hid (Blk ((w1.alloc (.cells #[.string ⟨#[]⟩, .string ⟨#[]⟩, .int .i64 0, .int .i64 0, .int .i64 0] 24)).setRow w1.heap.size #[.string src, .string dst, .int .i64 pr, .int .i64 v1, .int .i64 v2]) w.heap.size 24 #[.string ⟨#[]⟩, .string ⟨#[]⟩, .int .i64 0, .int .i64 0, .int .i64 0]) := Lib.hid ((setRow_other _ _ _ _ (by have := LL.out; omega)).trans (Blk.alloc J1.out (.cells #[.string ⟨#[]⟩, .string ⟨#[]⟩, .int .i64 0, .int .i64 0, .int .i64 0] 24)))
      have B3 := Lib.hid (setRow_bel (g := w1.heap.size) (B1.out.alloc (by have := LL.out; omega) (.cells #[.string ⟨#[]⟩, .string ⟨#[]⟩, .int .i64 0, .int .i64 0, .int .i64 0] 24)) (by have := LL.out; omega) #[.string src, .string dst, .int .i64 pr, .int .i64 v1, .int .i64 v2])
      go_wp2_with (first | (refine wpList_store_row rfl 24 (.tmp 14) (.tmp 48) rfl w1.heap.size #[.string src, .string dst, .int .i64 pr, .int .i64 v1, .int .i64 v2] rfl rfl 24 _ J2.out (by kernel_rfl) rfl (oneF _ _ _ _ _) ?_) | (refine Loads.wpList_load_w rfl 24 (.tmp 14) rfl w1.heap.size rfl 24 #[.string src, .string dst, .int .i64 pr, .int .i64 v1, .int .i64 v2] (0, 0) _ (RG.out) Try.underlying24 rfl (by kernel_rfl) ?_))
      refine (TC.out _).mono ?_
      rintro e wt ⟨rfl, hb⟩
      have RZt := Lib.hid (Blk.below RZ.out hb (Blk.lt RZ.out))
      have BBt := Lib.hid (B3.out.trans (hb.mono B3.out.size))
      clear hb
      go_wp2_with (refine wpList_store_row rfl 24 (.tmp 10) (.tmp 53) rfl w.heap.size #[.string dst, .string src, .int .i64 pr, .int .i64 v2, .int .i64 v1] rfl rfl 24 _ RZt.out (by kernel_rfl) rfl (oneF _ _ _ _ _) ?_)
      exact bodyPost_ret (results_pair rfl _ _ w.heap.size 24 #[.string dst, .string src, .int .i64 pr, .int .i64 v2, .int .i64 v1] (0, 0) _ _ rfl rfl (setRow_heap _ _ _ _ _ _ RZt.out) Try.underlying24 rfl (by kernel_rfl)) rfl ⟨by rw [EE.out, RR.out]; rfl, setRow_bel BBt.out (Nat.le_refl _) _⟩
  · cases x2
    · clear g4
      have RR : Hid (ofR src dst pr l true = ⟨src, dst, pr, v1, v2⟩) := Lib.hid (by rw [RT.out]; rfl)
      clear RT
      go_enter Try.func8, Try.ntmps8
      go_wp2_with fail
      refine (AD.out _).mono ?_
      rintro e w1 ⟨rfl, rfl⟩
      go_wp2_with fail
      refine (WI.out _).mono ?_
      rintro e w1 ⟨rfl, rfl⟩
      go_wp2_with fail
      refine (HC.out _).mono ?_
      rintro e w1 ⟨rfl, rfl⟩
      go_wp2_with fail
      refine (BC.out _ B0.out).mono ?_
      rintro e w1 ⟨rfl, hb⟩
      have J1 := Lib.hid (Blk.below J0.out hb (Blk.lt J0.out))
      have B1 := Lib.hid (B0.out.trans (hb.mono B0.out.size))
      have lt1 : w.heap.size < w1.heap.size := Blk.lt J1.out
      have LL := Lib.hid lt1
      clear hb lt1
      have J2 := Lib.hid (Blk.new w1 24 #[.string ⟨#[]⟩, .string ⟨#[]⟩, .int .i64 0, .int .i64 0, .int .i64 0])
      have RG : Hid (Blk ((w1.alloc (.cells #[.string ⟨#[]⟩, .string ⟨#[]⟩, .int .i64 0, .int .i64 0, .int .i64 0] 24)).setRow w1.heap.size #[.string src, .string dst, .int .i64 pr, .int .i64 v1, .int .i64 v2]) w1.heap.size 24 #[.string src, .string dst, .int .i64 pr, .int .i64 v1, .int .i64 v2]) := Lib.hid (setRow_heap _ _ _ #[.string src, .string dst, .int .i64 pr, .int .i64 v1, .int .i64 v2] _ _ J2.out)
      have RZ : Hid (Blk ((w1.alloc (.cells #[.string ⟨#[]⟩, .string ⟨#[]⟩, .int .i64 0, .int .i64 0, .int .i64 0] 24)).setRow w1.heap.size #[.string src, .string dst, .int .i64 pr, .int .i64 v1, .int .i64 v2]) w.heap.size 24 #[.string ⟨#[]⟩, .string ⟨#[]⟩, .int .i64 0, .int .i64 0, .int .i64 0]) := Lib.hid ((setRow_other _ _ _ _ (by have := LL.out; omega)).trans (Blk.alloc J1.out (.cells #[.string ⟨#[]⟩, .string ⟨#[]⟩, .int .i64 0, .int .i64 0, .int .i64 0] 24)))
      have B3 := Lib.hid (setRow_bel (g := w1.heap.size) (B1.out.alloc (by have := LL.out; omega) (.cells #[.string ⟨#[]⟩, .string ⟨#[]⟩, .int .i64 0, .int .i64 0, .int .i64 0] 24)) (by have := LL.out; omega) #[.string src, .string dst, .int .i64 pr, .int .i64 v1, .int .i64 v2])
      go_wp2_with (first | (refine wpList_store_row rfl 24 (.tmp 14) (.tmp 48) rfl w1.heap.size #[.string src, .string dst, .int .i64 pr, .int .i64 v1, .int .i64 v2] rfl rfl 24 _ J2.out (by kernel_rfl) rfl (oneF _ _ _ _ _) ?_) | (refine Loads.wpList_load_w rfl 24 (.tmp 14) rfl w1.heap.size rfl 24 #[.string src, .string dst, .int .i64 pr, .int .i64 v1, .int .i64 v2] (0, 0) _ (RG.out) Try.underlying24 rfl (by kernel_rfl) ?_))
      refine (OC.out _).mono ?_
      rintro e wt ⟨rfl, hb⟩
      have RZt := Lib.hid (Blk.below RZ.out hb (Blk.lt RZ.out))
      have BBt := Lib.hid (B3.out.trans (hb.mono B3.out.size))
      clear hb
      go_wp2_with (refine wpList_store_row rfl 24 (.tmp 10) (.tmp 51) rfl w.heap.size #[.string src, .string dst, .int .i64 pr, .int .i64 v1, .int .i64 v2] rfl rfl 24 _ RZt.out (by kernel_rfl) rfl (oneF _ _ _ _ _) ?_)
      exact bodyPost_ret (results_pair rfl _ _ w.heap.size 24 #[.string src, .string dst, .int .i64 pr, .int .i64 v1, .int .i64 v2] (0, 0) _ _ rfl rfl (setRow_heap _ _ _ _ _ _ RZt.out) Try.underlying24 rfl (by kernel_rfl)) rfl ⟨by rw [EE.out, RR.out]; rfl, setRow_bel BBt.out (Nat.le_refl _) _⟩
    · replace g4 := g4 rfl
      have RR : Hid (ofR src dst pr l true = ⟨src, dst, pr, v1, v2⟩) := Lib.hid (by rw [RT.out]; rfl)
      clear RT
      go_enter Try.func8, Try.ntmps8
      go_wp2_with fail
      refine (AD.out _).mono ?_
      rintro e w1 ⟨rfl, rfl⟩
      go_wp2_with fail
      refine (WI.out _).mono ?_
      rintro e w1 ⟨rfl, rfl⟩
      go_wp2_with fail
      refine (HC.out _).mono ?_
      rintro e w1 ⟨rfl, rfl⟩
      go_wp2_with fail
      refine (BC.out _ B0.out).mono ?_
      rintro e w1 ⟨rfl, hb⟩
      have J1 := Lib.hid (Blk.below J0.out hb (Blk.lt J0.out))
      have B1 := Lib.hid (B0.out.trans (hb.mono B0.out.size))
      have lt1 : w.heap.size < w1.heap.size := Blk.lt J1.out
      have LL := Lib.hid lt1
      clear hb lt1
      have J2 := Lib.hid (Blk.new w1 24 #[.string ⟨#[]⟩, .string ⟨#[]⟩, .int .i64 0, .int .i64 0, .int .i64 0])
      have RG : Hid (Blk ((w1.alloc (.cells #[.string ⟨#[]⟩, .string ⟨#[]⟩, .int .i64 0, .int .i64 0, .int .i64 0] 24)).setRow w1.heap.size #[.string src, .string dst, .int .i64 pr, .int .i64 v1, .int .i64 v2]) w1.heap.size 24 #[.string src, .string dst, .int .i64 pr, .int .i64 v1, .int .i64 v2]) := Lib.hid (setRow_heap _ _ _ #[.string src, .string dst, .int .i64 pr, .int .i64 v1, .int .i64 v2] _ _ J2.out)
      have RZ : Hid (Blk ((w1.alloc (.cells #[.string ⟨#[]⟩, .string ⟨#[]⟩, .int .i64 0, .int .i64 0, .int .i64 0] 24)).setRow w1.heap.size #[.string src, .string dst, .int .i64 pr, .int .i64 v1, .int .i64 v2]) w.heap.size 24 #[.string ⟨#[]⟩, .string ⟨#[]⟩, .int .i64 0, .int .i64 0, .int .i64 0]) := Lib.hid ((setRow_other _ _ _ _ (by have := LL.out; omega)).trans (Blk.alloc J1.out (.cells #[.string ⟨#[]⟩, .string ⟨#[]⟩, .int .i64 0, .int .i64 0, .int .i64 0] 24)))
      have B3 := Lib.hid (setRow_bel (g := w1.heap.size) (B1.out.alloc (by have := LL.out; omega) (.cells #[.string ⟨#[]⟩, .string ⟨#[]⟩, .int .i64 0, .int .i64 0, .int .i64 0] 24)) (by have := LL.out; omega) #[.string src, .string dst, .int .i64 pr, .int .i64 v1, .int .i64 v2])
      go_wp2_with (first | (refine wpList_store_row rfl 24 (.tmp 14) (.tmp 48) rfl w1.heap.size #[.string src, .string dst, .int .i64 pr, .int .i64 v1, .int .i64 v2] rfl rfl 24 _ J2.out (by kernel_rfl) rfl (oneF _ _ _ _ _) ?_) | (refine Loads.wpList_load_w rfl 24 (.tmp 14) rfl w1.heap.size rfl 24 #[.string src, .string dst, .int .i64 pr, .int .i64 v1, .int .i64 v2] (0, 0) _ (RG.out) Try.underlying24 rfl (by kernel_rfl) ?_))
      refine (OC.out _).mono ?_
      rintro e wt ⟨rfl, hb⟩
      have RZt := Lib.hid (Blk.below RZ.out hb (Blk.lt RZ.out))
      have BBt := Lib.hid (B3.out.trans (hb.mono B3.out.size))
      clear hb
      go_wp2_with (refine wpList_store_row rfl 24 (.tmp 10) (.tmp 51) rfl w.heap.size #[.string src, .string dst, .int .i64 pr, .int .i64 v1, .int .i64 v2] rfl rfl 24 _ RZt.out (by kernel_rfl) rfl (oneF _ _ _ _ _) ?_)
      exact bodyPost_ret (results_pair rfl _ _ w.heap.size 24 #[.string src, .string dst, .int .i64 pr, .int .i64 v1, .int .i64 v2] (0, 0) _ _ rfl rfl (setRow_heap _ _ _ _ _ _ RZt.out) Try.underlying24 rfl (by kernel_rfl)) rfl ⟨by rw [EE.out, RR.out]; rfl, setRow_bel BBt.out (Nat.le_refl _) _⟩
end Go.Proofs.Ytijlggfcinnfeaa.Pick5
