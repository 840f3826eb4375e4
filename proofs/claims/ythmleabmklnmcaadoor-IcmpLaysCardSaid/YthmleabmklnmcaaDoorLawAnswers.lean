/- The law IcmpAnswers. -/
import Derived.Test.YthmleabmklnmcaaDoorIcmA
set_option linter.unusedVariables false
namespace Go.Proofs.YthmleabmklnmcaaDoor.LawAnswers
open Go.RowKit Go.Sort Go.Proofs.YthmleabmklnmcaaDoor.Sums Go.Proofs.YthmleabmklnmcaaDoor.Words Go.Proofs.YthmleabmklnmcaaDoor.Mem Go.Proofs.YthmleabmklnmcaaDoor.Ahead Go.Proofs.YthmleabmklnmcaaDoor.IcmD Go.Proofs.YthmleabmklnmcaaDoor.Blk Go.Proofs.YthmleabmklnmcaaDoor.Bits Go.Proofs.YthmleabmklnmcaaDoor.InetSum Go.Proofs.YthmleabmklnmcaaDoor.Steps Go.Proofs.YthmleabmklnmcaaDoor.Free Go.Proofs.YthmleabmklnmcaaDoor.Cut
open Go.Proofs.YthmleabmklnmcaaDoor.Com Go.Proofs.YthmleabmklnmcaaDoor.Fam Go.Proofs.YthmleabmklnmcaaDoor.Kind Go.Proofs.YthmleabmklnmcaaDoor.Make Go.Proofs.YthmleabmklnmcaaDoor.IcmA

def Yes (w : World) (e : Ending) (w' : World) : Prop := e = .returned (.bool true) ∧ Below w.heap.size w w'

theorem kind_at (t c r : Int) (wide : Bool) (A : Option Addr) (n cc : Nat) (w : World) (hf : Fam w) : Calls Tryd.prog 19 #[.agg #[.int .i64 t, .int .i64 c, .int .i64 r, .slice A n cc], .bool wide] w fun e w' => e = .returned (.int .i64 (kind t c wide)) ∧ Below w.heap.size w w' := kind_any ⟨t, c, r⟩ wide A n cc w hf

set_option maxHeartbeats 4000000 in
set_option maxRecDepth 100000 in
theorem answers_any (k : Int) (wide : Bool) (t c : Int) (w : World) (hf : Fam w) :
    Calls Tryd.prog 7 #[.int .i64 k, .bool wide, .int .i64 t, .int .i64 c] w (Yes w) := by
  have M := Lib.hid (make_any k wide 7 none 0 0 [] w 0 (Holds.nil _ _ _) (Nat.zero_le _) (by decide) hf)
  have F0 := Lib.hid hf
  have kin := kind_in t c wide
  have KI := Lib.hid (fun (W : World) (h : Fam W) => kind_at t c 0 wide none 0 0 W h)
  clear hf
  obtain ⟨kk, hkk⟩ : ∃ kk, kk = kind t c wide := ⟨_, rfl⟩
  rw [← hkk] at KI kin
  have g1 : decide (kk < 0) = false := decide_eq_false (by omega)
  have g2 : decide ((6 : Int) < kk) = false := decide_eq_false (by omega)
  clear hkk kin
  by_cases hk : 1 ≤ k ∧ k ≤ 6
  · have MK := Lib.hid (made_kind hk.1 hk.2 wide)
    obtain ⟨m1, h1⟩ : ∃ m1, m1 = (made k wide).1 := ⟨_, rfl⟩
    obtain ⟨m2, h2⟩ : ∃ m2, m2 = (made k wide).2 := ⟨_, rfl⟩
    rw [← h1, ← h2] at MK
    have M1 := Lib.hid h1
    have M2 := Lib.hid h2
    have KM := Lib.hid (fun (W : World) (h : Fam W) A c => kind_at m1 m2 7 wide A 0 c W h)
    rw [MK.out] at KM
    clear h1 h2 MK
    rcases (show k = 1 ∨ k = 2 ∨ k = 3 ∨ k = 4 ∨ k = 5 ∨ k = 6 by omega) with rfl | rfl | rfl | rfl | rfl | rfl
    all_goals
      clear hk
      go_enter Tryd.func7, Tryd.ntmps7
      go_wp2_with fail
      refine M.out.mono ?_
      rintro e w1 ⟨g, hb⟩
      rcases g with ⟨_, A1, c1, rfl, o1⟩ | ⟨g, _⟩
      case inr => exact absurd (by decide) g
      rw [← M1.out, ← M2.out]
      have B1 := Lib.hid hb
      have F1 := Lib.hid (F0.out.below hb)
      have P2 := Lib.hid (Blk.new w1 24 #[.int .i64 m1, .int .i64 m2, .int .i64 7, .slice A1 0 c1])
      have B2 := Lib.hid (B1.out.alloc B1.out.size (.cells #[.int .i64 m1, .int .i64 m2, .int .i64 7, .slice A1 0 c1] 24))
      have F2 := Lib.hid (F1.out.alloc (.cells #[.int .i64 m1, .int .i64 m2, .int .i64 7, .slice A1 0 c1] 24))
      clear hb o1 B1 F1
      go_wp2_with fail
      refine (KI.out _ F2.out).mono ?_
      rintro e w3 ⟨rfl, hb⟩
      have B3 := Lib.hid (B2.out.trans (hb.mono B2.out.size))
      have F3 := Lib.hid (F2.out.below hb)
      have P3 := Lib.hid (P2.out.below hb P2.out.lt)
      clear hb B2 F2 P2
      go_wp2_with fail
      refine (awake_any _ F3.out).mono ?_
      rintro e w4 ⟨rfl, hb⟩
      have B4 := Lib.hid (B3.out.trans (hb.mono B3.out.size))
      have F4 := Lib.hid (F3.out.below hb)
      have P4 := Lib.hid (P3.out.below hb P3.out.lt)
      clear hb B3 F3 P3
      go_wp2_with (refine Loads.wpList_load_w rfl 24 (.tmp 9) rfl w1.heap.size rfl 24 #[.int .i64 m1, .int .i64 m2, .int .i64 7, .slice A1 0 c1] (0, 0) _ P4.out (Tryd.underlying24) rfl (by kernel_rfl) ?_)
      refine (KM.out _ F4.out A1 c1).mono ?_
      rintro e w5 ⟨rfl, hb⟩
      have B5 := Lib.hid (B4.out.trans (hb.mono B4.out.size))
      have P5 := P4.out.below hb P4.out.lt
      have p2 := P5.cell 2
      clear hb B4 F4 P4 P5
      go_wp2_with fail
      refine (error_any _ _).mono ?_
      rintro e w6 ⟨rfl, rfl⟩
      go_wp2_with fail
      go_ret
      exact ⟨rfl, B5.out⟩
  · have PE : Hid (mkErr k 7 = 1) := Lib.hid (mk_one fun q => hk ⟨q.1, q.2.1⟩)
    have hk' : decide ((1 : Int) ≤ k) = false ∨ (decide ((1 : Int) ≤ k) = true ∧ decide (k ≤ 6) = false) := by
      by_cases a : 1 ≤ k
      · exact .inr ⟨decide_eq_true a, decide_eq_false fun b => hk ⟨a, b⟩⟩
      · exact .inl (decide_eq_false a)
    clear hk
    rcases hk' with hk' | ⟨hk1, hk2⟩
    all_goals
      go_enter Tryd.func7, Tryd.ntmps7
      go_wp2_with fail
      refine M.out.mono ?_
      rintro e w1 ⟨g, hb⟩
      rcases g with ⟨g, _⟩ | ⟨_, rfl⟩
      · rw [PE.out] at g; cases g
      have B1 := Lib.hid hb
      have F1 := Lib.hid (F0.out.below hb)
      have P2 := Lib.hid (Blk.new w1 24 #[.int .i64 0, .int .i64 0, .int .i64 0, .slice none 0 0])
      have B2 := Lib.hid (B1.out.alloc B1.out.size (.cells #[.int .i64 0, .int .i64 0, .int .i64 0, .slice none 0 0] 24))
      have F2 := Lib.hid (F1.out.alloc (.cells #[.int .i64 0, .int .i64 0, .int .i64 0, .slice none 0 0] 24))
      clear hb B1 F1
      go_wp2_with fail
      refine (KI.out _ F2.out).mono ?_
      rintro e w3 ⟨rfl, hb⟩
      have B3 := Lib.hid (B2.out.trans (hb.mono B2.out.size))
      have F3 := Lib.hid (F2.out.below hb)
      have P3 := Lib.hid (P2.out.below hb P2.out.lt)
      clear hb B2 F2 P2
      go_wp2_with fail
      refine (awake_any _ F3.out).mono ?_
      rintro e w4 ⟨rfl, hb⟩
      have B4 := Lib.hid (B3.out.trans (hb.mono B3.out.size))
      have P4 := P3.out.below hb P3.out.lt
      have p2 := P4.cell 2
      clear hb B3 F3 P3 P4
      go_wp2_with fail
      go_ret
      exact ⟨rfl, B4.out⟩
end Go.Proofs.YthmleabmklnmcaaDoor.LawAnswers
