/- The law of constants, words and rounds. -/
import Derived.Test.YtbcfeecdmkcngaaDoorDigU
set_option linter.unusedVariables false
namespace Go.Proofs.YtbcfeecdmkcngaaDoor.LawRounds
open Go.RowKit Go.PlainAid Go.Proofs.YtbcfeecdmkcngaaDoor.Sums Go.Proofs.YtbcfeecdmkcngaaDoor.Mem Go.Proofs.YtbcfeecdmkcngaaDoor.Blk Go.Proofs.YtbcfeecdmkcngaaDoor.Bits3 Go.Proofs.YtbcfeecdmkcngaaDoor.Ints Go.Proofs.YtbcfeecdmkcngaaDoor.IntsO Go.Proofs.YtbcfeecdmkcngaaDoor.Both Go.Proofs.YtbcfeecdmkcngaaDoor.ShaD Go.Proofs.YtbcfeecdmkcngaaDoor.ShaC Go.Proofs.YtbcfeecdmkcngaaDoor.Dig1 Go.Proofs.YtbcfeecdmkcngaaDoor.Dig9 Go.Proofs.YtbcfeecdmkcngaaDoor.DigA Go.Proofs.YtbcfeecdmkcngaaDoor.DigU

set_option maxHeartbeats 1000000 in
theorem rounds_any (a0 : Int) (A1 : Option Addr) (n1 c1 : Nat) (l1 : List Int) (A2 : Option Addr) (n2 c2 : Nat) (bs : List Int) (W : World) (h1 : n1 ≤ 1048576 → HoldsI W W.heap.size A1 n1 c1 l1) (z1 : n1 ≤ 140737488355328) (h2 : Holds W W.heap.size A2 n2 c2 bs) (z2 : n2 ≤ 140737488355328) (hT : Tab W) :
    Calls Tryd.prog 3 #[.int .i64 a0, .slice A1 n1 c1, .slice A2 n2 c2] W fun e w' => e = .returned (.bool true) ∧ Below W.heap.size W w' := by
  by_cases q1 : 40 < n1
  · have g1 : decide ((40 : Int) < (n1 : Int)) = true := decide_eq_true (by omega)
    go_enter Tryd.func3, Tryd.ntmps3
    go_wp2_with fail
    go_ret
    exact ⟨rfl, Below.refl _ _⟩
  · have g1 : decide ((40 : Int) < (n1 : Int)) = false := decide_eq_false (by omega)
    by_cases q2 : 300 < n2
    · have g2 : decide ((300 : Int) < (n2 : Int)) = true := decide_eq_true (by omega)
      go_enter Tryd.func3, Tryd.ntmps3
      go_wp2_with fail
      go_ret
      exact ⟨rfl, Below.refl _ _⟩
    · have g2 : decide ((300 : Int) < (n2 : Int)) = false := decide_eq_false (by omega)
      have H1 := Lib.hid (h1 (by omega))
      have H2 := Lib.hid h2
      have HT := Lib.hid hT
      clear h1 h2 hT
      go_enter Tryd.func3, Tryd.ntmps3
      go_wp2_with (at_builtin
                   refine wpList_append_new rfl (.tmp 25) (.tmp 26) rfl W.heap.size rfl W.heap.size A1 n1 c1 l1 rfl H1.out rfl ?_
                   intro Ao co w1 ho hb)
      have HO := Lib.hid ho
      have B1 := Lib.hid hb
      have H21 := Lib.hid (H2.out.below hb)
      clear ho hb
      go_wp2_with fail
      refine (Both.both_lit (w := w1) (B := W.heap.size) B1.out.size [⟨A2, n2, c2, bs⟩] _ _ rfl (Both.mem1 H21.out) _ 1 rfl rfl (by decide) (by show n2 + 0 ≤ 1048576; omega)).mono ?_
      rintro e w2 ⟨Am, cm, rfl, hm, _, hb⟩
      have e1 : Both.flat [⟨A2, n2, c2, bs⟩] = bs := by simp [Both.flat]
      have e0 : Both.total [⟨A2, n2, c2, bs⟩] = n2 := rfl
      rw [e1, e0] at hm
      rw [e0]
      have HM := Lib.hid hm
      have B2 := Lib.hid (B1.out.trans (hb.mono B1.out.size))
      have HO2 := Lib.hid ((HO.out.below hb).more hb.size)
      have H22 := Lib.hid (H2.out.below B2.out)
      clear hm hb H21 HO B1 e1 e0
      go_wp2_with fail
      refine (words_u Am n2 cm bs w2 w2.heap.size HM.out (Nat.le_refl _) z2).mono ?_
      rintro e w3 ⟨A3, c3, rfl, h3, hb⟩
      have H3 := Lib.hid h3
      have B3 := Lib.hid (B2.out.trans (hb.mono B2.out.size))
      have HM3 := Lib.hid ((HM.out.below hb).more hb.size)
      have HO3 := Lib.hid ((HO2.out.below hb).more hb.size)
      have H23 := Lib.hid (H2.out.below B3.out)
      clear h3 hb HM HO2 H22 B2
      have XL1 : Hid ((out (decide (n2 = 64)) (words (nats bs))).length ≤ 1048576) := Lib.hid H3.out.2.1
      obtain ⟨X1, hX1⟩ : ∃ X, X = out (decide (n2 = 64)) (words (nats bs)) := ⟨_, rfl⟩
      obtain ⟨E1, hE1⟩ : ∃ E, E = err (decide (n2 = 64)) := ⟨_, rfl⟩
      have CW := Lib.hid (fun (V : World) (hv : Below W.heap.size W V) => words_ur A2 n2 c2 bs V W.heap.size (H2.out.below hv) hv.size z2)
      rw [← hX1, ← hE1] at CW
      rw [← hX1] at H3 XL1 ⊢
      rw [← hE1]
      clear hX1 hE1
      go_wp2_with fail
      refine (CW.out w3 B3.out).mono ?_
      rintro e w4 ⟨A4, c4, rfl, h4, hb⟩
      have H4 := Lib.hid h4
      have B4 := Lib.hid (B3.out.trans (hb.mono B3.out.size))
      have HM4 := Lib.hid ((HM3.out.below hb).more hb.size)
      have HO4 := Lib.hid ((HO3.out.below hb).more hb.size)
      have H34 := Lib.hid ((H3.out.below hb).more hb.size)
      clear h4 hb HM3 HO3 H23 B3 H3 CW
      have CR := Lib.hid (round_u Ao n1 co l1 Am n2 cm bs w4 w4.heap.size HO4.out HM4.out (Nat.le_refl _) (HT.out.up B4.out))
      have CRR := Lib.hid (fun (V : World) (hv : Below W.heap.size W V) => round_ur A1 n1 c1 l1 A2 n2 c2 bs V W.heap.size (H1.out.below hv) (H2.out.below hv) hv.size z2)
      obtain ⟨X2, hX2⟩ : ∃ X, X = out (stI l1 && decide (n2 = 64)) (round (nats l1) (nats bs)) := ⟨_, rfl⟩
      obtain ⟨E2, hE2⟩ : ∃ E, E = err (stI l1 && decide (n2 = 64)) := ⟨_, rfl⟩
      rw [← hX2, ← hE2] at CR CRR
      clear hX2 hE2
      go_wp2_with fail
      refine CR.out.mono ?_
      rintro e w5 ⟨A5, c5, rfl, h5, hb⟩
      have H5 := Lib.hid h5
      have B5 := Lib.hid (B4.out.trans (hb.mono B4.out.size))
      have HM5 := Lib.hid ((HM4.out.below hb).more hb.size)
      have HO5 := Lib.hid ((HO4.out.below hb).more hb.size)
      have H35 := Lib.hid ((H34.out.below hb).more hb.size)
      have H45 := Lib.hid ((H4.out.below hb).more hb.size)
      clear h5 hb HM4 HO4 H34 H4 B4 CR
      go_wp2_with fail
      refine (CRR.out w5 B5.out).mono ?_
      rintro e w6 ⟨A6, c6, rfl, h6, hb⟩
      have H6 := Lib.hid h6
      have B6 := Lib.hid (B5.out.trans (hb.mono B5.out.size))
      have HM6 := Lib.hid ((HM5.out.below hb).more hb.size)
      have HO6 := Lib.hid ((HO5.out.below hb).more hb.size)
      have H36 := Lib.hid ((H35.out.below hb).more hb.size)
      have H46 := Lib.hid ((H45.out.below hb).more hb.size)
      have H56 := Lib.hid ((H5.out.below hb).more hb.size)
      have CA := Lib.hid (awake_any w6 (HT.out.up B6.out))
      clear h6 hb HM5 HO5 H35 H45 H5 B5 CRR
      go_wp2_with fail
      refine CA.out.mono ?_
      rintro e w7 ⟨rfl, hb⟩
      have B7 := Lib.hid (B6.out.trans (hb.mono B6.out.size))
      have HM7 := Lib.hid ((HM6.out.below hb).more hb.size)
      have H37 := Lib.hid ((H36.out.below hb).more hb.size)
      have H47 := Lib.hid ((H46.out.below hb).more hb.size)
      have H57 := Lib.hid ((H56.out.below hb).more hb.size)
      have H67 := Lib.hid ((H6.out.below hb).more hb.size)
      have I1 := Lib.hid (ints_ref Ao n1 co l1 A1 n1 c1 l1 w7 w7.heap.size ((HO6.out.below hb).more hb.size) ((H1.out.below B7.out).more B7.out.size))
      rw [decide_eq_true rfl] at I1
      clear hb HM6 HO6 H36 H46 H56 H6 B6 CA
      go_wp2_with fail
      refine I1.out.mono ?_
      rintro e w8 ⟨rfl, hb⟩
      have B8 := Lib.hid (B7.out.trans (hb.mono B7.out.size))
      have cv1 := run_string_bytes (HM7.out.below hb)
      have cv2 := run_string_bytes (H2.out.below B8.out)
      have H38 := Lib.hid ((H37.out.below hb).more hb.size)
      have H48 := Lib.hid ((H47.out.below hb).more hb.size)
      have H58 := Lib.hid ((H57.out.below hb).more hb.size)
      have H68 := Lib.hid ((H67.out.below hb).more hb.size)
      have C1 := Lib.hid (constant_no a0 w8 (HT.out.up B8.out))
      have C2 := Lib.hid (constant_ref a0 w8)
      generalize kAt a0 = ka at *
      generalize strOfNums bs = sb at *
      clear hb HM7 H37 H47 H57 H67 B7 I1
      go_wp2_with fail
      refine C1.out.mono ?_
      rintro e w' ⟨rfl, rfl⟩
      go_wp2_with fail
      refine C2.out.mono ?_
      rintro e w9 ⟨rfl, hb⟩
      have B9 := Lib.hid (B8.out.trans (hb.mono B8.out.size))
      have I2 := Lib.hid (ints_ref A3 X1.length c3 X1 A4 X1.length c4 X1 w9 w9.heap.size ((H38.out.below hb).more hb.size) ((H48.out.below hb).more hb.size))
      rw [decide_eq_true rfl] at I2
      have H59 := Lib.hid ((H58.out.below hb).more hb.size)
      have H69 := Lib.hid ((H68.out.below hb).more hb.size)
      clear hb H38 H48 H58 H68 B8 C1 C2 cv1 cv2
      go_wp2_with fail
      refine I2.out.mono ?_
      rintro e w10 ⟨rfl, hb⟩
      have B10 := Lib.hid (B9.out.trans (hb.mono B9.out.size))
      have I3 := Lib.hid (ints_ref A5 X2.length c5 X2 A6 X2.length c6 X2 w10 w10.heap.size ((H59.out.below hb).more hb.size) ((H69.out.below hb).more hb.size))
      rw [decide_eq_true rfl] at I3
      clear hb H59 H69 B9 I2
      go_wp2_with fail
      refine I3.out.mono ?_
      rintro e w11 ⟨rfl, hb⟩
      have B11 := Lib.hid (B10.out.trans (hb.mono B10.out.size))
      clear hb
      go_wp2_with fail
      go_ret
      exact ⟨rfl, B11.out⟩
end Go.Proofs.YtbcfeecdmkcngaaDoor.LawRounds
