/- The law MacParts: its walk. -/
import Derived.Test.YtmlihcillheeaaaDoorMacU
set_option linter.unusedVariables false
namespace Go.Proofs.YtmlihcillheeaaaDoor.LawPartsM
open Go.RowKit Go.PlainAid Go.Proofs.YtmlihcillheeaaaDoor.Sums Go.Proofs.YtmlihcillheeaaaDoor.Mem Go.Proofs.YtmlihcillheeaaaDoor.Blk Go.Proofs.YtmlihcillheeaaaDoor.Bits3 Go.Proofs.YtmlihcillheeaaaDoor.Ints Go.Proofs.YtmlihcillheeaaaDoor.Both Go.Proofs.YtmlihcillheeaaaDoor.Free Go.Proofs.YtmlihcillheeaaaDoor.Steps Go.Proofs.YtmlihcillheeaaaDoor.Ops Go.Proofs.YtmlihcillheeaaaDoor.ShaD Go.Proofs.YtmlihcillheeaaaDoor.ShaO Go.Proofs.YtmlihcillheeaaaDoor.Dig1 Go.Proofs.YtmlihcillheeaaaDoor.Dig9 Go.Proofs.YtmlihcillheeaaaDoor.DigA Go.Proofs.YtmlihcillheeaaaDoor.MacD Go.Proofs.YtmlihcillheeaaaDoor.Mac2 Go.Proofs.YtmlihcillheeaaaDoor.Mac3 Go.Proofs.YtmlihcillheeaaaDoor.Mac4 Go.Proofs.YtmlihcillheeaaaDoor.MacA Go.Proofs.YtmlihcillheeaaaDoor.MacU

set_option maxHeartbeats 1000000 in
set_option maxRecDepth 100000 in
theorem big (A0 : Option Addr) (n0 c0 : Nat) (l0 : List Int) (A1 : Option Addr) (n1 c1 : Nat) (l1 : List Int) (A2 : Option Addr) (n2 c2 : Nat) (l2 : List Int) (A3 : Option Addr) (n3 c3 : Nat) (l3 : List Int) (a4 : Int) (w : World) (h0 : Holds w w.heap.size A0 n0 c0 l0) (h1 : Holds w w.heap.size A1 n1 c1 l1) (h2 : Holds w w.heap.size A2 n2 c2 l2) (h3 : Holds w w.heap.size A3 n3 c3 l3) (m0 : n0 ≤ 140737488355328) (m1 : n1 ≤ 140737488355328) (m2 : n2 ≤ 140737488355328) (m3 : n3 ≤ 140737488355328) (hT : Tab w) (q : (300 < n0) ∨ (n0 ≤ 300 ∧ 300 < n1) ∨ (n0 ≤ 300 ∧ n1 ≤ 300 ∧ 300 < n2) ∨ (n0 ≤ 300 ∧ n1 ≤ 300 ∧ n2 ≤ 300 ∧ 300 < n3) ∨ (n0 ≤ 300 ∧ n1 ≤ 300 ∧ n2 ≤ 300 ∧ n3 ≤ 300 ∧ a4 < 0) ∨ (n0 ≤ 300 ∧ n1 ≤ 300 ∧ n2 ≤ 300 ∧ n3 ≤ 300 ∧ 0 ≤ a4 ∧ 64 < a4)) :
    Calls Tryd.prog 4 #[.slice A0 n0 c0, .slice A1 n1 c1, .slice A2 n2 c2, .slice A3 n3 c3, .int .i64 a4] w fun e w' => e = .returned (.bool true) ∧ Below w.heap.size w w' := by
  rcases q with q0 | ⟨q0, q1⟩ | ⟨q0, q1, q2⟩ | ⟨q0, q1, q2, q3⟩ | ⟨q0, q1, q2, q3, q4⟩ | ⟨q0, q1, q2, q3, q4, q5⟩
  · have g0 : decide ((300 : Int) < (n0 : Int)) = true := decide_eq_true (by omega)
    clear h0 h1 h2 h3 m0 m1 m2 m3 hT q0
    go_enter Tryd.func4, Tryd.ntmps4
    go_wp2_with fail
    go_ret
    exact ⟨rfl, Below.refl _ _⟩
  · have g0 : decide ((300 : Int) < (n0 : Int)) = false := decide_eq_false (by omega)
    have g1 : decide ((300 : Int) < (n1 : Int)) = true := decide_eq_true (by omega)
    clear h0 h1 h2 h3 m0 m1 m2 m3 hT q0 q1
    go_enter Tryd.func4, Tryd.ntmps4
    go_wp2_with fail
    go_ret
    exact ⟨rfl, Below.refl _ _⟩
  · have g0 : decide ((300 : Int) < (n0 : Int)) = false := decide_eq_false (by omega)
    have g1 : decide ((300 : Int) < (n1 : Int)) = false := decide_eq_false (by omega)
    have g2 : decide ((300 : Int) < (n2 : Int)) = true := decide_eq_true (by omega)
    clear h0 h1 h2 h3 m0 m1 m2 m3 hT q0 q1 q2
    go_enter Tryd.func4, Tryd.ntmps4
    go_wp2_with fail
    go_ret
    exact ⟨rfl, Below.refl _ _⟩
  · have g0 : decide ((300 : Int) < (n0 : Int)) = false := decide_eq_false (by omega)
    have g1 : decide ((300 : Int) < (n1 : Int)) = false := decide_eq_false (by omega)
    have g2 : decide ((300 : Int) < (n2 : Int)) = false := decide_eq_false (by omega)
    have g3 : decide ((300 : Int) < (n3 : Int)) = true := decide_eq_true (by omega)
    clear h0 h1 h2 h3 m0 m1 m2 m3 hT q0 q1 q2 q3
    go_enter Tryd.func4, Tryd.ntmps4
    go_wp2_with fail
    go_ret
    exact ⟨rfl, Below.refl _ _⟩
  · have g0 : decide ((300 : Int) < (n0 : Int)) = false := decide_eq_false (by omega)
    have g1 : decide ((300 : Int) < (n1 : Int)) = false := decide_eq_false (by omega)
    have g2 : decide ((300 : Int) < (n2 : Int)) = false := decide_eq_false (by omega)
    have g3 : decide ((300 : Int) < (n3 : Int)) = false := decide_eq_false (by omega)
    have g4 : decide (a4 < 0) = true := decide_eq_true (by omega)
    clear h0 h1 h2 h3 m0 m1 m2 m3 hT q0 q1 q2 q3 q4
    go_enter Tryd.func4, Tryd.ntmps4
    go_wp2_with fail
    go_ret
    exact ⟨rfl, Below.refl _ _⟩
  · have g0 : decide ((300 : Int) < (n0 : Int)) = false := decide_eq_false (by omega)
    have g1 : decide ((300 : Int) < (n1 : Int)) = false := decide_eq_false (by omega)
    have g2 : decide ((300 : Int) < (n2 : Int)) = false := decide_eq_false (by omega)
    have g3 : decide ((300 : Int) < (n3 : Int)) = false := decide_eq_false (by omega)
    have g4 : decide (a4 < 0) = false := decide_eq_false (by omega)
    have g5 : decide (64 < a4) = true := decide_eq_true (by omega)
    clear h0 h1 h2 h3 m0 m1 m2 m3 hT q0 q1 q2 q3 q4 q5
    go_enter Tryd.func4, Tryd.ntmps4
    go_wp2_with fail
    go_ret
    exact ⟨rfl, Below.refl _ _⟩

set_option maxHeartbeats 4000000 in
set_option maxRecDepth 100000 in
theorem main_aa (A0 : Option Addr) (n0 c0 : Nat) (l0 : List Int) (A1 : Option Addr) (n1 c1 : Nat) (l1 : List Int) (A2 : Option Addr) (n2 c2 : Nat) (l2 : List Int) (A3 : Option Addr) (n3 c3 : Nat) (l3 : List Int) (k : Nat) (w : World) (h0 : Holds w w.heap.size A0 n0 c0 l0) (h1 : Holds w w.heap.size A1 n1 c1 l1) (h2 : Holds w w.heap.size A2 n2 c2 l2) (h3 : Holds w w.heap.size A3 n3 c3 l3) (m0 : n0 ≤ 140737488355328) (m1 : n1 ≤ 140737488355328) (m2 : n2 ≤ 140737488355328) (m3 : n3 ≤ 140737488355328) (hT : Tab w) (q0 : n0 ≤ 300) (q1 : n1 ≤ 300) (q2 : n2 ≤ 300) (q3 : n3 ≤ 300) (q4 : k ≤ 64) (q5 : n0 + k ≤ 64) (q6 : n0 = 32) :
    Calls Tryd.prog 4 #[.slice A0 n0 c0, .slice A1 n1 c1, .slice A2 n2 c2, .slice A3 n3 c3, .int .i64 (k : Int)] w fun e w' => e = .returned (.bool true) ∧ Below w.heap.size w w' := by
  have g7 : decide ((n0 : Int) + (k : Int) ≤ 64) = true := decide_eq_true (by omega)
  have g8 : ((n0 : Int) != 32) = false := by rw [bne_eq_false_iff_eq]; omega
  have NK := Lib.hid q5
  have TG : Hid (∀ F : List Nat, tgN n0 = 16 ∧ tgE n0 = 0 ∧ tgO n0 F = ints (F.take 16)) := Lib.hid fun F => by rw [q6]; exact tg_yes F
  clear q5 q6
  have g0 : decide ((300 : Int) < (n0 : Int)) = false := decide_eq_false (by omega)
  have g1 : decide ((300 : Int) < (n1 : Int)) = false := decide_eq_false (by omega)
  have g2 : decide ((300 : Int) < (n2 : Int)) = false := decide_eq_false (by omega)
  have g3 : decide ((300 : Int) < (n3 : Int)) = false := decide_eq_false (by omega)
  have g4 : decide ((k : Int) < 0) = false := decide_eq_false (by omega)
  have g5 : decide ((64 : Int) < (k : Int)) = false := decide_eq_false (by omega)
  have g6 : IntKind.i64.wrap ((n0 : Int) + (k : Int)) = (n0 : Int) + (k : Int) := IntWalk.i64_in _ (by omega)
  have H0 := Lib.hid h0
  have H1 := Lib.hid h1
  have H2 := Lib.hid h2
  have H3 := Lib.hid h3
  have HT := Lib.hid hT
  have QS : Hid (n0 ≤ 300 ∧ n1 ≤ 300 ∧ n2 ≤ 300 ∧ n3 ≤ 300 ∧ k ≤ 64) := Lib.hid ⟨q0, q1, q2, q3, q4⟩
  obtain ⟨L, hL⟩ : ∃ L, L = l1 ++ (l2 ++ l3) := ⟨_, rfl⟩
  obtain ⟨F, hF⟩ : ∃ F, F = full (nats l0) (nats L) := ⟨_, rfl⟩
  have FE := Lib.hid hF
  have LE := Lib.hid hL
  have F3 : Hid (full (nats l0) (nats (flat [⟨A1, n1, c1, l1⟩, ⟨A2, n2, c2, l2⟩, ⟨A3, n3, c3, l3⟩])) = F) := Lib.hid (by rw [hF, hL]; simp [flat])
  clear h0 h1 h2 h3 m0 m1 m2 m3 hT q0 q1 q2 q3 q4 hF hL
  replace TG := Lib.hid (TG.out F)
  have mk : ∀ W : World, (Instr.makeSlice 22 (.int .i64 (k : Int)) (.int .i64 (k : Int))).run Tryd.prog W = .ok (.slice (some ⟨W.heap.size, 0, none⟩) k k) (W.alloc (.cells (bcells (List.replicate k 0)) 5)) := fun W => make_b k (by have := QS.out; omega) W
  go_enter Tryd.func4, Tryd.ntmps4
  go_wp2_with fail
  refine (full_lit (w := w) (Nat.le_refl _) [⟨A1, n1, c1, l1⟩, ⟨A2, n2, c2, l2⟩, ⟨A3, n3, c3, l3⟩] #[.slice A1 n1 c1, .slice A2 n2 c2, .slice A3 n3 c3] rfl (mem3 H1.out H2.out H3.out) w.heap.size 3 rfl rfl (by decide) (by decide) (by show n1 + (n2 + (n3 + 0)) ≤ 900000; have := QS.out; omega) HT.out A0 n0 c0 l0 H0.out (by have := QS.out; omega) F F3.out).mono ?_
  rintro e w1 ⟨A5, c5, rfl, oo, hb⟩
  have H5 := Lib.hid oo.holds
  have B1 := Lib.hid hb
  clear oo hb
  go_wp2_with fail
  refine (both_lit (w := w1) B1.out.size [⟨A1, n1, c1, l1⟩, ⟨A2, n2, c2, l2⟩, ⟨A3, n3, c3, l3⟩] #[.slice A1 n1 c1, .slice A2 n2 c2, .slice A3 n3 c3] _ rfl (mem3 (H1.out.below B1.out) (H2.out.below B1.out) (H3.out.below B1.out)) _ 3 rfl rfl (by decide) (by show n1 + (n2 + (n3 + 0)) ≤ 1048576; have := QS.out; omega)).mono ?_
  rintro e w2 ⟨A6, c6, rfl, hh, _, hb⟩
  have e0 : total [⟨A1, n1, c1, l1⟩, ⟨A2, n2, c2, l2⟩, ⟨A3, n3, c3, l3⟩] = n1 + (n2 + n3) := rfl
  have e1 : flat [⟨A1, n1, c1, l1⟩, ⟨A2, n2, c2, l2⟩, ⟨A3, n3, c3, l3⟩] = L := by rw [LE.out]; simp [flat]
  rw [e0, e1] at hh
  rw [e0]
  have H6 := Lib.hid hh
  have B2 := Lib.hid (B1.out.trans (hb.mono B1.out.size))
  replace H5 := Lib.hid ((H5.out.below hb).more hb.size)
  clear hh hb e0 e1
  obtain ⟨m, hm⟩ : ∃ m, m = n1 + (n2 + n3) := ⟨_, rfl⟩
  have ML : Hid (m ≤ 900) := Lib.hid (by have := QS.out; omega)
  rw [← hm] at H6 ⊢
  clear hm
  go_wp2_with fail
  refine (full_lit (w := w2) (Nat.le_refl _) [⟨A6, m, c6, L⟩] #[.slice A6 m c6] rfl (mem1 H6.out) w2.heap.size 1 rfl rfl (by decide) (by decide) (by show m + 0 ≤ 900000; have := ML.out; omega) (HT.out.up B2.out) A0 n0 c0 l0 ((H0.out.below B2.out).more B2.out.size) (by have := QS.out; omega) F (by rw [nats_one, FE.out])).mono ?_
  rintro e w3 ⟨A7, c7, rfl, oo, hb⟩
  have H7 := Lib.hid oo.holds
  have B3 := Lib.hid (B2.out.trans (hb.mono B2.out.size))
  replace H5 := Lib.hid ((H5.out.below hb).more hb.size)
  clear oo hb H6 ML
  obtain ⟨sf, hsf⟩ : ∃ s, s = strOfNums (ints F) := ⟨_, rfl⟩
  have EF := Lib.hid hsf
  have cv5 := run_string_bytes H5.out
  have cv7 := run_string_bytes H7.out
  rw [← hsf] at cv5 cv7
  clear hsf
  have ZB := Lib.hid ((Below.refl w3.heap.size w3).alloc (Nat.le_refl _) (.cells (bcells (List.replicate k 0)) 5))
  have Z0 : Hid (Holds (w3.alloc (.cells (bcells (List.replicate k 0)) 5)) (w3.heap.size + 1) A0 n0 c0 l0) := Lib.hid (((H0.out.below B3.out).more B3.out.size).below ZB.out |>.more (by omega))
  have Z1 : Hid (Holds (w3.alloc (.cells (bcells (List.replicate k 0)) 5)) (w3.heap.size + 1) (some ⟨w3.heap.size, 0, none⟩) k k (ints (List.replicate k 0))) := Lib.hid (by
    have q := (Dig8.owns_lc w3 0 k k (Nat.zero_le _) (Nat.le_refl _) (by have := QS.out; omega)).holds
    simpa using q)
  go_wp2_with fail
  clear cv5 cv7 H7
  refine (both_lit (w := w3.alloc (.cells (bcells (List.replicate k 0)) 5)) (B := w3.heap.size + 1) (by simp) [⟨A0, n0, c0, l0⟩, ⟨some ⟨w3.heap.size, 0, none⟩, k, k, ints (List.replicate k 0)⟩] #[.slice A0 n0 c0, .slice (some ⟨w3.heap.size, 0, none⟩) k k] _ rfl (mem2 Z0.out Z1.out) _ 2 (by simp) rfl (by decide) (by show n0 + (k + 0) ≤ 1048576; have := QS.out; omega)).mono ?_
  rintro e w4 ⟨A8, c8, rfl, hh, _, hb⟩
  have e0 : total [⟨A0, n0, c0, l0⟩, ⟨some ⟨w3.heap.size, 0, none⟩, k, k, ints (List.replicate k 0)⟩] = n0 + k := rfl
  have e1 : flat [⟨A0, n0, c0, l0⟩, ⟨some ⟨w3.heap.size, 0, none⟩, k, k, ints (List.replicate k 0)⟩] = l0 ++ ints (List.replicate k 0) := by simp [flat]
  rw [e0, e1] at hh
  rw [e0]
  have H8 := Lib.hid hh
  have D4 := Lib.hid (ZB.out.trans (hb.mono (by simp)))
  have B4 := Lib.hid (B3.out.trans (D4.out.mono B3.out.size))
  replace H5 := Lib.hid ((H5.out.below D4.out).more D4.out.size)
  clear hh hb e0 e1 Z0 Z1 ZB mk D4
  go_wp2_with fail
  refine (both_lit (w := w4) B4.out.size [⟨A2, n2, c2, l2⟩, ⟨A3, n3, c3, l3⟩] #[.slice A2 n2 c2, .slice A3 n3 c3] _ rfl (mem2 (H2.out.below B4.out) (H3.out.below B4.out)) _ 2 rfl rfl (by decide) (by show n2 + (n3 + 0) ≤ 1048576; have := QS.out; omega)).mono ?_
  rintro e w5 ⟨A9, c9, rfl, hh, _, hb⟩
  have e0 : total [⟨A2, n2, c2, l2⟩, ⟨A3, n3, c3, l3⟩] = n2 + n3 := rfl
  have e1 : flat [⟨A2, n2, c2, l2⟩, ⟨A3, n3, c3, l3⟩] = l2 ++ l3 := by simp [flat]
  rw [e0, e1] at hh
  rw [e0]
  have H9 := Lib.hid hh
  have B5 := Lib.hid (B4.out.trans (hb.mono B4.out.size))
  replace H5 := Lib.hid ((H5.out.below hb).more hb.size)
  replace H8 := Lib.hid ((H8.out.below hb).more hb.size)
  clear hh hb e0 e1
  have FK : Hid (full (nats (l0 ++ ints (List.replicate k 0))) (nats (flat [⟨A1, n1, c1, l1⟩, ⟨A9, n2 + n3, c9, l2 ++ l3⟩])) = F) := Lib.hid (by
    rw [Dig9.nats_app, nats_ints, full_more (by rw [nats_len, H0.out.1]; exact NK.out), FE.out, LE.out]
    simp [flat])
  go_wp2_with fail
  refine (full_lit (w := w5) (Nat.le_refl _) [⟨A1, n1, c1, l1⟩, ⟨A9, n2 + n3, c9, l2 ++ l3⟩] #[.slice A1 n1 c1, .slice A9 (n2 + n3) c9] rfl (mem2 ((H1.out.below B5.out).more B5.out.size) H9.out) w5.heap.size 2 rfl rfl (by decide) (by decide) (by show n1 + (n2 + n3 + 0) ≤ 900000; have := QS.out; omega) (HT.out.up B5.out) A8 (n0 + k) c8 _ H8.out (by have := QS.out; omega) F FK.out).mono ?_
  rintro e w6 ⟨A10, c10, rfl, oo, hb⟩
  have H10 := Lib.hid oo.holds
  have B6 := Lib.hid (B5.out.trans (hb.mono B5.out.size))
  replace H5 := Lib.hid ((H5.out.below hb).more hb.size)
  clear oo hb H8 H9 FK
  have cv5 := run_string_bytes H5.out
  have cv10 := run_string_bytes H10.out
  rw [← EF.out] at cv5 cv10
  go_wp2_with fail
  clear cv5 cv10 H10 B4 B5
  have TL := Lib.hid (tag_lit (w := w6) B6.out.size [⟨A1, n1, c1, l1⟩, ⟨A2, n2, c2, l2⟩, ⟨A3, n3, c3, l3⟩] #[.slice A1 n1 c1, .slice A2 n2 c2, .slice A3 n3 c3] rfl (mem3 (H1.out.below B6.out) (H2.out.below B6.out) (H3.out.below B6.out)) w6.heap.size 3 rfl rfl (by decide) (by decide) (by show n1 + (n2 + (n3 + 0)) ≤ 900000; have := QS.out; omega) (HT.out.up B6.out) A0 n0 c0 l0 (H0.out.below B6.out) (by have := QS.out; omega) F F3.out)
  refine TL.out.mono ?_
  rintro e w7 ⟨A11, c11, rfl, hh, hb⟩
  rw [TG.out.1, TG.out.2.2] at hh
  rw [TG.out.1, TG.out.2.1]
  have H11 := Lib.hid hh
  have B7 := Lib.hid (B6.out.trans (hb.mono B6.out.size))
  replace H5 := Lib.hid ((H5.out.below hb).more hb.size)
  clear hh hb TL
  have X1 : Hid (∀ V : World, Below w7.drew.heap.size w7.drew V → Below w7.heap.size w7 V) := Lib.hid fun V hV => (below_drewN (Below.refl w7.heap.size w7) 1).trans hV
  have G5 : Hid (∀ V : World, Below w7.drew.heap.size w7.drew V → Holds V V.heap.size A5 32 c5 (ints F)) := Lib.hid fun V hV => ((H5.out).below (X1.out V hV)).more (X1.out V hV).size
  have G11 : Hid (∀ V : World, Below w7.drew.heap.size w7.drew V → Holds V V.heap.size A11 16 c11 (ints (F.take 16))) := Lib.hid fun V hV => ((H11.out).below (X1.out V hV)).more (X1.out V hV).size
  have XT : Hid (∀ V : World, Below w7.drew.heap.size w7.drew V → Tab V) := Lib.hid fun V hV => HT.out.up (B7.out.trans ((X1.out V hV).mono B7.out.size))
  obtain ⟨st, hst⟩ : ∃ s, s = strOfNums (ints (F.take 16)) := ⟨_, rfl⟩
  have ET := Lib.hid hst
  have CB : Hid (∀ V : World, (Instr.sliceAt 22 (.slice A5 32 c5) none (some (.int .i64 16)) none).run Tryd.prog V = .ok (.slice A5 16 c5) V) := Lib.hid fun V => cut_begin A5 32 c5 16 (by decide) H5.out.2.1 V
  have V11 : Hid (∀ V : World, Below w7.drew.heap.size w7.drew V → (convert 22 9 (.slice A11 16 c11)).run Tryd.prog V = .ok (.string st) V) := Lib.hid fun V hV => by
    rw [ET.out]
    exact run_string_bytes (G11.out V hV)
  have V5 : Hid (∀ V : World, Below w7.drew.heap.size w7.drew V → (convert 22 9 (.slice A5 16 c5)).run Tryd.prog V = .ok (.string st) V) := Lib.hid fun V hV => by
    rw [ET.out, ShaO.ints_take]
    exact run_string_bytes ((G5.out V hV).upto (k := 16) (by decide))
  clear hst H5 H11 G5 G11 EF FE F3 TG H0 H1 H2 H3 QS
  go_wp2_with fail
  refine wp_region_freeP [0, 1, 2, 3, 4, 5, 6, 7, 8, 9, 10, 11, 12] 13 [] [(1, true), (5, true)] (fun w1 w2 => Below w1.heap.size w1 w2) (fun k' w' v => match k' with
    | 0 => v = .bool true
    | 1 => v = .bool true
    | 2 => v = .int .i64 0
    | 3 => v = .bool true
    | 4 => v = .bool true
    | 5 => v = .bool true
    | 6 => v = .slice A11 16 c11
    | 7 => v = .string st
    | 8 => v = .slice A5 32 c5
    | 9 => v = .slice A5 16 c5
    | 10 => v = .string st
    | 11 => v = .bool true
    | _ => v = .bool true) (by kernel_rfl) (by kernel_rfl) (fun q hq w v hv => ?_) (Below.refl _ _) (fun _ _ _ h k => h.trans (k.mono h.size)) (fun k' w1 w2 v h => match k' with
    | 0 => fun x => x
    | 1 => fun x => x
    | 2 => fun x => x
    | 3 => fun x => x
    | 4 => fun x => x
    | 5 => fun x => x
    | 6 => fun x => x
    | 7 => fun x => x
    | 8 => fun x => x
    | 9 => fun x => x
    | 10 => fun x => x
    | 11 => fun x => x
    | _ + 12 => fun x => x) (fun _ _ _ _ _ h => h) ?_ _ (by rfl) ?_
  · simp only [List.mem_cons, List.not_mem_nil, or_false] at hq
    rcases hq with rfl | rfl <;> exact hv
  · refine obs_cons (by rfl) (fun vals w' hgr hdep K hK => ?_) (obs_cons (by rfl) (fun vals w' hgr hdep K hK => ?_) (obs_cons (by rfl) (fun vals w' hgr hdep K hK => ?_) (obs_cons (by rfl) (fun vals w' hgr hdep K hK => ?_) (obs_cons (by rfl) (fun vals w' hgr hdep K hK => ?_) (obs_cons (by rfl) (fun vals w' hgr hdep K hK => ?_) (obs_cons (by rfl) (fun vals w' hgr hdep K hK => ?_) (obs_cons (by rfl) (fun vals w' hgr hdep K hK => ?_) (obs_cons (by rfl) (fun vals w' hgr hdep K hK => ?_) (obs_cons (by rfl) (fun vals w' hgr hdep K hK => ?_) (obs_cons (by rfl) (fun vals w' hgr hdep K hK => ?_) (obs_cons (by rfl) (fun vals w' hgr hdep K hK => ?_) (obs_cons (by rfl) (fun vals w' hgr hdep K hK => ?_) (obs_nil)))))))))))))
    · exact wp_call 11 [] _ rfl ent_awake [] rfl (fun v w'' => v = .bool true ∧ Below w'.heap.size w' w'') ((awake_any w' (XT.out w' hgr)).mono fun e w'' ⟨h1, h2⟩ => ⟨_, h1, rfl, h2⟩) (fun v w'' ⟨h1, h2⟩ => hK v _ h2 h1)
    · exact wp_move (.tmp 110) rfl _ ((at_dst 0 (by kernel_rfl)).trans (hdep 0 (by simp) (by kernel_rfl))) (hK _ _ (Below.refl _ _) rfl)
    · exact wp_move (.tmp 15) rfl _ (at_out _ (by kernel_rfl) rfl) (hK _ _ (Below.refl _ _) rfl)
    · exact wp_bin (.tmp 112) (.const (.int .i64 0)) rfl _ _ _ ((at_dst 2 (by kernel_rfl)).trans (hdep 2 (by simp) (by kernel_rfl))) rfl (b_eqe _ _ _ _) (hK _ _ (Below.refl _ _) rfl)
    · exact st_pick (.tmp 111) (.tmp 113) _ rfl _ ((at_dst 1 (by kernel_rfl)).trans (hdep 1 (by simp) (by kernel_rfl))) ((at_dst 3 (by kernel_rfl)).trans (hdep 3 (by simp) (by kernel_rfl))) (hK _ _ (Below.refl _ _) rfl)
    · exact wp_move (.tmp 114) rfl _ ((at_dst 4 (by kernel_rfl)).trans (hdep 4 (by simp) (by kernel_rfl))) (hK _ _ (Below.refl _ _) rfl)
    · exact wp_move (.tmp 14) rfl _ (at_out _ (by kernel_rfl) rfl) (hK _ _ (Below.refl _ _) rfl)
    · exact wp_conv (.tmp 116) rfl _ _ ((at_dst 6 (by kernel_rfl)).trans (hdep 6 (by simp) (by kernel_rfl))) (V11.out _ hgr) (hK _ _ (Below.refl _ _) rfl)
    · exact wp_move (.tmp 11) rfl _ (at_out _ (by kernel_rfl) rfl) (hK _ _ (Below.refl _ _) rfl)
    · exact wp_slice (.tmp 118) rfl _ _ none (some (.int .i64 16)) none ((at_dst 8 (by kernel_rfl)).trans (hdep 8 (by simp) (by kernel_rfl))) rfl rfl rfl (CB.out _) (hK _ _ (Below.refl _ _) rfl)
    · exact wp_conv (.tmp 119) rfl _ _ ((at_dst 9 (by kernel_rfl)).trans (hdep 9 (by simp) (by kernel_rfl))) (V5.out _ hgr) (hK _ _ (Below.refl _ _) rfl)
    · exact wp_bin (.tmp 117) (.tmp 120) rfl _ _ _ ((at_dst 7 (by kernel_rfl)).trans (hdep 7 (by simp) (by kernel_rfl))) ((at_dst 10 (by kernel_rfl)).trans (hdep 10 (by simp) (by kernel_rfl))) (b_eqs _ _ _ _) (hK _ _ (Below.refl _ _) rfl)
    · exact st_pick (.tmp 115) (.tmp 121) _ rfl _ ((at_dst 5 (by kernel_rfl)).trans (hdep 5 (by simp) (by kernel_rfl))) ((at_dst 11 (by kernel_rfl)).trans (hdep 11 (by simp) (by kernel_rfl))) (hK _ _ (Below.refl _ _) rfl)
  · intro vals w' hgr hG
    have ev : vals 12 = .bool true := hG 12 (by simp)
    refine st_assign (.tmp 122) _ rfl (at_dst 12 (by kernel_rfl)) (wpAnyH_done (by kernel_rfl) ?_ _)
    have BF := Lib.hid (B7.out.trans ((X1.out w' hgr).mono B7.out.size))
    clear hG hgr
    simp only [fill, dstAt, List.getElem?_cons_zero, List.getElem?_cons_succ, Option.bind_some, Act.put, List.setIfInBounds_toArray, List.set_cons_zero, List.set_cons_succ]
    rw [ev]
    clear ev
    generalize vals 0 = y0, vals 1 = y1, vals 2 = y2, vals 3 = y3, vals 4 = y4, vals 5 = y5, vals 6 = y6, vals 7 = y7, vals 8 = y8, vals 9 = y9, vals 10 = y10, vals 11 = y11 at *
    generalize w' = wz at *
    go_wp2_with fail
    go_ret
    exact ⟨rfl, BF.out⟩

set_option maxHeartbeats 4000000 in
set_option maxRecDepth 100000 in
theorem main_ab (A0 : Option Addr) (n0 c0 : Nat) (l0 : List Int) (A1 : Option Addr) (n1 c1 : Nat) (l1 : List Int) (A2 : Option Addr) (n2 c2 : Nat) (l2 : List Int) (A3 : Option Addr) (n3 c3 : Nat) (l3 : List Int) (k : Nat) (w : World) (h0 : Holds w w.heap.size A0 n0 c0 l0) (h1 : Holds w w.heap.size A1 n1 c1 l1) (h2 : Holds w w.heap.size A2 n2 c2 l2) (h3 : Holds w w.heap.size A3 n3 c3 l3) (m0 : n0 ≤ 140737488355328) (m1 : n1 ≤ 140737488355328) (m2 : n2 ≤ 140737488355328) (m3 : n3 ≤ 140737488355328) (hT : Tab w) (q0 : n0 ≤ 300) (q1 : n1 ≤ 300) (q2 : n2 ≤ 300) (q3 : n3 ≤ 300) (q4 : k ≤ 64) (q5 : n0 + k ≤ 64) (q6 : n0 ≠ 32) :
    Calls Tryd.prog 4 #[.slice A0 n0 c0, .slice A1 n1 c1, .slice A2 n2 c2, .slice A3 n3 c3, .int .i64 (k : Int)] w fun e w' => e = .returned (.bool true) ∧ Below w.heap.size w w' := by
  have g7 : decide ((n0 : Int) + (k : Int) ≤ 64) = true := decide_eq_true (by omega)
  have g8 : ((n0 : Int) != 32) = true := by rw [bne_iff_ne]; omega
  have NK := Lib.hid q5
  have TG : Hid (∀ F : List Nat, tgN n0 = 0 ∧ tgE n0 = 1 ∧ tgO n0 F = []) := Lib.hid fun F => tg_no q6 F
  clear q5 q6
  have g0 : decide ((300 : Int) < (n0 : Int)) = false := decide_eq_false (by omega)
  have g1 : decide ((300 : Int) < (n1 : Int)) = false := decide_eq_false (by omega)
  have g2 : decide ((300 : Int) < (n2 : Int)) = false := decide_eq_false (by omega)
  have g3 : decide ((300 : Int) < (n3 : Int)) = false := decide_eq_false (by omega)
  have g4 : decide ((k : Int) < 0) = false := decide_eq_false (by omega)
  have g5 : decide ((64 : Int) < (k : Int)) = false := decide_eq_false (by omega)
  have g6 : IntKind.i64.wrap ((n0 : Int) + (k : Int)) = (n0 : Int) + (k : Int) := IntWalk.i64_in _ (by omega)
  have H0 := Lib.hid h0
  have H1 := Lib.hid h1
  have H2 := Lib.hid h2
  have H3 := Lib.hid h3
  have HT := Lib.hid hT
  have QS : Hid (n0 ≤ 300 ∧ n1 ≤ 300 ∧ n2 ≤ 300 ∧ n3 ≤ 300 ∧ k ≤ 64) := Lib.hid ⟨q0, q1, q2, q3, q4⟩
  obtain ⟨L, hL⟩ : ∃ L, L = l1 ++ (l2 ++ l3) := ⟨_, rfl⟩
  obtain ⟨F, hF⟩ : ∃ F, F = full (nats l0) (nats L) := ⟨_, rfl⟩
  have FE := Lib.hid hF
  have LE := Lib.hid hL
  have F3 : Hid (full (nats l0) (nats (flat [⟨A1, n1, c1, l1⟩, ⟨A2, n2, c2, l2⟩, ⟨A3, n3, c3, l3⟩])) = F) := Lib.hid (by rw [hF, hL]; simp [flat])
  clear h0 h1 h2 h3 m0 m1 m2 m3 hT q0 q1 q2 q3 q4 hF hL
  replace TG := Lib.hid (TG.out F)
  have mk : ∀ W : World, (Instr.makeSlice 22 (.int .i64 (k : Int)) (.int .i64 (k : Int))).run Tryd.prog W = .ok (.slice (some ⟨W.heap.size, 0, none⟩) k k) (W.alloc (.cells (bcells (List.replicate k 0)) 5)) := fun W => make_b k (by have := QS.out; omega) W
  go_enter Tryd.func4, Tryd.ntmps4
  go_wp2_with fail
  refine (full_lit (w := w) (Nat.le_refl _) [⟨A1, n1, c1, l1⟩, ⟨A2, n2, c2, l2⟩, ⟨A3, n3, c3, l3⟩] #[.slice A1 n1 c1, .slice A2 n2 c2, .slice A3 n3 c3] rfl (mem3 H1.out H2.out H3.out) w.heap.size 3 rfl rfl (by decide) (by decide) (by show n1 + (n2 + (n3 + 0)) ≤ 900000; have := QS.out; omega) HT.out A0 n0 c0 l0 H0.out (by have := QS.out; omega) F F3.out).mono ?_
  rintro e w1 ⟨A5, c5, rfl, oo, hb⟩
  have H5 := Lib.hid oo.holds
  have B1 := Lib.hid hb
  clear oo hb
  go_wp2_with fail
  refine (both_lit (w := w1) B1.out.size [⟨A1, n1, c1, l1⟩, ⟨A2, n2, c2, l2⟩, ⟨A3, n3, c3, l3⟩] #[.slice A1 n1 c1, .slice A2 n2 c2, .slice A3 n3 c3] _ rfl (mem3 (H1.out.below B1.out) (H2.out.below B1.out) (H3.out.below B1.out)) _ 3 rfl rfl (by decide) (by show n1 + (n2 + (n3 + 0)) ≤ 1048576; have := QS.out; omega)).mono ?_
  rintro e w2 ⟨A6, c6, rfl, hh, _, hb⟩
  have e0 : total [⟨A1, n1, c1, l1⟩, ⟨A2, n2, c2, l2⟩, ⟨A3, n3, c3, l3⟩] = n1 + (n2 + n3) := rfl
  have e1 : flat [⟨A1, n1, c1, l1⟩, ⟨A2, n2, c2, l2⟩, ⟨A3, n3, c3, l3⟩] = L := by rw [LE.out]; simp [flat]
  rw [e0, e1] at hh
  rw [e0]
  have H6 := Lib.hid hh
  have B2 := Lib.hid (B1.out.trans (hb.mono B1.out.size))
  replace H5 := Lib.hid ((H5.out.below hb).more hb.size)
  clear hh hb e0 e1
  obtain ⟨m, hm⟩ : ∃ m, m = n1 + (n2 + n3) := ⟨_, rfl⟩
  have ML : Hid (m ≤ 900) := Lib.hid (by have := QS.out; omega)
  rw [← hm] at H6 ⊢
  clear hm
  go_wp2_with fail
  refine (full_lit (w := w2) (Nat.le_refl _) [⟨A6, m, c6, L⟩] #[.slice A6 m c6] rfl (mem1 H6.out) w2.heap.size 1 rfl rfl (by decide) (by decide) (by show m + 0 ≤ 900000; have := ML.out; omega) (HT.out.up B2.out) A0 n0 c0 l0 ((H0.out.below B2.out).more B2.out.size) (by have := QS.out; omega) F (by rw [nats_one, FE.out])).mono ?_
  rintro e w3 ⟨A7, c7, rfl, oo, hb⟩
  have H7 := Lib.hid oo.holds
  have B3 := Lib.hid (B2.out.trans (hb.mono B2.out.size))
  replace H5 := Lib.hid ((H5.out.below hb).more hb.size)
  clear oo hb H6 ML
  obtain ⟨sf, hsf⟩ : ∃ s, s = strOfNums (ints F) := ⟨_, rfl⟩
  have EF := Lib.hid hsf
  have cv5 := run_string_bytes H5.out
  have cv7 := run_string_bytes H7.out
  rw [← hsf] at cv5 cv7
  clear hsf
  have ZB := Lib.hid ((Below.refl w3.heap.size w3).alloc (Nat.le_refl _) (.cells (bcells (List.replicate k 0)) 5))
  have Z0 : Hid (Holds (w3.alloc (.cells (bcells (List.replicate k 0)) 5)) (w3.heap.size + 1) A0 n0 c0 l0) := Lib.hid (((H0.out.below B3.out).more B3.out.size).below ZB.out |>.more (by omega))
  have Z1 : Hid (Holds (w3.alloc (.cells (bcells (List.replicate k 0)) 5)) (w3.heap.size + 1) (some ⟨w3.heap.size, 0, none⟩) k k (ints (List.replicate k 0))) := Lib.hid (by
    have q := (Dig8.owns_lc w3 0 k k (Nat.zero_le _) (Nat.le_refl _) (by have := QS.out; omega)).holds
    simpa using q)
  go_wp2_with fail
  clear cv5 cv7 H7
  refine (both_lit (w := w3.alloc (.cells (bcells (List.replicate k 0)) 5)) (B := w3.heap.size + 1) (by simp) [⟨A0, n0, c0, l0⟩, ⟨some ⟨w3.heap.size, 0, none⟩, k, k, ints (List.replicate k 0)⟩] #[.slice A0 n0 c0, .slice (some ⟨w3.heap.size, 0, none⟩) k k] _ rfl (mem2 Z0.out Z1.out) _ 2 (by simp) rfl (by decide) (by show n0 + (k + 0) ≤ 1048576; have := QS.out; omega)).mono ?_
  rintro e w4 ⟨A8, c8, rfl, hh, _, hb⟩
  have e0 : total [⟨A0, n0, c0, l0⟩, ⟨some ⟨w3.heap.size, 0, none⟩, k, k, ints (List.replicate k 0)⟩] = n0 + k := rfl
  have e1 : flat [⟨A0, n0, c0, l0⟩, ⟨some ⟨w3.heap.size, 0, none⟩, k, k, ints (List.replicate k 0)⟩] = l0 ++ ints (List.replicate k 0) := by simp [flat]
  rw [e0, e1] at hh
  rw [e0]
  have H8 := Lib.hid hh
  have D4 := Lib.hid (ZB.out.trans (hb.mono (by simp)))
  have B4 := Lib.hid (B3.out.trans (D4.out.mono B3.out.size))
  replace H5 := Lib.hid ((H5.out.below D4.out).more D4.out.size)
  clear hh hb e0 e1 Z0 Z1 ZB mk D4
  go_wp2_with fail
  refine (both_lit (w := w4) B4.out.size [⟨A2, n2, c2, l2⟩, ⟨A3, n3, c3, l3⟩] #[.slice A2 n2 c2, .slice A3 n3 c3] _ rfl (mem2 (H2.out.below B4.out) (H3.out.below B4.out)) _ 2 rfl rfl (by decide) (by show n2 + (n3 + 0) ≤ 1048576; have := QS.out; omega)).mono ?_
  rintro e w5 ⟨A9, c9, rfl, hh, _, hb⟩
  have e0 : total [⟨A2, n2, c2, l2⟩, ⟨A3, n3, c3, l3⟩] = n2 + n3 := rfl
  have e1 : flat [⟨A2, n2, c2, l2⟩, ⟨A3, n3, c3, l3⟩] = l2 ++ l3 := by simp [flat]
  rw [e0, e1] at hh
  rw [e0]
  have H9 := Lib.hid hh
  have B5 := Lib.hid (B4.out.trans (hb.mono B4.out.size))
  replace H5 := Lib.hid ((H5.out.below hb).more hb.size)
  replace H8 := Lib.hid ((H8.out.below hb).more hb.size)
  clear hh hb e0 e1
  have FK : Hid (full (nats (l0 ++ ints (List.replicate k 0))) (nats (flat [⟨A1, n1, c1, l1⟩, ⟨A9, n2 + n3, c9, l2 ++ l3⟩])) = F) := Lib.hid (by
    rw [Dig9.nats_app, nats_ints, full_more (by rw [nats_len, H0.out.1]; exact NK.out), FE.out, LE.out]
    simp [flat])
  go_wp2_with fail
  refine (full_lit (w := w5) (Nat.le_refl _) [⟨A1, n1, c1, l1⟩, ⟨A9, n2 + n3, c9, l2 ++ l3⟩] #[.slice A1 n1 c1, .slice A9 (n2 + n3) c9] rfl (mem2 ((H1.out.below B5.out).more B5.out.size) H9.out) w5.heap.size 2 rfl rfl (by decide) (by decide) (by show n1 + (n2 + n3 + 0) ≤ 900000; have := QS.out; omega) (HT.out.up B5.out) A8 (n0 + k) c8 _ H8.out (by have := QS.out; omega) F FK.out).mono ?_
  rintro e w6 ⟨A10, c10, rfl, oo, hb⟩
  have H10 := Lib.hid oo.holds
  have B6 := Lib.hid (B5.out.trans (hb.mono B5.out.size))
  replace H5 := Lib.hid ((H5.out.below hb).more hb.size)
  clear oo hb H8 H9 FK
  have cv5 := run_string_bytes H5.out
  have cv10 := run_string_bytes H10.out
  rw [← EF.out] at cv5 cv10
  go_wp2_with fail
  clear cv5 cv10 H10 B4 B5
  have TL := Lib.hid (tag_lit (w := w6) B6.out.size [⟨A1, n1, c1, l1⟩, ⟨A2, n2, c2, l2⟩, ⟨A3, n3, c3, l3⟩] #[.slice A1 n1 c1, .slice A2 n2 c2, .slice A3 n3 c3] rfl (mem3 (H1.out.below B6.out) (H2.out.below B6.out) (H3.out.below B6.out)) w6.heap.size 3 rfl rfl (by decide) (by decide) (by show n1 + (n2 + (n3 + 0)) ≤ 900000; have := QS.out; omega) (HT.out.up B6.out) A0 n0 c0 l0 (H0.out.below B6.out) (by have := QS.out; omega) F F3.out)
  refine TL.out.mono ?_
  rintro e w7 ⟨A11, c11, rfl, hh, hb⟩
  rw [TG.out.1, TG.out.2.2] at hh
  rw [TG.out.1, TG.out.2.1]
  have H11 := Lib.hid hh
  have B7 := Lib.hid (B6.out.trans (hb.mono B6.out.size))
  replace H5 := Lib.hid ((H5.out.below hb).more hb.size)
  clear hh hb TL
  go_wp2_with fail
  refine (awake_any _ (HT.out.up B7.out)).mono ?_
  rintro e wz ⟨rfl, hb⟩
  have BZ := Lib.hid (B7.out.trans (hb.mono B7.out.size))
  clear hb
  go_wp2_with fail
  go_ret
  exact ⟨rfl, BZ.out⟩

set_option maxHeartbeats 4000000 in
set_option maxRecDepth 100000 in
theorem main_ba (A0 : Option Addr) (n0 c0 : Nat) (l0 : List Int) (A1 : Option Addr) (n1 c1 : Nat) (l1 : List Int) (A2 : Option Addr) (n2 c2 : Nat) (l2 : List Int) (A3 : Option Addr) (n3 c3 : Nat) (l3 : List Int) (k : Nat) (w : World) (h0 : Holds w w.heap.size A0 n0 c0 l0) (h1 : Holds w w.heap.size A1 n1 c1 l1) (h2 : Holds w w.heap.size A2 n2 c2 l2) (h3 : Holds w w.heap.size A3 n3 c3 l3) (m0 : n0 ≤ 140737488355328) (m1 : n1 ≤ 140737488355328) (m2 : n2 ≤ 140737488355328) (m3 : n3 ≤ 140737488355328) (hT : Tab w) (q0 : n0 ≤ 300) (q1 : n1 ≤ 300) (q2 : n2 ≤ 300) (q3 : n3 ≤ 300) (q4 : k ≤ 64) (q5 : ¬ (n0 + k ≤ 64)) (q6 : n0 = 32) :
    Calls Tryd.prog 4 #[.slice A0 n0 c0, .slice A1 n1 c1, .slice A2 n2 c2, .slice A3 n3 c3, .int .i64 (k : Int)] w fun e w' => e = .returned (.bool true) ∧ Below w.heap.size w w' := by
  have g7 : decide ((n0 : Int) + (k : Int) ≤ 64) = false := decide_eq_false (by omega)
  have g8 : ((n0 : Int) != 32) = false := by rw [bne_eq_false_iff_eq]; omega
  have NK := Lib.hid q5
  have TG : Hid (∀ F : List Nat, tgN n0 = 16 ∧ tgE n0 = 0 ∧ tgO n0 F = ints (F.take 16)) := Lib.hid fun F => by rw [q6]; exact tg_yes F
  clear q5 q6
  have g0 : decide ((300 : Int) < (n0 : Int)) = false := decide_eq_false (by omega)
  have g1 : decide ((300 : Int) < (n1 : Int)) = false := decide_eq_false (by omega)
  have g2 : decide ((300 : Int) < (n2 : Int)) = false := decide_eq_false (by omega)
  have g3 : decide ((300 : Int) < (n3 : Int)) = false := decide_eq_false (by omega)
  have g4 : decide ((k : Int) < 0) = false := decide_eq_false (by omega)
  have g5 : decide ((64 : Int) < (k : Int)) = false := decide_eq_false (by omega)
  have g6 : IntKind.i64.wrap ((n0 : Int) + (k : Int)) = (n0 : Int) + (k : Int) := IntWalk.i64_in _ (by omega)
  have H0 := Lib.hid h0
  have H1 := Lib.hid h1
  have H2 := Lib.hid h2
  have H3 := Lib.hid h3
  have HT := Lib.hid hT
  have QS : Hid (n0 ≤ 300 ∧ n1 ≤ 300 ∧ n2 ≤ 300 ∧ n3 ≤ 300 ∧ k ≤ 64) := Lib.hid ⟨q0, q1, q2, q3, q4⟩
  obtain ⟨L, hL⟩ : ∃ L, L = l1 ++ (l2 ++ l3) := ⟨_, rfl⟩
  obtain ⟨F, hF⟩ : ∃ F, F = full (nats l0) (nats L) := ⟨_, rfl⟩
  have FE := Lib.hid hF
  have LE := Lib.hid hL
  have F3 : Hid (full (nats l0) (nats (flat [⟨A1, n1, c1, l1⟩, ⟨A2, n2, c2, l2⟩, ⟨A3, n3, c3, l3⟩])) = F) := Lib.hid (by rw [hF, hL]; simp [flat])
  clear h0 h1 h2 h3 m0 m1 m2 m3 hT q0 q1 q2 q3 q4 hF hL
  replace TG := Lib.hid (TG.out F)
  go_enter Tryd.func4, Tryd.ntmps4
  go_wp2_with fail
  refine (full_lit (w := w) (Nat.le_refl _) [⟨A1, n1, c1, l1⟩, ⟨A2, n2, c2, l2⟩, ⟨A3, n3, c3, l3⟩] #[.slice A1 n1 c1, .slice A2 n2 c2, .slice A3 n3 c3] rfl (mem3 H1.out H2.out H3.out) w.heap.size 3 rfl rfl (by decide) (by decide) (by show n1 + (n2 + (n3 + 0)) ≤ 900000; have := QS.out; omega) HT.out A0 n0 c0 l0 H0.out (by have := QS.out; omega) F F3.out).mono ?_
  rintro e w1 ⟨A5, c5, rfl, oo, hb⟩
  have H5 := Lib.hid oo.holds
  have B1 := Lib.hid hb
  clear oo hb
  go_wp2_with fail
  refine (both_lit (w := w1) B1.out.size [⟨A1, n1, c1, l1⟩, ⟨A2, n2, c2, l2⟩, ⟨A3, n3, c3, l3⟩] #[.slice A1 n1 c1, .slice A2 n2 c2, .slice A3 n3 c3] _ rfl (mem3 (H1.out.below B1.out) (H2.out.below B1.out) (H3.out.below B1.out)) _ 3 rfl rfl (by decide) (by show n1 + (n2 + (n3 + 0)) ≤ 1048576; have := QS.out; omega)).mono ?_
  rintro e w2 ⟨A6, c6, rfl, hh, _, hb⟩
  have e0 : total [⟨A1, n1, c1, l1⟩, ⟨A2, n2, c2, l2⟩, ⟨A3, n3, c3, l3⟩] = n1 + (n2 + n3) := rfl
  have e1 : flat [⟨A1, n1, c1, l1⟩, ⟨A2, n2, c2, l2⟩, ⟨A3, n3, c3, l3⟩] = L := by rw [LE.out]; simp [flat]
  rw [e0, e1] at hh
  rw [e0]
  have H6 := Lib.hid hh
  have B2 := Lib.hid (B1.out.trans (hb.mono B1.out.size))
  replace H5 := Lib.hid ((H5.out.below hb).more hb.size)
  clear hh hb e0 e1
  obtain ⟨m, hm⟩ : ∃ m, m = n1 + (n2 + n3) := ⟨_, rfl⟩
  have ML : Hid (m ≤ 900) := Lib.hid (by have := QS.out; omega)
  rw [← hm] at H6 ⊢
  clear hm
  go_wp2_with fail
  refine (full_lit (w := w2) (Nat.le_refl _) [⟨A6, m, c6, L⟩] #[.slice A6 m c6] rfl (mem1 H6.out) w2.heap.size 1 rfl rfl (by decide) (by decide) (by show m + 0 ≤ 900000; have := ML.out; omega) (HT.out.up B2.out) A0 n0 c0 l0 ((H0.out.below B2.out).more B2.out.size) (by have := QS.out; omega) F (by rw [nats_one, FE.out])).mono ?_
  rintro e w3 ⟨A7, c7, rfl, oo, hb⟩
  have H7 := Lib.hid oo.holds
  have B3 := Lib.hid (B2.out.trans (hb.mono B2.out.size))
  replace H5 := Lib.hid ((H5.out.below hb).more hb.size)
  clear oo hb H6 ML
  obtain ⟨sf, hsf⟩ : ∃ s, s = strOfNums (ints F) := ⟨_, rfl⟩
  have EF := Lib.hid hsf
  have cv5 := run_string_bytes H5.out
  have cv7 := run_string_bytes H7.out
  rw [← hsf] at cv5 cv7
  clear hsf
  go_wp2_with fail
  clear cv5 cv7 H7
  have TL := Lib.hid (tag_lit (w := w3) B3.out.size [⟨A1, n1, c1, l1⟩, ⟨A2, n2, c2, l2⟩, ⟨A3, n3, c3, l3⟩] #[.slice A1 n1 c1, .slice A2 n2 c2, .slice A3 n3 c3] rfl (mem3 (H1.out.below B3.out) (H2.out.below B3.out) (H3.out.below B3.out)) w3.heap.size 3 rfl rfl (by decide) (by decide) (by show n1 + (n2 + (n3 + 0)) ≤ 900000; have := QS.out; omega) (HT.out.up B3.out) A0 n0 c0 l0 (H0.out.below B3.out) (by have := QS.out; omega) F F3.out)
  refine TL.out.mono ?_
  rintro e w7 ⟨A11, c11, rfl, hh, hb⟩
  rw [TG.out.1, TG.out.2.2] at hh
  rw [TG.out.1, TG.out.2.1]
  have H11 := Lib.hid hh
  have B7 := Lib.hid (B3.out.trans (hb.mono B3.out.size))
  replace H5 := Lib.hid ((H5.out.below hb).more hb.size)
  clear hh hb TL
  have X1 : Hid (∀ V : World, Below w7.drew.heap.size w7.drew V → Below w7.heap.size w7 V) := Lib.hid fun V hV => (below_drewN (Below.refl w7.heap.size w7) 1).trans hV
  have G5 : Hid (∀ V : World, Below w7.drew.heap.size w7.drew V → Holds V V.heap.size A5 32 c5 (ints F)) := Lib.hid fun V hV => ((H5.out).below (X1.out V hV)).more (X1.out V hV).size
  have G11 : Hid (∀ V : World, Below w7.drew.heap.size w7.drew V → Holds V V.heap.size A11 16 c11 (ints (F.take 16))) := Lib.hid fun V hV => ((H11.out).below (X1.out V hV)).more (X1.out V hV).size
  have XT : Hid (∀ V : World, Below w7.drew.heap.size w7.drew V → Tab V) := Lib.hid fun V hV => HT.out.up (B7.out.trans ((X1.out V hV).mono B7.out.size))
  obtain ⟨st, hst⟩ : ∃ s, s = strOfNums (ints (F.take 16)) := ⟨_, rfl⟩
  have ET := Lib.hid hst
  have CB : Hid (∀ V : World, (Instr.sliceAt 22 (.slice A5 32 c5) none (some (.int .i64 16)) none).run Tryd.prog V = .ok (.slice A5 16 c5) V) := Lib.hid fun V => cut_begin A5 32 c5 16 (by decide) H5.out.2.1 V
  have V11 : Hid (∀ V : World, Below w7.drew.heap.size w7.drew V → (convert 22 9 (.slice A11 16 c11)).run Tryd.prog V = .ok (.string st) V) := Lib.hid fun V hV => by
    rw [ET.out]
    exact run_string_bytes (G11.out V hV)
  have V5 : Hid (∀ V : World, Below w7.drew.heap.size w7.drew V → (convert 22 9 (.slice A5 16 c5)).run Tryd.prog V = .ok (.string st) V) := Lib.hid fun V hV => by
    rw [ET.out, ShaO.ints_take]
    exact run_string_bytes ((G5.out V hV).upto (k := 16) (by decide))
  clear hst H5 H11 G5 G11 EF FE F3 TG H0 H1 H2 H3 QS
  go_wp2_with fail
  refine wp_region_freeP [0, 1, 2, 3, 4, 5, 6, 7, 8, 9, 10, 11, 12] 13 [] [(1, true), (5, true)] (fun w1 w2 => Below w1.heap.size w1 w2) (fun k' w' v => match k' with
    | 0 => v = .bool true
    | 1 => v = .bool true
    | 2 => v = .int .i64 0
    | 3 => v = .bool true
    | 4 => v = .bool true
    | 5 => v = .bool true
    | 6 => v = .slice A11 16 c11
    | 7 => v = .string st
    | 8 => v = .slice A5 32 c5
    | 9 => v = .slice A5 16 c5
    | 10 => v = .string st
    | 11 => v = .bool true
    | _ => v = .bool true) (by kernel_rfl) (by kernel_rfl) (fun q hq w v hv => ?_) (Below.refl _ _) (fun _ _ _ h k => h.trans (k.mono h.size)) (fun k' w1 w2 v h => match k' with
    | 0 => fun x => x
    | 1 => fun x => x
    | 2 => fun x => x
    | 3 => fun x => x
    | 4 => fun x => x
    | 5 => fun x => x
    | 6 => fun x => x
    | 7 => fun x => x
    | 8 => fun x => x
    | 9 => fun x => x
    | 10 => fun x => x
    | 11 => fun x => x
    | _ + 12 => fun x => x) (fun _ _ _ _ _ h => h) ?_ _ (by rfl) ?_
  · simp only [List.mem_cons, List.not_mem_nil, or_false] at hq
    rcases hq with rfl | rfl <;> exact hv
  · refine obs_cons (by rfl) (fun vals w' hgr hdep K hK => ?_) (obs_cons (by rfl) (fun vals w' hgr hdep K hK => ?_) (obs_cons (by rfl) (fun vals w' hgr hdep K hK => ?_) (obs_cons (by rfl) (fun vals w' hgr hdep K hK => ?_) (obs_cons (by rfl) (fun vals w' hgr hdep K hK => ?_) (obs_cons (by rfl) (fun vals w' hgr hdep K hK => ?_) (obs_cons (by rfl) (fun vals w' hgr hdep K hK => ?_) (obs_cons (by rfl) (fun vals w' hgr hdep K hK => ?_) (obs_cons (by rfl) (fun vals w' hgr hdep K hK => ?_) (obs_cons (by rfl) (fun vals w' hgr hdep K hK => ?_) (obs_cons (by rfl) (fun vals w' hgr hdep K hK => ?_) (obs_cons (by rfl) (fun vals w' hgr hdep K hK => ?_) (obs_cons (by rfl) (fun vals w' hgr hdep K hK => ?_) (obs_nil)))))))))))))
    · exact wp_call 11 [] _ rfl ent_awake [] rfl (fun v w'' => v = .bool true ∧ Below w'.heap.size w' w'') ((awake_any w' (XT.out w' hgr)).mono fun e w'' ⟨h1, h2⟩ => ⟨_, h1, rfl, h2⟩) (fun v w'' ⟨h1, h2⟩ => hK v _ h2 h1)
    · exact wp_move (.tmp 110) rfl _ ((at_dst 0 (by kernel_rfl)).trans (hdep 0 (by simp) (by kernel_rfl))) (hK _ _ (Below.refl _ _) rfl)
    · exact wp_move (.tmp 15) rfl _ (at_out _ (by kernel_rfl) rfl) (hK _ _ (Below.refl _ _) rfl)
    · exact wp_bin (.tmp 112) (.const (.int .i64 0)) rfl _ _ _ ((at_dst 2 (by kernel_rfl)).trans (hdep 2 (by simp) (by kernel_rfl))) rfl (b_eqe _ _ _ _) (hK _ _ (Below.refl _ _) rfl)
    · exact st_pick (.tmp 111) (.tmp 113) _ rfl _ ((at_dst 1 (by kernel_rfl)).trans (hdep 1 (by simp) (by kernel_rfl))) ((at_dst 3 (by kernel_rfl)).trans (hdep 3 (by simp) (by kernel_rfl))) (hK _ _ (Below.refl _ _) rfl)
    · exact wp_move (.tmp 114) rfl _ ((at_dst 4 (by kernel_rfl)).trans (hdep 4 (by simp) (by kernel_rfl))) (hK _ _ (Below.refl _ _) rfl)
    · exact wp_move (.tmp 14) rfl _ (at_out _ (by kernel_rfl) rfl) (hK _ _ (Below.refl _ _) rfl)
    · exact wp_conv (.tmp 116) rfl _ _ ((at_dst 6 (by kernel_rfl)).trans (hdep 6 (by simp) (by kernel_rfl))) (V11.out _ hgr) (hK _ _ (Below.refl _ _) rfl)
    · exact wp_move (.tmp 11) rfl _ (at_out _ (by kernel_rfl) rfl) (hK _ _ (Below.refl _ _) rfl)
    · exact wp_slice (.tmp 118) rfl _ _ none (some (.int .i64 16)) none ((at_dst 8 (by kernel_rfl)).trans (hdep 8 (by simp) (by kernel_rfl))) rfl rfl rfl (CB.out _) (hK _ _ (Below.refl _ _) rfl)
    · exact wp_conv (.tmp 119) rfl _ _ ((at_dst 9 (by kernel_rfl)).trans (hdep 9 (by simp) (by kernel_rfl))) (V5.out _ hgr) (hK _ _ (Below.refl _ _) rfl)
    · exact wp_bin (.tmp 117) (.tmp 120) rfl _ _ _ ((at_dst 7 (by kernel_rfl)).trans (hdep 7 (by simp) (by kernel_rfl))) ((at_dst 10 (by kernel_rfl)).trans (hdep 10 (by simp) (by kernel_rfl))) (b_eqs _ _ _ _) (hK _ _ (Below.refl _ _) rfl)
    · exact st_pick (.tmp 115) (.tmp 121) _ rfl _ ((at_dst 5 (by kernel_rfl)).trans (hdep 5 (by simp) (by kernel_rfl))) ((at_dst 11 (by kernel_rfl)).trans (hdep 11 (by simp) (by kernel_rfl))) (hK _ _ (Below.refl _ _) rfl)
  · intro vals w' hgr hG
    have ev : vals 12 = .bool true := hG 12 (by simp)
    refine st_assign (.tmp 122) _ rfl (at_dst 12 (by kernel_rfl)) (wpAnyH_done (by kernel_rfl) ?_ _)
    have BF := Lib.hid (B7.out.trans ((X1.out w' hgr).mono B7.out.size))
    clear hG hgr
    simp only [fill, dstAt, List.getElem?_cons_zero, List.getElem?_cons_succ, Option.bind_some, Act.put, List.setIfInBounds_toArray, List.set_cons_zero, List.set_cons_succ]
    rw [ev]
    clear ev
    generalize vals 0 = y0, vals 1 = y1, vals 2 = y2, vals 3 = y3, vals 4 = y4, vals 5 = y5, vals 6 = y6, vals 7 = y7, vals 8 = y8, vals 9 = y9, vals 10 = y10, vals 11 = y11 at *
    generalize w' = wz at *
    go_wp2_with fail
    go_ret
    exact ⟨rfl, BF.out⟩

set_option maxHeartbeats 4000000 in
set_option maxRecDepth 100000 in
theorem main_bb (A0 : Option Addr) (n0 c0 : Nat) (l0 : List Int) (A1 : Option Addr) (n1 c1 : Nat) (l1 : List Int) (A2 : Option Addr) (n2 c2 : Nat) (l2 : List Int) (A3 : Option Addr) (n3 c3 : Nat) (l3 : List Int) (k : Nat) (w : World) (h0 : Holds w w.heap.size A0 n0 c0 l0) (h1 : Holds w w.heap.size A1 n1 c1 l1) (h2 : Holds w w.heap.size A2 n2 c2 l2) (h3 : Holds w w.heap.size A3 n3 c3 l3) (m0 : n0 ≤ 140737488355328) (m1 : n1 ≤ 140737488355328) (m2 : n2 ≤ 140737488355328) (m3 : n3 ≤ 140737488355328) (hT : Tab w) (q0 : n0 ≤ 300) (q1 : n1 ≤ 300) (q2 : n2 ≤ 300) (q3 : n3 ≤ 300) (q4 : k ≤ 64) (q5 : ¬ (n0 + k ≤ 64)) (q6 : n0 ≠ 32) :
    Calls Tryd.prog 4 #[.slice A0 n0 c0, .slice A1 n1 c1, .slice A2 n2 c2, .slice A3 n3 c3, .int .i64 (k : Int)] w fun e w' => e = .returned (.bool true) ∧ Below w.heap.size w w' := by
  have g7 : decide ((n0 : Int) + (k : Int) ≤ 64) = false := decide_eq_false (by omega)
  have g8 : ((n0 : Int) != 32) = true := by rw [bne_iff_ne]; omega
  have NK := Lib.hid q5
  have TG : Hid (∀ F : List Nat, tgN n0 = 0 ∧ tgE n0 = 1 ∧ tgO n0 F = []) := Lib.hid fun F => tg_no q6 F
  clear q5 q6
  have g0 : decide ((300 : Int) < (n0 : Int)) = false := decide_eq_false (by omega)
  have g1 : decide ((300 : Int) < (n1 : Int)) = false := decide_eq_false (by omega)
  have g2 : decide ((300 : Int) < (n2 : Int)) = false := decide_eq_false (by omega)
  have g3 : decide ((300 : Int) < (n3 : Int)) = false := decide_eq_false (by omega)
  have g4 : decide ((k : Int) < 0) = false := decide_eq_false (by omega)
  have g5 : decide ((64 : Int) < (k : Int)) = false := decide_eq_false (by omega)
  have g6 : IntKind.i64.wrap ((n0 : Int) + (k : Int)) = (n0 : Int) + (k : Int) := IntWalk.i64_in _ (by omega)
  have H0 := Lib.hid h0
  have H1 := Lib.hid h1
  have H2 := Lib.hid h2
  have H3 := Lib.hid h3
  have HT := Lib.hid hT
  have QS : Hid (n0 ≤ 300 ∧ n1 ≤ 300 ∧ n2 ≤ 300 ∧ n3 ≤ 300 ∧ k ≤ 64) := Lib.hid ⟨q0, q1, q2, q3, q4⟩
  obtain ⟨L, hL⟩ : ∃ L, L = l1 ++ (l2 ++ l3) := ⟨_, rfl⟩
  obtain ⟨F, hF⟩ : ∃ F, F = full (nats l0) (nats L) := ⟨_, rfl⟩
  have FE := Lib.hid hF
  have LE := Lib.hid hL
  have F3 : Hid (full (nats l0) (nats (flat [⟨A1, n1, c1, l1⟩, ⟨A2, n2, c2, l2⟩, ⟨A3, n3, c3, l3⟩])) = F) := Lib.hid (by rw [hF, hL]; simp [flat])
  clear h0 h1 h2 h3 m0 m1 m2 m3 hT q0 q1 q2 q3 q4 hF hL
  replace TG := Lib.hid (TG.out F)
  go_enter Tryd.func4, Tryd.ntmps4
  go_wp2_with fail
  refine (full_lit (w := w) (Nat.le_refl _) [⟨A1, n1, c1, l1⟩, ⟨A2, n2, c2, l2⟩, ⟨A3, n3, c3, l3⟩] #[.slice A1 n1 c1, .slice A2 n2 c2, .slice A3 n3 c3] rfl (mem3 H1.out H2.out H3.out) w.heap.size 3 rfl rfl (by decide) (by decide) (by show n1 + (n2 + (n3 + 0)) ≤ 900000; have := QS.out; omega) HT.out A0 n0 c0 l0 H0.out (by have := QS.out; omega) F F3.out).mono ?_
  rintro e w1 ⟨A5, c5, rfl, oo, hb⟩
  have H5 := Lib.hid oo.holds
  have B1 := Lib.hid hb
  clear oo hb
  go_wp2_with fail
  refine (both_lit (w := w1) B1.out.size [⟨A1, n1, c1, l1⟩, ⟨A2, n2, c2, l2⟩, ⟨A3, n3, c3, l3⟩] #[.slice A1 n1 c1, .slice A2 n2 c2, .slice A3 n3 c3] _ rfl (mem3 (H1.out.below B1.out) (H2.out.below B1.out) (H3.out.below B1.out)) _ 3 rfl rfl (by decide) (by show n1 + (n2 + (n3 + 0)) ≤ 1048576; have := QS.out; omega)).mono ?_
  rintro e w2 ⟨A6, c6, rfl, hh, _, hb⟩
  have e0 : total [⟨A1, n1, c1, l1⟩, ⟨A2, n2, c2, l2⟩, ⟨A3, n3, c3, l3⟩] = n1 + (n2 + n3) := rfl
  have e1 : flat [⟨A1, n1, c1, l1⟩, ⟨A2, n2, c2, l2⟩, ⟨A3, n3, c3, l3⟩] = L := by rw [LE.out]; simp [flat]
  rw [e0, e1] at hh
  rw [e0]
  have H6 := Lib.hid hh
  have B2 := Lib.hid (B1.out.trans (hb.mono B1.out.size))
  replace H5 := Lib.hid ((H5.out.below hb).more hb.size)
  clear hh hb e0 e1
  obtain ⟨m, hm⟩ : ∃ m, m = n1 + (n2 + n3) := ⟨_, rfl⟩
  have ML : Hid (m ≤ 900) := Lib.hid (by have := QS.out; omega)
  rw [← hm] at H6 ⊢
  clear hm
  go_wp2_with fail
  refine (full_lit (w := w2) (Nat.le_refl _) [⟨A6, m, c6, L⟩] #[.slice A6 m c6] rfl (mem1 H6.out) w2.heap.size 1 rfl rfl (by decide) (by decide) (by show m + 0 ≤ 900000; have := ML.out; omega) (HT.out.up B2.out) A0 n0 c0 l0 ((H0.out.below B2.out).more B2.out.size) (by have := QS.out; omega) F (by rw [nats_one, FE.out])).mono ?_
  rintro e w3 ⟨A7, c7, rfl, oo, hb⟩
  have H7 := Lib.hid oo.holds
  have B3 := Lib.hid (B2.out.trans (hb.mono B2.out.size))
  replace H5 := Lib.hid ((H5.out.below hb).more hb.size)
  clear oo hb H6 ML
  obtain ⟨sf, hsf⟩ : ∃ s, s = strOfNums (ints F) := ⟨_, rfl⟩
  have EF := Lib.hid hsf
  have cv5 := run_string_bytes H5.out
  have cv7 := run_string_bytes H7.out
  rw [← hsf] at cv5 cv7
  clear hsf
  go_wp2_with fail
  clear cv5 cv7 H7
  have TL := Lib.hid (tag_lit (w := w3) B3.out.size [⟨A1, n1, c1, l1⟩, ⟨A2, n2, c2, l2⟩, ⟨A3, n3, c3, l3⟩] #[.slice A1 n1 c1, .slice A2 n2 c2, .slice A3 n3 c3] rfl (mem3 (H1.out.below B3.out) (H2.out.below B3.out) (H3.out.below B3.out)) w3.heap.size 3 rfl rfl (by decide) (by decide) (by show n1 + (n2 + (n3 + 0)) ≤ 900000; have := QS.out; omega) (HT.out.up B3.out) A0 n0 c0 l0 (H0.out.below B3.out) (by have := QS.out; omega) F F3.out)
  refine TL.out.mono ?_
  rintro e w7 ⟨A11, c11, rfl, hh, hb⟩
  rw [TG.out.1, TG.out.2.2] at hh
  rw [TG.out.1, TG.out.2.1]
  have H11 := Lib.hid hh
  have B7 := Lib.hid (B3.out.trans (hb.mono B3.out.size))
  replace H5 := Lib.hid ((H5.out.below hb).more hb.size)
  clear hh hb TL
  go_wp2_with fail
  refine (awake_any _ (HT.out.up B7.out)).mono ?_
  rintro e wz ⟨rfl, hb⟩
  have BZ := Lib.hid (B7.out.trans (hb.mono B7.out.size))
  clear hb
  go_wp2_with fail
  go_ret
  exact ⟨rfl, BZ.out⟩

theorem parts_law (A0 : Option Addr) (n0 c0 : Nat) (l0 : List Int) (A1 : Option Addr) (n1 c1 : Nat) (l1 : List Int) (A2 : Option Addr) (n2 c2 : Nat) (l2 : List Int) (A3 : Option Addr) (n3 c3 : Nat) (l3 : List Int) (a4 : Int) (w : World) (h0 : Holds w w.heap.size A0 n0 c0 l0) (h1 : Holds w w.heap.size A1 n1 c1 l1) (h2 : Holds w w.heap.size A2 n2 c2 l2) (h3 : Holds w w.heap.size A3 n3 c3 l3) (m0 : n0 ≤ 140737488355328) (m1 : n1 ≤ 140737488355328) (m2 : n2 ≤ 140737488355328) (m3 : n3 ≤ 140737488355328) (hT : Tab w) :
    Calls Tryd.prog 4 #[.slice A0 n0 c0, .slice A1 n1 c1, .slice A2 n2 c2, .slice A3 n3 c3, .int .i64 a4] w fun e w' => e = .returned (.bool true) ∧ Below w.heap.size w w' := by
  by_cases q0 : 300 < n0
  · exact big A0 n0 c0 l0 A1 n1 c1 l1 A2 n2 c2 l2 A3 n3 c3 l3 a4 w h0 h1 h2 h3 m0 m1 m2 m3 hT (.inl q0)
  · by_cases q1 : 300 < n1
    · exact big A0 n0 c0 l0 A1 n1 c1 l1 A2 n2 c2 l2 A3 n3 c3 l3 a4 w h0 h1 h2 h3 m0 m1 m2 m3 hT (.inr (.inl ⟨by omega, q1⟩))
    · by_cases q2 : 300 < n2
      · exact big A0 n0 c0 l0 A1 n1 c1 l1 A2 n2 c2 l2 A3 n3 c3 l3 a4 w h0 h1 h2 h3 m0 m1 m2 m3 hT (.inr (.inr (.inl ⟨by omega, by omega, q2⟩)))
      · by_cases q3 : 300 < n3
        · exact big A0 n0 c0 l0 A1 n1 c1 l1 A2 n2 c2 l2 A3 n3 c3 l3 a4 w h0 h1 h2 h3 m0 m1 m2 m3 hT (.inr (.inr (.inr (.inl ⟨by omega, by omega, by omega, q3⟩))))
        · by_cases q4 : a4 < 0
          · exact big A0 n0 c0 l0 A1 n1 c1 l1 A2 n2 c2 l2 A3 n3 c3 l3 a4 w h0 h1 h2 h3 m0 m1 m2 m3 hT (.inr (.inr (.inr (.inr (.inl ⟨by omega, by omega, by omega, by omega, q4⟩)))))
          · by_cases q5 : 64 < a4
            · exact big A0 n0 c0 l0 A1 n1 c1 l1 A2 n2 c2 l2 A3 n3 c3 l3 a4 w h0 h1 h2 h3 m0 m1 m2 m3 hT (.inr (.inr (.inr (.inr (.inr ⟨by omega, by omega, by omega, by omega, by omega, q5⟩)))))
            · obtain ⟨k, rfl⟩ : ∃ k : Nat, a4 = (k : Int) := ⟨a4.toNat, by omega⟩
              by_cases q6 : n0 + k ≤ 64
              · by_cases q7 : n0 = 32
                · exact main_aa A0 n0 c0 l0 A1 n1 c1 l1 A2 n2 c2 l2 A3 n3 c3 l3 k w h0 h1 h2 h3 m0 m1 m2 m3 hT (by omega) (by omega) (by omega) (by omega) (by omega) q6 q7
                · exact main_ab A0 n0 c0 l0 A1 n1 c1 l1 A2 n2 c2 l2 A3 n3 c3 l3 k w h0 h1 h2 h3 m0 m1 m2 m3 hT (by omega) (by omega) (by omega) (by omega) (by omega) q6 q7
              · by_cases q7 : n0 = 32
                · exact main_ba A0 n0 c0 l0 A1 n1 c1 l1 A2 n2 c2 l2 A3 n3 c3 l3 k w h0 h1 h2 h3 m0 m1 m2 m3 hT (by omega) (by omega) (by omega) (by omega) (by omega) q6 q7
                · exact main_bb A0 n0 c0 l0 A1 n1 c1 l1 A2 n2 c2 l2 A3 n3 c3 l3 k w h0 h1 h2 h3 m0 m1 m2 m3 hT (by omega) (by omega) (by omega) (by omega) (by omega) q6 q7
end Go.Proofs.YtmlihcillheeaaaDoor.LawPartsM
