/- The law MacTells: its walk. -/
import Derived.Test.YtmlihcillheeaaaDoorMacU
set_option linter.unusedVariables false
namespace Go.Proofs.YtmlihcillheeaaaDoor.LawTells
open Go.RowKit Go.PlainAid Go.Proofs.YtmlihcillheeaaaDoor.Sums Go.Proofs.YtmlihcillheeaaaDoor.Mem Go.Proofs.YtmlihcillheeaaaDoor.Blk Go.Proofs.YtmlihcillheeaaaDoor.Bits3 Go.Proofs.YtmlihcillheeaaaDoor.Ints Go.Proofs.YtmlihcillheeaaaDoor.Both Go.Proofs.YtmlihcillheeaaaDoor.Free Go.Proofs.YtmlihcillheeaaaDoor.Steps Go.Proofs.YtmlihcillheeaaaDoor.Ops Go.Proofs.YtmlihcillheeaaaDoor.ShaD Go.Proofs.YtmlihcillheeaaaDoor.ShaO Go.Proofs.YtmlihcillheeaaaDoor.Dig1 Go.Proofs.YtmlihcillheeaaaDoor.Dig9 Go.Proofs.YtmlihcillheeaaaDoor.DigA Go.Proofs.YtmlihcillheeaaaDoor.MacD Go.Proofs.YtmlihcillheeaaaDoor.Mac2 Go.Proofs.YtmlihcillheeaaaDoor.Mac3 Go.Proofs.YtmlihcillheeaaaDoor.Mac4 Go.Proofs.YtmlihcillheeaaaDoor.MacA Go.Proofs.YtmlihcillheeaaaDoor.MacU

set_option maxHeartbeats 1000000 in
set_option maxRecDepth 100000 in
theorem big (A0 : Option Addr) (n0 c0 : Nat) (l0 : List Int) (A1 : Option Addr) (n1 c1 : Nat) (l1 : List Int) (A2 : Option Addr) (n2 c2 : Nat) (l2 : List Int) (w : World) (h0 : Holds w w.heap.size A0 n0 c0 l0) (h1 : Holds w w.heap.size A1 n1 c1 l1) (h2 : Holds w w.heap.size A2 n2 c2 l2) (m0 : n0 ≤ 140737488355328) (m1 : n1 ≤ 140737488355328) (m2 : n2 ≤ 140737488355328) (hT : Tab w) (q : (300 < n0) ∨ (n0 ≤ 300 ∧ 600 < n1) ∨ (n0 ≤ 300 ∧ n1 ≤ 600 ∧ 600 < n2)) :
    Calls Tryd.prog 3 #[.slice A0 n0 c0, .slice A1 n1 c1, .slice A2 n2 c2] w fun e w' => e = .returned (.bool true) ∧ Below w.heap.size w w' := by
  rcases q with q0 | ⟨q0, q1⟩ | ⟨q0, q1, q2⟩
  · have g0 : decide ((300 : Int) < (n0 : Int)) = true := decide_eq_true (by omega)
    clear h0 q0
    go_enter Tryd.func3, Tryd.ntmps3
    go_wp2_with fail
    go_ret
    exact ⟨rfl, Below.refl _ _⟩
  · have g0 : decide ((300 : Int) < (n0 : Int)) = false := decide_eq_false (by omega)
    have g1 : decide ((600 : Int) < (n1 : Int)) = true := decide_eq_true (by omega)
    clear h0 q0 q1
    go_enter Tryd.func3, Tryd.ntmps3
    go_wp2_with fail
    go_ret
    exact ⟨rfl, Below.refl _ _⟩
  · have g0 : decide ((300 : Int) < (n0 : Int)) = false := decide_eq_false (by omega)
    have g1 : decide ((600 : Int) < (n1 : Int)) = false := decide_eq_false (by omega)
    have g2 : decide ((600 : Int) < (n2 : Int)) = true := decide_eq_true (by omega)
    clear h0 q0 q1 q2
    go_enter Tryd.func3, Tryd.ntmps3
    go_wp2_with fail
    go_ret
    exact ⟨rfl, Below.refl _ _⟩

set_option maxHeartbeats 4000000 in
set_option maxRecDepth 100000 in
theorem main (A0 : Option Addr) (n0 c0 : Nat) (l0 : List Int) (A1 : Option Addr) (n1 c1 : Nat) (l1 : List Int) (A2 : Option Addr) (n2 c2 : Nat) (l2 : List Int) (w : World) (h0 : Holds w w.heap.size A0 n0 c0 l0) (h1 : Holds w w.heap.size A1 n1 c1 l1) (h2 : Holds w w.heap.size A2 n2 c2 l2) (m0 : n0 ≤ 140737488355328) (m1 : n1 ≤ 140737488355328) (m2 : n2 ≤ 140737488355328) (hT : Tab w) (q0 : n0 ≤ 300) (q1 : n1 ≤ 600) (q2 : n2 ≤ 600) :
    Calls Tryd.prog 3 #[.slice A0 n0 c0, .slice A1 n1 c1, .slice A2 n2 c2] w fun e w' => e = .returned (.bool true) ∧ Below w.heap.size w w' := by
  have g0 : decide ((300 : Int) < (n0 : Int)) = false := decide_eq_false (by omega)
  have g1 : decide ((600 : Int) < (n1 : Int)) = false := decide_eq_false (by omega)
  have g2 : decide ((600 : Int) < (n2 : Int)) = false := decide_eq_false (by omega)
  have Q0 := Lib.hid q0
  have Q1 := Lib.hid q1
  have Q2 := Lib.hid q2
  have H0 := Lib.hid h0
  have H1 := Lib.hid h1
  have H2 := Lib.hid h2
  have HT := Lib.hid hT
  obtain ⟨F, hF⟩ : ∃ F, F = full (nats l0) (nats l1) := ⟨_, rfl⟩
  have FE := Lib.hid hF
  clear h0 h1 h2 m0 m1 m2 hT q0 q1 q2 hF
  go_enter Tryd.func3, Tryd.ntmps3
  go_wp2_with fail
  refine (both_one A0 n0 c0 l0 w w.heap.size H0.out (Nat.le_refl _) (by have := Q0.out; omega) _ rfl _ rfl).mono ?_
  rintro e w1 ⟨A3, c3, rfl, hh, _, hb⟩
  have H3 := Lib.hid hh
  have B1 := Lib.hid hb
  clear hh hb
  go_wp2_with fail
  refine (both_one A1 n1 c1 l1 w1 w.heap.size (H1.out.below B1.out) B1.out.size (by have := Q1.out; omega) _ rfl _ rfl).mono ?_
  rintro e w2 ⟨A4, c4, rfl, hh, _, hb⟩
  have H4 := Lib.hid hh
  replace H3 := Lib.hid ((H3.out.below hb).more hb.size)
  have B2 := Lib.hid (B1.out.trans (hb.mono B1.out.size))
  clear hh hb
  have NE : Hid (full (nats l0) (nats (flat [⟨A4, n1, c4, l1⟩])) = F) := Lib.hid (by rw [nats_one, FE.out])
  go_wp2_with fail
  refine (full_lit (w := w2) (Nat.le_refl _) [⟨A4, n1, c4, l1⟩] #[.slice A4 n1 c4] rfl (mem1 H4.out) w2.heap.size 1 rfl rfl (by decide) (by decide) (by show n1 + 0 ≤ 900000; have := Q1.out; omega) (HT.out.up B2.out) A3 n0 c3 l0 H3.out (by have := Q0.out; omega) F NE.out).mono ?_
  rintro e w3 ⟨A5, c5, rfl, oo, hb⟩
  have H5 := Lib.hid oo.holds
  replace H3 := Lib.hid ((H3.out.below hb).more hb.size)
  replace H4 := Lib.hid ((H4.out.below hb).more hb.size)
  have B3 := Lib.hid (B2.out.trans (hb.mono B2.out.size))
  clear oo hb
  go_wp2_with fail
  refine (tag_lit (w := w3) (Nat.le_refl _) [⟨A4, n1, c4, l1⟩] #[.slice A4 n1 c4] rfl (mem1 H4.out) w3.heap.size 1 rfl rfl (by decide) (by decide) (by show n1 + 0 ≤ 900000; have := Q1.out; omega) (HT.out.up B3.out) A3 n0 c3 l0 H3.out (by have := Q0.out; omega) F NE.out).mono ?_
  rintro e w4 ⟨A6, c6, rfl, hh, hb⟩
  have H6 := Lib.hid hh
  replace H3 := Lib.hid ((H3.out.below hb).more hb.size)
  replace H4 := Lib.hid ((H4.out.below hb).more hb.size)
  replace H5 := Lib.hid ((H5.out.below hb).more hb.size)
  have B4 := Lib.hid (B3.out.trans (hb.mono B3.out.size))
  clear hh hb NE
  have TR := Lib.hid (tag_ru A0 n0 c0 l0 A1 n1 c1 l1 w4 w.heap.size (H0.out.below B4.out) (H1.out.below B4.out) B4.out.size (by have := Q0.out; omega) (by have := Q1.out; omega))
  rw [← FE.out] at TR
  go_wp2_with fail
  refine TR.out.mono ?_
  rintro e w5 ⟨A7, c7, rfl, hh, hb⟩
  have H7 := Lib.hid hh
  replace H3 := Lib.hid ((H3.out.below hb).more hb.size)
  replace H4 := Lib.hid ((H4.out.below hb).more hb.size)
  replace H5 := Lib.hid ((H5.out.below hb).more hb.size)
  replace H6 := Lib.hid ((H6.out.below hb).more hb.size)
  have B5 := Lib.hid (B4.out.trans (hb.mono B4.out.size))
  clear hh hb TR
  generalize tgO n0 F = tx at *
  generalize tgE n0 = te at *
  generalize tgN n0 = tn at *
  have X1 : Hid (∀ V : World, Below w5.drew.heap.size w5.drew V → Below w5.heap.size w5 V) := Lib.hid fun V hV => (below_drewN (Below.refl w5.heap.size w5) 1).trans hV
  have G0 : Hid (∀ V : World, Below w5.drew.heap.size w5.drew V → Holds V V.heap.size A0 n0 c0 l0) := Lib.hid fun V hV => (((H0.out.below B5.out).more B5.out.size).below (X1.out V hV)).more (X1.out V hV).size
  have G1 : Hid (∀ V : World, Below w5.drew.heap.size w5.drew V → Holds V V.heap.size A1 n1 c1 l1) := Lib.hid fun V hV => (((H1.out.below B5.out).more B5.out.size).below (X1.out V hV)).more (X1.out V hV).size
  have G2 : Hid (∀ V : World, Below w5.drew.heap.size w5.drew V → Holds V V.heap.size A2 n2 c2 l2) := Lib.hid fun V hV => (((H2.out.below B5.out).more B5.out.size).below (X1.out V hV)).more (X1.out V hV).size
  have G3 : Hid (∀ V : World, Below w5.drew.heap.size w5.drew V → Holds V V.heap.size A3 n0 c3 l0) := Lib.hid fun V hV => ((H3.out).below (X1.out V hV)).more (X1.out V hV).size
  have G4 : Hid (∀ V : World, Below w5.drew.heap.size w5.drew V → Holds V V.heap.size A4 n1 c4 l1) := Lib.hid fun V hV => ((H4.out).below (X1.out V hV)).more (X1.out V hV).size
  have G5 : Hid (∀ V : World, Below w5.drew.heap.size w5.drew V → Holds V V.heap.size A5 32 c5 (ints F)) := Lib.hid fun V hV => ((H5.out).below (X1.out V hV)).more (X1.out V hV).size
  have G6 : Hid (∀ V : World, Below w5.drew.heap.size w5.drew V → Holds V V.heap.size A6 tn c6 tx) := Lib.hid fun V hV => ((H6.out).below (X1.out V hV)).more (X1.out V hV).size
  have G7 : Hid (∀ V : World, Below w5.drew.heap.size w5.drew V → Holds V V.heap.size A7 tn c7 tx) := Lib.hid fun V hV => ((H7.out).below (X1.out V hV)).more (X1.out V hV).size
  have XT : Hid (∀ V : World, Below w5.drew.heap.size w5.drew V → Tab V) := Lib.hid fun V hV => HT.out.up (B5.out.trans ((X1.out V hV).mono B5.out.size))
  obtain ⟨s0, hs0⟩ : ∃ s, s = strOfNums l0 := ⟨_, rfl⟩
  have E0 := Lib.hid hs0
  clear hs0
  obtain ⟨s1, hs1⟩ : ∃ s, s = strOfNums l1 := ⟨_, rfl⟩
  have E1 := Lib.hid hs1
  clear hs1
  obtain ⟨s2, hs2⟩ : ∃ s, s = strOfNums l2 := ⟨_, rfl⟩
  have E2 := Lib.hid hs2
  clear hs2
  obtain ⟨sf, hsf⟩ : ∃ s, s = strOfNums (ints F) := ⟨_, rfl⟩
  have EF := Lib.hid hsf
  clear hsf
  obtain ⟨st, hst⟩ : ∃ s, s = strOfNums tx := ⟨_, rfl⟩
  have ET := Lib.hid hst
  clear hst
  have V0 : Hid (∀ V : World, Below w5.drew.heap.size w5.drew V → (convert 22 9 (.slice A0 n0 c0)).run Tryd.prog V = .ok (.string s0) V) := Lib.hid fun V hV => by
    rw [E0.out]
    exact run_string_bytes (G0.out V hV)
  have V3 : Hid (∀ V : World, Below w5.drew.heap.size w5.drew V → (convert 22 9 (.slice A3 n0 c3)).run Tryd.prog V = .ok (.string s0) V) := Lib.hid fun V hV => by
    rw [E0.out]
    exact run_string_bytes (G3.out V hV)
  have V1 : Hid (∀ V : World, Below w5.drew.heap.size w5.drew V → (convert 22 9 (.slice A1 n1 c1)).run Tryd.prog V = .ok (.string s1) V) := Lib.hid fun V hV => by
    rw [E1.out]
    exact run_string_bytes (G1.out V hV)
  have V4 : Hid (∀ V : World, Below w5.drew.heap.size w5.drew V → (convert 22 9 (.slice A4 n1 c4)).run Tryd.prog V = .ok (.string s1) V) := Lib.hid fun V hV => by
    rw [E1.out]
    exact run_string_bytes (G4.out V hV)
  have V2 : Hid (∀ V : World, Below w5.drew.heap.size w5.drew V → (convert 22 9 (.slice A2 n2 c2)).run Tryd.prog V = .ok (.string s2) V) := Lib.hid fun V hV => by
    rw [E2.out]
    exact run_string_bytes (G2.out V hV)
  have V5 : Hid (∀ V : World, Below w5.drew.heap.size w5.drew V → (convert 22 9 (.slice A5 32 c5)).run Tryd.prog V = .ok (.string sf) V) := Lib.hid fun V hV => by
    rw [EF.out]
    exact run_string_bytes (G5.out V hV)
  have V6 : Hid (∀ V : World, Below w5.drew.heap.size w5.drew V → (convert 22 9 (.slice A6 tn c6)).run Tryd.prog V = .ok (.string st) V) := Lib.hid fun V hV => by
    rw [ET.out]
    exact run_string_bytes (G6.out V hV)
  have V7 : Hid (∀ V : World, Below w5.drew.heap.size w5.drew V → (convert 22 9 (.slice A7 tn c7)).run Tryd.prog V = .ok (.string st) V) := Lib.hid fun V hV => by
    rw [ET.out]
    exact run_string_bytes (G7.out V hV)
  obtain ⟨r, hr⟩ : ∃ r : Bool, r = decide (l1 = l2) := ⟨_, rfl⟩
  have SS : Hid ((s1.toList == s2.toList) = r) := Lib.hid (by rw [E1.out, E2.out, hr]; exact str_eq H1.out.2.2.2.1 H2.out.2.2.2.1)
  have S1 : Hid (∀ V : World, Below w5.drew.heap.size w5.drew V → Calls Tryd.prog 13 #[.slice A1 n1 c1, .slice A2 n2 c2] V fun e w' => e = .returned (.bool r) ∧ V = w') := Lib.hid fun V hV => by
    rw [hr]
    exact same_any A1 n1 c1 l1 A2 n2 c2 l2 V _ (G1.out V hV) (G2.out V hV) (by have := Q1.out; omega) (by have := Q2.out; omega)
  have S2 : Hid (∀ V : World, Below w5.drew.heap.size w5.drew V → Calls Tryd.prog 13 #[.slice A4 n1 c4, .slice A1 n1 c1] V fun e w' => e = .returned (.bool true) ∧ V = w') := Lib.hid fun V hV => by
    have := same_any A4 n1 c4 l1 A1 n1 c1 l1 V _ (G4.out V hV) (G1.out V hV) (by have := Q1.out; omega) (by have := Q1.out; omega)
    rwa [show decide (l1 = l1) = true from decide_eq_true rfl] at this
  have RF : Hid (∀ V : World, Below w5.drew.heap.size w5.drew V → Calls Tryd.prog 12 #[.slice A0 n0 c0, .slice A1 n1 c1] V fun e w' => ∃ v, e = .returned v ∧ Owns w' V.heap.size v 32 (ints F) ∧ Below V.heap.size V w') := Lib.hid fun V hV => by
    rw [FE.out]
    exact MacR.full_ref A0 n0 c0 l0 A1 n1 c1 l1 V _ (G0.out V hV) (G1.out V hV) (Nat.le_refl _) (by have := Q0.out; omega) (by have := Q1.out; omega)
  have X5 : Hid (∀ (V : World) (v : Value) (bs : Nat), Owns V bs v 32 (ints F) → ∃ A' c', v = .slice A' 32 c' ∧ (convert 22 9 (.slice A' 32 c')).run Tryd.prog V = .ok (.string sf) V) := Lib.hid fun V v bs hV => by
    obtain ⟨A', c', e, hh⟩ := hV.slice
    rw [EF.out]
    exact ⟨A', c', e, run_string_bytes hh⟩
  clear hr H0 H1 H2 H3 H4 H5 H6 H7 G0 G1 G2 G3 G4 G5 G6 G7 E0 E1 E2 EF ET FE
  go_wp2_with fail
  refine wp_region_freeP [0, 1, 2, 3, 4, 5, 6, 7, 8, 9, 10, 11, 12, 13, 14, 15, 16, 17, 18, 19, 20, 21, 22, 23, 24, 25, 26, 27, 28, 29, 30, 31, 32, 33, 34, 35, 36, 37, 38, 39, 40, 41, 42, 43, 44, 45, 46, 47, 48, 49, 50, 51] 52 [] [(1, true), (8, true), (15, true), (24, true), (31, true), (36, true), (47, true)] (fun w1 w2 => Below w1.heap.size w1 w2) (fun k' w' v => match k' with
    | 0 => v = .bool true
    | 1 => v = .bool true
    | 2 => v = .slice A3 n0 c3
    | 3 => v = .string s0
    | 4 => v = .slice A0 n0 c0
    | 5 => v = .string s0
    | 6 => v = .bool true
    | 7 => v = .bool true
    | 8 => v = .bool true
    | 9 => v = .slice A4 n1 c4
    | 10 => v = .string s1
    | 11 => v = .slice A1 n1 c1
    | 12 => v = .string s1
    | 13 => v = .bool true
    | 14 => v = .bool true
    | 15 => v = .bool true
    | 16 => v = .slice A5 32 c5
    | 17 => v = .string sf
    | 18 => v = .slice A0 n0 c0
    | 19 => v = .slice A1 n1 c1
    | 20 => Owns w' 0 v 32 (ints F)
    | 21 => v = .string sf
    | 22 => v = .bool true
    | 23 => v = .bool true
    | 24 => v = .bool true
    | 25 => v = .slice A6 tn c6
    | 26 => v = .string st
    | 27 => v = .slice A7 tn c7
    | 28 => v = .string st
    | 29 => v = .bool true
    | 30 => v = .bool true
    | 31 => v = .bool true
    | 32 => v = .int .i64 te
    | 33 => v = .int .i64 te
    | 34 => v = .bool true
    | 35 => v = .bool true
    | 36 => v = .bool true
    | 37 => v = .slice A1 n1 c1
    | 38 => v = .slice A2 n2 c2
    | 39 => v = .bool r
    | 40 => v = .slice A1 n1 c1
    | 41 => v = .string s1
    | 42 => v = .slice A2 n2 c2
    | 43 => v = .string s2
    | 44 => v = .bool r
    | 45 => v = .bool true
    | 46 => v = .bool true
    | 47 => v = .bool true
    | 48 => v = .slice A4 n1 c4
    | 49 => v = .slice A1 n1 c1
    | 50 => v = .bool true
    | _ => v = .bool true) (by kernel_rfl) (by kernel_rfl) (fun q hq w v hv => ?_) (Below.refl _ _) (fun _ _ _ h k => h.trans (k.mono h.size)) (fun k' w1 w2 v h => match k' with
    | 0 => fun x => x
    | 1 => fun x => x
    | 2 => fun x => x
    | 3 => fun x => x
    | 4 => fun x => x
    | 5 => fun x => x
    | 6 => fun x => x
    | 7 => fun x => x
    | 8 => fun x => x
    | 9 => fun x => x
    | 10 => fun x => x
    | 11 => fun x => x
    | 12 => fun x => x
    | 13 => fun x => x
    | 14 => fun x => x
    | 15 => fun x => x
    | 16 => fun x => x
    | 17 => fun x => x
    | 18 => fun x => x
    | 19 => fun x => x
    | 20 => fun q => q.below h (Nat.le_refl _)
    | 21 => fun x => x
    | 22 => fun x => x
    | 23 => fun x => x
    | 24 => fun x => x
    | 25 => fun x => x
    | 26 => fun x => x
    | 27 => fun x => x
    | 28 => fun x => x
    | 29 => fun x => x
    | 30 => fun x => x
    | 31 => fun x => x
    | 32 => fun x => x
    | 33 => fun x => x
    | 34 => fun x => x
    | 35 => fun x => x
    | 36 => fun x => x
    | 37 => fun x => x
    | 38 => fun x => x
    | 39 => fun x => x
    | 40 => fun x => x
    | 41 => fun x => x
    | 42 => fun x => x
    | 43 => fun x => x
    | 44 => fun x => x
    | 45 => fun x => x
    | 46 => fun x => x
    | 47 => fun x => x
    | 48 => fun x => x
    | 49 => fun x => x
    | 50 => fun x => x
    | _ + 51 => fun x => x) (fun _ _ _ _ _ h => h) ?_ _ (by rfl) ?_
  · simp only [List.mem_cons, List.not_mem_nil, or_false] at hq
    rcases hq with rfl | rfl | rfl | rfl | rfl | rfl | rfl <;> exact hv
  · refine obs_cons (by rfl) (fun vals w' hgr hdep K hK => ?_) (obs_cons (by rfl) (fun vals w' hgr hdep K hK => ?_) (obs_cons (by rfl) (fun vals w' hgr hdep K hK => ?_) (obs_cons (by rfl) (fun vals w' hgr hdep K hK => ?_) (obs_cons (by rfl) (fun vals w' hgr hdep K hK => ?_) (obs_cons (by rfl) (fun vals w' hgr hdep K hK => ?_) (obs_cons (by rfl) (fun vals w' hgr hdep K hK => ?_) (obs_cons (by rfl) (fun vals w' hgr hdep K hK => ?_) (obs_cons (by rfl) (fun vals w' hgr hdep K hK => ?_) (obs_cons (by rfl) (fun vals w' hgr hdep K hK => ?_) (obs_cons (by rfl) (fun vals w' hgr hdep K hK => ?_) (obs_cons (by rfl) (fun vals w' hgr hdep K hK => ?_) (obs_cons (by rfl) (fun vals w' hgr hdep K hK => ?_) (obs_cons (by rfl) (fun vals w' hgr hdep K hK => ?_) (obs_cons (by rfl) (fun vals w' hgr hdep K hK => ?_) (obs_cons (by rfl) (fun vals w' hgr hdep K hK => ?_) (obs_cons (by rfl) (fun vals w' hgr hdep K hK => ?_) (obs_cons (by rfl) (fun vals w' hgr hdep K hK => ?_) (obs_cons (by rfl) (fun vals w' hgr hdep K hK => ?_) (obs_cons (by rfl) (fun vals w' hgr hdep K hK => ?_) (obs_cons (by rfl) (fun vals w' hgr hdep K hK => ?_) (obs_cons (by rfl) (fun vals w' hgr hdep K hK => ?_) (obs_cons (by rfl) (fun vals w' hgr hdep K hK => ?_) (obs_cons (by rfl) (fun vals w' hgr hdep K hK => ?_) (obs_cons (by rfl) (fun vals w' hgr hdep K hK => ?_) (obs_cons (by rfl) (fun vals w' hgr hdep K hK => ?_) (obs_cons (by rfl) (fun vals w' hgr hdep K hK => ?_) (obs_cons (by rfl) (fun vals w' hgr hdep K hK => ?_) (obs_cons (by rfl) (fun vals w' hgr hdep K hK => ?_) (obs_cons (by rfl) (fun vals w' hgr hdep K hK => ?_) (obs_cons (by rfl) (fun vals w' hgr hdep K hK => ?_) (obs_cons (by rfl) (fun vals w' hgr hdep K hK => ?_) (obs_cons (by rfl) (fun vals w' hgr hdep K hK => ?_) (obs_cons (by rfl) (fun vals w' hgr hdep K hK => ?_) (obs_cons (by rfl) (fun vals w' hgr hdep K hK => ?_) (obs_cons (by rfl) (fun vals w' hgr hdep K hK => ?_) (obs_cons (by rfl) (fun vals w' hgr hdep K hK => ?_) (obs_cons (by rfl) (fun vals w' hgr hdep K hK => ?_) (obs_cons (by rfl) (fun vals w' hgr hdep K hK => ?_) (obs_cons (by rfl) (fun vals w' hgr hdep K hK => ?_) (obs_cons (by rfl) (fun vals w' hgr hdep K hK => ?_) (obs_cons (by rfl) (fun vals w' hgr hdep K hK => ?_) (obs_cons (by rfl) (fun vals w' hgr hdep K hK => ?_) (obs_cons (by rfl) (fun vals w' hgr hdep K hK => ?_) (obs_cons (by rfl) (fun vals w' hgr hdep K hK => ?_) (obs_cons (by rfl) (fun vals w' hgr hdep K hK => ?_) (obs_cons (by rfl) (fun vals w' hgr hdep K hK => ?_) (obs_cons (by rfl) (fun vals w' hgr hdep K hK => ?_) (obs_cons (by rfl) (fun vals w' hgr hdep K hK => ?_) (obs_cons (by rfl) (fun vals w' hgr hdep K hK => ?_) (obs_cons (by rfl) (fun vals w' hgr hdep K hK => ?_) (obs_cons (by rfl) (fun vals w' hgr hdep K hK => ?_) (obs_nil))))))))))))))))))))))))))))))))))))))))))))))))))))
    · exact wp_call 11 [] _ rfl ent_awake [] rfl (fun v w'' => v = .bool true ∧ Below w'.heap.size w' w'') ((awake_any w' (XT.out w' hgr)).mono fun e w'' ⟨h1, h2⟩ => ⟨_, h1, rfl, h2⟩) (fun v w'' ⟨h1, h2⟩ => hK v _ h2 h1)
    · exact wp_move (.tmp 50) rfl _ ((at_dst 0 (by kernel_rfl)).trans (hdep 0 (by simp) (by kernel_rfl))) (hK _ _ (Below.refl _ _) rfl)
    · exact wp_move (.tmp 7) rfl _ (at_out _ (by kernel_rfl) rfl) (hK _ _ (Below.refl _ _) rfl)
    · exact wp_conv (.tmp 52) rfl _ _ ((at_dst 2 (by kernel_rfl)).trans (hdep 2 (by simp) (by kernel_rfl))) (V3.out _ hgr) (hK _ _ (Below.refl _ _) rfl)
    · exact wp_move (.tmp 0) rfl _ (at_out _ (by kernel_rfl) rfl) (hK _ _ (Below.refl _ _) rfl)
    · exact wp_conv (.tmp 54) rfl _ _ ((at_dst 4 (by kernel_rfl)).trans (hdep 4 (by simp) (by kernel_rfl))) (V0.out _ hgr) (hK _ _ (Below.refl _ _) rfl)
    · exact wp_bin (.tmp 53) (.tmp 55) rfl _ _ _ ((at_dst 3 (by kernel_rfl)).trans (hdep 3 (by simp) (by kernel_rfl))) ((at_dst 5 (by kernel_rfl)).trans (hdep 5 (by simp) (by kernel_rfl))) (b_eqs _ _ _ _) (hK _ _ (Below.refl _ _) rfl)
    · exact st_pick (.tmp 51) (.tmp 56) _ rfl _ ((at_dst 1 (by kernel_rfl)).trans (hdep 1 (by simp) (by kernel_rfl))) ((at_dst 6 (by kernel_rfl)).trans (hdep 6 (by simp) (by kernel_rfl))) (hK _ _ (Below.refl _ _) rfl)
    · exact wp_move (.tmp 57) rfl _ ((at_dst 7 (by kernel_rfl)).trans (hdep 7 (by simp) (by kernel_rfl))) (hK _ _ (Below.refl _ _) rfl)
    · exact wp_move (.tmp 8) rfl _ (at_out _ (by kernel_rfl) rfl) (hK _ _ (Below.refl _ _) rfl)
    · exact wp_conv (.tmp 59) rfl _ _ ((at_dst 9 (by kernel_rfl)).trans (hdep 9 (by simp) (by kernel_rfl))) (V4.out _ hgr) (hK _ _ (Below.refl _ _) rfl)
    · exact wp_move (.tmp 1) rfl _ (at_out _ (by kernel_rfl) rfl) (hK _ _ (Below.refl _ _) rfl)
    · exact wp_conv (.tmp 61) rfl _ _ ((at_dst 11 (by kernel_rfl)).trans (hdep 11 (by simp) (by kernel_rfl))) (V1.out _ hgr) (hK _ _ (Below.refl _ _) rfl)
    · exact wp_bin (.tmp 60) (.tmp 62) rfl _ _ _ ((at_dst 10 (by kernel_rfl)).trans (hdep 10 (by simp) (by kernel_rfl))) ((at_dst 12 (by kernel_rfl)).trans (hdep 12 (by simp) (by kernel_rfl))) (b_eqs _ _ _ _) (hK _ _ (Below.refl _ _) rfl)
    · exact st_pick (.tmp 58) (.tmp 63) _ rfl _ ((at_dst 8 (by kernel_rfl)).trans (hdep 8 (by simp) (by kernel_rfl))) ((at_dst 13 (by kernel_rfl)).trans (hdep 13 (by simp) (by kernel_rfl))) (hK _ _ (Below.refl _ _) rfl)
    · exact wp_move (.tmp 64) rfl _ ((at_dst 14 (by kernel_rfl)).trans (hdep 14 (by simp) (by kernel_rfl))) (hK _ _ (Below.refl _ _) rfl)
    · exact wp_move (.tmp 9) rfl _ (at_out _ (by kernel_rfl) rfl) (hK _ _ (Below.refl _ _) rfl)
    · exact wp_conv (.tmp 66) rfl _ _ ((at_dst 16 (by kernel_rfl)).trans (hdep 16 (by simp) (by kernel_rfl))) (V5.out _ hgr) (hK _ _ (Below.refl _ _) rfl)
    · exact wp_move (.tmp 0) rfl _ (at_out _ (by kernel_rfl) rfl) (hK _ _ (Below.refl _ _) rfl)
    · exact wp_move (.tmp 1) rfl _ (at_out _ (by kernel_rfl) rfl) (hK _ _ (Below.refl _ _) rfl)
    · exact wp_call 12 [.tmp 68, .tmp 69] _ rfl ent_ref [.slice A0 n0 c0, .slice A1 n1 c1] (list2 ((at_dst 18 (by kernel_rfl)).trans (hdep 18 (by simp) (by kernel_rfl))) ((at_dst 19 (by kernel_rfl)).trans (hdep 19 (by simp) (by kernel_rfl)))) (fun v w'' => Owns w'' w'.heap.size v 32 (ints F) ∧ Below w'.heap.size w' w'') ((RF.out w' hgr).mono fun e w'' ⟨v, h1, h2, h3⟩ => ⟨v, h1, h2, h3⟩) (fun v w'' ⟨h1, h2⟩ => hK v _ h2 (h1.mono (Nat.zero_le _)))
    · obtain ⟨A', c', e, cv⟩ := X5.out w' (vals 20) 0 (hdep 20 (by simp) (by kernel_rfl))
      exact wp_conv (.tmp 70) rfl _ _ ((at_dst 20 (by kernel_rfl)).trans e) cv (hK _ _ (Below.refl _ _) rfl)
    · exact wp_bin (.tmp 67) (.tmp 71) rfl _ _ _ ((at_dst 17 (by kernel_rfl)).trans (hdep 17 (by simp) (by kernel_rfl))) ((at_dst 21 (by kernel_rfl)).trans (hdep 21 (by simp) (by kernel_rfl))) (b_eqs _ _ _ _) (hK _ _ (Below.refl _ _) rfl)
    · exact st_pick (.tmp 65) (.tmp 72) _ rfl _ ((at_dst 15 (by kernel_rfl)).trans (hdep 15 (by simp) (by kernel_rfl))) ((at_dst 22 (by kernel_rfl)).trans (hdep 22 (by simp) (by kernel_rfl))) (hK _ _ (Below.refl _ _) rfl)
    · exact wp_move (.tmp 73) rfl _ ((at_dst 23 (by kernel_rfl)).trans (hdep 23 (by simp) (by kernel_rfl))) (hK _ _ (Below.refl _ _) rfl)
    · exact wp_move (.tmp 10) rfl _ (at_out _ (by kernel_rfl) rfl) (hK _ _ (Below.refl _ _) rfl)
    · exact wp_conv (.tmp 75) rfl _ _ ((at_dst 25 (by kernel_rfl)).trans (hdep 25 (by simp) (by kernel_rfl))) (V6.out _ hgr) (hK _ _ (Below.refl _ _) rfl)
    · exact wp_move (.tmp 12) rfl _ (at_out _ (by kernel_rfl) rfl) (hK _ _ (Below.refl _ _) rfl)
    · exact wp_conv (.tmp 77) rfl _ _ ((at_dst 27 (by kernel_rfl)).trans (hdep 27 (by simp) (by kernel_rfl))) (V7.out _ hgr) (hK _ _ (Below.refl _ _) rfl)
    · exact wp_bin (.tmp 76) (.tmp 78) rfl _ _ _ ((at_dst 26 (by kernel_rfl)).trans (hdep 26 (by simp) (by kernel_rfl))) ((at_dst 28 (by kernel_rfl)).trans (hdep 28 (by simp) (by kernel_rfl))) (b_eqs _ _ _ _) (hK _ _ (Below.refl _ _) rfl)
    · exact st_pick (.tmp 74) (.tmp 79) _ rfl _ ((at_dst 24 (by kernel_rfl)).trans (hdep 24 (by simp) (by kernel_rfl))) ((at_dst 29 (by kernel_rfl)).trans (hdep 29 (by simp) (by kernel_rfl))) (hK _ _ (Below.refl _ _) rfl)
    · exact wp_move (.tmp 80) rfl _ ((at_dst 30 (by kernel_rfl)).trans (hdep 30 (by simp) (by kernel_rfl))) (hK _ _ (Below.refl _ _) rfl)
    · exact wp_move (.tmp 11) rfl _ (at_out _ (by kernel_rfl) rfl) (hK _ _ (Below.refl _ _) rfl)
    · exact wp_move (.tmp 13) rfl _ (at_out _ (by kernel_rfl) rfl) (hK _ _ (Below.refl _ _) rfl)
    · exact wp_bin (.tmp 82) (.tmp 83) rfl _ _ _ ((at_dst 32 (by kernel_rfl)).trans (hdep 32 (by simp) (by kernel_rfl))) ((at_dst 33 (by kernel_rfl)).trans (hdep 33 (by simp) (by kernel_rfl))) (b_eqe _ _ _ _) (hK _ _ (Below.refl _ _) rfl)
    · exact st_pick (.tmp 81) (.tmp 84) _ rfl _ ((at_dst 31 (by kernel_rfl)).trans (hdep 31 (by simp) (by kernel_rfl))) ((at_dst 34 (by kernel_rfl)).trans (hdep 34 (by simp) (by kernel_rfl))) (hK _ _ (Below.refl _ _) rfl)
    · exact wp_move (.tmp 85) rfl _ ((at_dst 35 (by kernel_rfl)).trans (hdep 35 (by simp) (by kernel_rfl))) (hK _ _ (Below.refl _ _) rfl)
    · exact wp_move (.tmp 1) rfl _ (at_out _ (by kernel_rfl) rfl) (hK _ _ (Below.refl _ _) rfl)
    · exact wp_move (.tmp 2) rfl _ (at_out _ (by kernel_rfl) rfl) (hK _ _ (Below.refl _ _) rfl)
    · exact wp_call 13 [.tmp 87, .tmp 88] _ rfl ent_same [.slice A1 n1 c1, .slice A2 n2 c2] (list2 ((at_dst 37 (by kernel_rfl)).trans (hdep 37 (by simp) (by kernel_rfl))) ((at_dst 38 (by kernel_rfl)).trans (hdep 38 (by simp) (by kernel_rfl)))) (fun v w'' => v = .bool r ∧ w' = w'') ((S1.out w' hgr).mono fun e w'' ⟨h1, h2⟩ => ⟨_, h1, rfl, h2⟩) (fun v w'' ⟨h1, h2⟩ => by subst h2; exact hK v _ (Below.refl _ _) h1)
    · exact wp_move (.tmp 1) rfl _ (at_out _ (by kernel_rfl) rfl) (hK _ _ (Below.refl _ _) rfl)
    · exact wp_conv (.tmp 90) rfl _ _ ((at_dst 40 (by kernel_rfl)).trans (hdep 40 (by simp) (by kernel_rfl))) (V1.out _ hgr) (hK _ _ (Below.refl _ _) rfl)
    · exact wp_move (.tmp 2) rfl _ (at_out _ (by kernel_rfl) rfl) (hK _ _ (Below.refl _ _) rfl)
    · exact wp_conv (.tmp 92) rfl _ _ ((at_dst 42 (by kernel_rfl)).trans (hdep 42 (by simp) (by kernel_rfl))) (V2.out _ hgr) (hK _ _ (Below.refl _ _) rfl)
    · exact wp_bin (.tmp 91) (.tmp 93) rfl _ _ _ ((at_dst 41 (by kernel_rfl)).trans (hdep 41 (by simp) (by kernel_rfl))) ((at_dst 43 (by kernel_rfl)).trans (hdep 43 (by simp) (by kernel_rfl))) (b_eqt _ _ _ SS.out _ _ _) (hK _ _ (Below.refl _ _) rfl)
    · exact wp_bin (.tmp 89) (.tmp 94) rfl _ _ _ ((at_dst 39 (by kernel_rfl)).trans (hdep 39 (by simp) (by kernel_rfl))) ((at_dst 44 (by kernel_rfl)).trans (hdep 44 (by simp) (by kernel_rfl))) (b_eqb _ _ _ _) (hK _ _ (Below.refl _ _) rfl)
    · exact st_pick (.tmp 86) (.tmp 95) _ rfl _ ((at_dst 36 (by kernel_rfl)).trans (hdep 36 (by simp) (by kernel_rfl))) ((at_dst 45 (by kernel_rfl)).trans (hdep 45 (by simp) (by kernel_rfl))) (hK _ _ (Below.refl _ _) rfl)
    · exact wp_move (.tmp 96) rfl _ ((at_dst 46 (by kernel_rfl)).trans (hdep 46 (by simp) (by kernel_rfl))) (hK _ _ (Below.refl _ _) rfl)
    · exact wp_move (.tmp 8) rfl _ (at_out _ (by kernel_rfl) rfl) (hK _ _ (Below.refl _ _) rfl)
    · exact wp_move (.tmp 1) rfl _ (at_out _ (by kernel_rfl) rfl) (hK _ _ (Below.refl _ _) rfl)
    · exact wp_call 13 [.tmp 98, .tmp 99] _ rfl ent_same [.slice A4 n1 c4, .slice A1 n1 c1] (list2 ((at_dst 48 (by kernel_rfl)).trans (hdep 48 (by simp) (by kernel_rfl))) ((at_dst 49 (by kernel_rfl)).trans (hdep 49 (by simp) (by kernel_rfl)))) (fun v w'' => v = .bool true ∧ w' = w'') ((S2.out w' hgr).mono fun e w'' ⟨h1, h2⟩ => ⟨_, h1, rfl, h2⟩) (fun v w'' ⟨h1, h2⟩ => by subst h2; exact hK v _ (Below.refl _ _) h1)
    · exact st_pick (.tmp 97) (.tmp 100) _ rfl _ ((at_dst 47 (by kernel_rfl)).trans (hdep 47 (by simp) (by kernel_rfl))) ((at_dst 50 (by kernel_rfl)).trans (hdep 50 (by simp) (by kernel_rfl))) (hK _ _ (Below.refl _ _) rfl)
  · intro vals w' hgr hG
    have ev : vals 51 = .bool true := hG 51 (by simp)
    refine st_assign (.tmp 101) _ rfl (at_dst 51 (by kernel_rfl)) (wpAnyH_done (by kernel_rfl) ?_ _)
    have BF := Lib.hid (B5.out.trans ((X1.out w' hgr).mono B5.out.size))
    clear hG hgr
    simp only [fill, dstAt, List.getElem?_cons_zero, List.getElem?_cons_succ, Option.bind_some, Act.put, List.setIfInBounds_toArray, List.set_cons_zero, List.set_cons_succ]
    rw [ev]
    clear ev
    generalize vals 0 = y0, vals 1 = y1, vals 2 = y2, vals 3 = y3, vals 4 = y4, vals 5 = y5, vals 6 = y6, vals 7 = y7, vals 8 = y8, vals 9 = y9, vals 10 = y10, vals 11 = y11, vals 12 = y12, vals 13 = y13, vals 14 = y14, vals 15 = y15, vals 16 = y16, vals 17 = y17, vals 18 = y18, vals 19 = y19, vals 20 = y20, vals 21 = y21, vals 22 = y22, vals 23 = y23, vals 24 = y24, vals 25 = y25, vals 26 = y26, vals 27 = y27, vals 28 = y28, vals 29 = y29, vals 30 = y30, vals 31 = y31, vals 32 = y32, vals 33 = y33, vals 34 = y34, vals 35 = y35, vals 36 = y36, vals 37 = y37, vals 38 = y38, vals 39 = y39, vals 40 = y40, vals 41 = y41, vals 42 = y42, vals 43 = y43, vals 44 = y44, vals 45 = y45, vals 46 = y46, vals 47 = y47, vals 48 = y48, vals 49 = y49, vals 50 = y50 at *
    generalize w' = wz at *
    go_wp2_with fail
    go_ret
    exact ⟨rfl, BF.out⟩

theorem tells_any (A0 : Option Addr) (n0 c0 : Nat) (l0 : List Int) (A1 : Option Addr) (n1 c1 : Nat) (l1 : List Int) (A2 : Option Addr) (n2 c2 : Nat) (l2 : List Int) (w : World) (h0 : Holds w w.heap.size A0 n0 c0 l0) (h1 : Holds w w.heap.size A1 n1 c1 l1) (h2 : Holds w w.heap.size A2 n2 c2 l2) (m0 : n0 ≤ 140737488355328) (m1 : n1 ≤ 140737488355328) (m2 : n2 ≤ 140737488355328) (hT : Tab w) :
    Calls Tryd.prog 3 #[.slice A0 n0 c0, .slice A1 n1 c1, .slice A2 n2 c2] w fun e w' => e = .returned (.bool true) ∧ Below w.heap.size w w' := by
  by_cases q0 : 300 < n0
  · exact big A0 n0 c0 l0 A1 n1 c1 l1 A2 n2 c2 l2 w h0 h1 h2 m0 m1 m2 hT (.inl q0)
  · by_cases q1 : 600 < n1
    · exact big A0 n0 c0 l0 A1 n1 c1 l1 A2 n2 c2 l2 w h0 h1 h2 m0 m1 m2 hT (.inr (.inl ⟨by omega, q1⟩))
    · by_cases q2 : 600 < n2
      · exact big A0 n0 c0 l0 A1 n1 c1 l1 A2 n2 c2 l2 w h0 h1 h2 m0 m1 m2 hT (.inr (.inr ⟨by omega, by omega, q2⟩))
      · exact main A0 n0 c0 l0 A1 n1 c1 l1 A2 n2 c2 l2 w h0 h1 h2 m0 m1 m2 hT (by omega) (by omega) (by omega)
end Go.Proofs.YtmlihcillheeaaaDoor.LawTells
