/- The law MacSame: its walk. -/
import Derived.Test.YtmlihcillheeaaaDoorMacU
set_option linter.unusedVariables false
namespace Go.Proofs.YtmlihcillheeaaaDoor.LawSame
open Go.RowKit Go.PlainAid Go.Proofs.YtmlihcillheeaaaDoor.Sums Go.Proofs.YtmlihcillheeaaaDoor.Mem Go.Proofs.YtmlihcillheeaaaDoor.Blk Go.Proofs.YtmlihcillheeaaaDoor.Bits3 Go.Proofs.YtmlihcillheeaaaDoor.Ints Go.Proofs.YtmlihcillheeaaaDoor.Both Go.Proofs.YtmlihcillheeaaaDoor.Free Go.Proofs.YtmlihcillheeaaaDoor.Steps Go.Proofs.YtmlihcillheeaaaDoor.Ops Go.Proofs.YtmlihcillheeaaaDoor.ShaD Go.Proofs.YtmlihcillheeaaaDoor.ShaO Go.Proofs.YtmlihcillheeaaaDoor.Dig1 Go.Proofs.YtmlihcillheeaaaDoor.Dig9 Go.Proofs.YtmlihcillheeaaaDoor.DigA Go.Proofs.YtmlihcillheeaaaDoor.MacD Go.Proofs.YtmlihcillheeaaaDoor.Mac2 Go.Proofs.YtmlihcillheeaaaDoor.Mac3 Go.Proofs.YtmlihcillheeaaaDoor.Mac4 Go.Proofs.YtmlihcillheeaaaDoor.MacA Go.Proofs.YtmlihcillheeaaaDoor.MacU

theorem set_same {l : List Int} {k : Nat} {x : Int} (h : k < l.length) : decide (l = l.set k x) = (l.getD k 0 == x) ∧ decide (l.set k x = l) = (l.getD k 0 == x) := by
  have e : l.getD k 0 = l[k] := by rw [List.getD_eq_getElem?_getD, List.getElem?_eq_getElem h]; rfl
  have q : l.set k x = l ↔ l.getD k 0 = x := by
    rw [e]
    constructor
    · intro q
      have e2 : (l.set k x)[k]? = some x := by rw [List.getElem?_set_self h]
      rw [q, List.getElem?_eq_getElem h] at e2
      exact Option.some.inj e2
    · rintro rfl
      exact List.set_getElem_self h
  constructor
  · rw [Bool.eq_iff_iff, decide_eq_true_iff, beq_iff_eq, ← q]
    exact eq_comm
  · rw [Bool.eq_iff_iff, decide_eq_true_iff, beq_iff_eq, ← q]
theorem not_more (l : List Int) (x : Int) : decide (l = l ++ [x]) = false ∧ decide (l ++ [x] = l) = false := by
  have q : ∀ (a b : List Int), a.length ≠ b.length → decide (a = b) = false := fun a b h => decide_eq_false fun e => h (by rw [e])
  exact ⟨q _ _ (by simp), q _ _ (by simp)⟩
section
variable (A : Option Addr) (n c : Nat) (l : List Int) (A2 : Option Addr) (c2 : Nat) (w : World) (B : Nat)
theorem same_yes (h : Holds w B A n c l) (h2 : Holds w B A2 n c2 l) (hn : n ≤ 1000000) : Calls Tryd.prog 13 #[.slice A n c, .slice A2 n c2] w fun e w' => e = .returned (.bool true) ∧ w = w' := by
  have := same_any A n c l A2 n c2 l w B h h2 hn hn
  rwa [show decide (l = l) = true from decide_eq_true rfl] at this
theorem same_no1 (x : Int) (h : Holds w B A n c l) (h2 : Holds w B A2 (n + 1) c2 (l ++ [x])) (hn : n ≤ 100000) : Calls Tryd.prog 13 #[.slice A n c, .slice A2 (n + 1) c2] w fun e w' => e = .returned (.bool false) ∧ w = w' := by
  have := same_any A n c l A2 (n + 1) c2 _ w B h h2 (by omega) (by omega)
  rwa [(not_more l x).1] at this
theorem same_no2 (x : Int) (h : Holds w B A n c l) (h2 : Holds w B A2 (n + 1) c2 (l ++ [x])) (hn : n ≤ 100000) : Calls Tryd.prog 13 #[.slice A2 (n + 1) c2, .slice A n c] w fun e w' => e = .returned (.bool false) ∧ w = w' := by
  have := same_any A2 (n + 1) c2 _ A n c l w B h2 h (by omega) (by omega)
  rwa [(not_more l x).2] at this
end

set_option maxHeartbeats 1000000 in
set_option maxRecDepth 100000 in
theorem big (A0 : Option Addr) (n0 c0 : Nat) (l0 : List Int) (a1 : Int) (x : Nat) (w : World) (hx : x < 256) (h0 : Holds w w.heap.size A0 n0 c0 l0) (m0 : n0 ≤ 140737488355328) (hT : Tab w) (q : 3000 < n0) :
    Calls Tryd.prog 5 #[.slice A0 n0 c0, .int .i64 a1, .int .u8 (x : Int)] w fun e w' => e = .returned (.bool true) ∧ Below w.heap.size w w' := by
  have g0 : decide ((3000 : Int) < (n0 : Int)) = true := decide_eq_true (by omega)
  clear h0 m0 hT q
  go_enter Tryd.func5, Tryd.ntmps5
  go_wp2_with fail
  go_ret
  exact ⟨rfl, Below.refl _ _⟩

set_option maxHeartbeats 2000000 in
set_option maxRecDepth 100000 in
theorem away (A0 : Option Addr) (n0 c0 : Nat) (l0 : List Int) (a1 : Int) (x : Nat) (w : World) (hx : x < 256) (h0 : Holds w w.heap.size A0 n0 c0 l0) (m0 : n0 ≤ 140737488355328) (hT : Tab w) (q : n0 ≤ 3000) (q1 : a1 < 0 ∨ (n0 : Int) ≤ a1) :
    Calls Tryd.prog 5 #[.slice A0 n0 c0, .int .i64 a1, .int .u8 (x : Int)] w fun e w' => e = .returned (.bool true) ∧ Below w.heap.size w w' := by
  have g0 : decide ((3000 : Int) < (n0 : Int)) = false := decide_eq_false (by omega)
  have H0 := Lib.hid h0
  have HT := Lib.hid hT
  have N0 := Lib.hid q
  have XB := Lib.hid hx
  have XBy : Bytes [(x : Int)] := fun z hz => by simp at hz; omega
  have XY := Lib.hid XBy
  clear h0 m0 hT q hx XBy
  by_cases q2 : a1 < 0
  · have g1 : decide (a1 < 0) = true := decide_eq_true q2
    clear q1 q2
    go_enter Tryd.func5, Tryd.ntmps5
    go_wp2_with fail
    refine (both_one A0 n0 c0 l0 w w.heap.size H0.out (Nat.le_refl _) (by have := N0.out; omega) _ rfl _ rfl).mono ?_
    rintro e w1 ⟨A1, c1, rfl, _, oo, hb⟩
    have O1 := Lib.hid oo
    have B1 := Lib.hid hb
    have SW1 := Lib.hid (Nat.le_refl w1.heap.size)
    clear oo hb
    have S1 := Lib.hid (same_yes A0 n0 c0 l0 A1 c1 w1 w1.heap.size ((H0.out.below B1.out).more B1.out.size) O1.out.holds (by have := N0.out; omega))
    go_wp2_with fail
    refine S1.out.mono ?_
    rintro e w' ⟨rfl, rfl⟩
    clear S1
    go_wp2_with fail
    refine (both_one A0 n0 c0 l0 w1 w.heap.size (H0.out.below B1.out) B1.out.size (by have := N0.out; omega) _ rfl _ rfl).mono ?_
    rintro e w2 ⟨A2, c2, rfl, _, oo, hb⟩
    have O2 := Lib.hid oo
    have D2 := Lib.hid hb
    have L2 := Lib.hid (Holds.lit w2 [(x : Int)] #[.int .u8 (x : Int)] rfl (by simp [maxLen]) XY.out)
    clear oo hb
    go_wp2_with (at_builtin
                 refine wpList_append_w rfl (.tmp 22) (.tmp 24) rfl w1.heap.size _ n0 _ rfl (O2.out.alloc _) _ _ 1 1 _ rfl L2.out (by have := N0.out; omega) (by simp; have := D2.out.size; omega) ?_
                 intro v3 w3 o3 g3 hat3)
    have D3 := Lib.hid ((D2.out.alloc D2.out.size _).grown g3 (by simp; have := D2.out.size; omega) fun g hg => (O2.out.lt g hg).1)
    obtain ⟨A3, c3, rfl, h3⟩ := o3.slice
    have H3 := Lib.hid h3
    have B3 := Lib.hid (B1.out.trans (D3.out.mono B1.out.size))
    clear o3 g3 hat3 h3 O2 D2 L2
    have S2 := Lib.hid (same_no1 A0 n0 c0 l0 A3 c3 w3 w3.heap.size (x : Int) ((H0.out.below B3.out).more B3.out.size) H3.out (by have := N0.out; omega))
    go_wp2_with fail
    refine S2.out.mono ?_
    rintro e w' ⟨rfl, rfl⟩
    clear S2 H3
    go_wp2_with fail
    refine (both_one A0 n0 c0 l0 w3 w.heap.size (H0.out.below B3.out) B3.out.size (by have := N0.out; omega) _ rfl _ rfl).mono ?_
    rintro e w4 ⟨A4, c4, rfl, _, oo, hb⟩
    have O4 := Lib.hid oo
    have D4 := Lib.hid hb
    have L4 := Lib.hid (Holds.lit w4 [(x : Int)] #[.int .u8 (x : Int)] rfl (by simp [maxLen]) XY.out)
    clear oo hb
    go_wp2_with (at_builtin
                 refine wpList_append_w rfl (.tmp 31) (.tmp 33) rfl w3.heap.size _ n0 _ rfl (O4.out.alloc _) _ _ 1 1 _ rfl L4.out (by have := N0.out; omega) (by simp; have := D4.out.size; omega) ?_
                 intro v5 w5 o5 g5 hat5)
    have D5 := Lib.hid ((D4.out.alloc D4.out.size _).grown g5 (by simp; have := D4.out.size; omega) fun g hg => (O4.out.lt g hg).1)
    obtain ⟨A5, c5, rfl, h5⟩ := o5.slice
    have H5 := Lib.hid h5
    have D15 := Lib.hid (D3.out.trans (D5.out.mono D3.out.size))
    have B5 := Lib.hid (B1.out.trans (D15.out.mono B1.out.size))
    clear o5 g5 hat5 h5 O4 D4 L4
    have S3 := Lib.hid (same_no2 A0 n0 c0 l0 A5 c5 w5 w5.heap.size (x : Int) ((H0.out.below B5.out).more B5.out.size) H5.out (by have := N0.out; omega))
    go_wp2_with fail
    refine S3.out.mono ?_
    rintro e w' ⟨rfl, rfl⟩
    clear S3 H5 D3 D5
    go_wp2_with fail
    refine (awake_any _ (HT.out.up B5.out)).mono ?_
    rintro e wz ⟨rfl, hb⟩
    have BZ := Lib.hid (B5.out.trans (hb.mono B5.out.size))
    clear hb
    go_wp2_with fail
    go_ret
    exact ⟨rfl, BZ.out⟩
  · have g1 : decide (a1 < 0) = false := decide_eq_false q2
    have g2 : decide ((n0 : Int) ≤ a1) = true := decide_eq_true (by omega)
    clear q1 q2
    go_enter Tryd.func5, Tryd.ntmps5
    go_wp2_with fail
    refine (both_one A0 n0 c0 l0 w w.heap.size H0.out (Nat.le_refl _) (by have := N0.out; omega) _ rfl _ rfl).mono ?_
    rintro e w1 ⟨A1, c1, rfl, _, oo, hb⟩
    have O1 := Lib.hid oo
    have B1 := Lib.hid hb
    have SW1 := Lib.hid (Nat.le_refl w1.heap.size)
    clear oo hb
    have S1 := Lib.hid (same_yes A0 n0 c0 l0 A1 c1 w1 w1.heap.size ((H0.out.below B1.out).more B1.out.size) O1.out.holds (by have := N0.out; omega))
    go_wp2_with fail
    refine S1.out.mono ?_
    rintro e w' ⟨rfl, rfl⟩
    clear S1
    go_wp2_with fail
    refine (both_one A0 n0 c0 l0 w1 w.heap.size (H0.out.below B1.out) B1.out.size (by have := N0.out; omega) _ rfl _ rfl).mono ?_
    rintro e w2 ⟨A2, c2, rfl, _, oo, hb⟩
    have O2 := Lib.hid oo
    have D2 := Lib.hid hb
    have L2 := Lib.hid (Holds.lit w2 [(x : Int)] #[.int .u8 (x : Int)] rfl (by simp [maxLen]) XY.out)
    clear oo hb
    go_wp2_with (at_builtin
                 refine wpList_append_w rfl (.tmp 22) (.tmp 24) rfl w1.heap.size _ n0 _ rfl (O2.out.alloc _) _ _ 1 1 _ rfl L2.out (by have := N0.out; omega) (by simp; have := D2.out.size; omega) ?_
                 intro v3 w3 o3 g3 hat3)
    have D3 := Lib.hid ((D2.out.alloc D2.out.size _).grown g3 (by simp; have := D2.out.size; omega) fun g hg => (O2.out.lt g hg).1)
    obtain ⟨A3, c3, rfl, h3⟩ := o3.slice
    have H3 := Lib.hid h3
    have B3 := Lib.hid (B1.out.trans (D3.out.mono B1.out.size))
    clear o3 g3 hat3 h3 O2 D2 L2
    have S2 := Lib.hid (same_no1 A0 n0 c0 l0 A3 c3 w3 w3.heap.size (x : Int) ((H0.out.below B3.out).more B3.out.size) H3.out (by have := N0.out; omega))
    go_wp2_with fail
    refine S2.out.mono ?_
    rintro e w' ⟨rfl, rfl⟩
    clear S2 H3
    go_wp2_with fail
    refine (both_one A0 n0 c0 l0 w3 w.heap.size (H0.out.below B3.out) B3.out.size (by have := N0.out; omega) _ rfl _ rfl).mono ?_
    rintro e w4 ⟨A4, c4, rfl, _, oo, hb⟩
    have O4 := Lib.hid oo
    have D4 := Lib.hid hb
    have L4 := Lib.hid (Holds.lit w4 [(x : Int)] #[.int .u8 (x : Int)] rfl (by simp [maxLen]) XY.out)
    clear oo hb
    go_wp2_with (at_builtin
                 refine wpList_append_w rfl (.tmp 31) (.tmp 33) rfl w3.heap.size _ n0 _ rfl (O4.out.alloc _) _ _ 1 1 _ rfl L4.out (by have := N0.out; omega) (by simp; have := D4.out.size; omega) ?_
                 intro v5 w5 o5 g5 hat5)
    have D5 := Lib.hid ((D4.out.alloc D4.out.size _).grown g5 (by simp; have := D4.out.size; omega) fun g hg => (O4.out.lt g hg).1)
    obtain ⟨A5, c5, rfl, h5⟩ := o5.slice
    have H5 := Lib.hid h5
    have D15 := Lib.hid (D3.out.trans (D5.out.mono D3.out.size))
    have B5 := Lib.hid (B1.out.trans (D15.out.mono B1.out.size))
    clear o5 g5 hat5 h5 O4 D4 L4
    have S3 := Lib.hid (same_no2 A0 n0 c0 l0 A5 c5 w5 w5.heap.size (x : Int) ((H0.out.below B5.out).more B5.out.size) H5.out (by have := N0.out; omega))
    go_wp2_with fail
    refine S3.out.mono ?_
    rintro e w' ⟨rfl, rfl⟩
    clear S3 H5 D3 D5
    go_wp2_with fail
    refine (awake_any _ (HT.out.up B5.out)).mono ?_
    rintro e wz ⟨rfl, hb⟩
    have BZ := Lib.hid (B5.out.trans (hb.mono B5.out.size))
    clear hb
    go_wp2_with fail
    go_ret
    exact ⟨rfl, BZ.out⟩

set_option maxHeartbeats 4000000 in
set_option maxRecDepth 100000 in
theorem main (A0 : Option Addr) (n0 c0 : Nat) (l0 : List Int) (k : Nat) (x : Nat) (w : World) (hx : x < 256) (h0 : Holds w w.heap.size A0 n0 c0 l0) (m0 : n0 ≤ 140737488355328) (hT : Tab w) (q : n0 ≤ 3000) (q1 : k < n0) :
    Calls Tryd.prog 5 #[.slice A0 n0 c0, .int .i64 (k : Int), .int .u8 (x : Int)] w fun e w' => e = .returned (.bool true) ∧ Below w.heap.size w w' := by
  have KN := Lib.hid q1
  have g1 : decide ((k : Int) < 0) = false := decide_eq_false (by omega)
  have g2 : decide ((n0 : Int) ≤ (k : Int)) = false := decide_eq_false (by omega)
  have g2' : decide (n0 ≤ k) = false := decide_eq_false (by omega)
  obtain ⟨b, o, rfl, hbw, _⟩ := h0.2.2.2.2 (by omega)
  have BW := Lib.hid hbw
  clear hbw q1
  have g0 : decide ((3000 : Int) < (n0 : Int)) = false := decide_eq_false (by omega)
  have H0 := Lib.hid h0
  have HT := Lib.hid hT
  have N0 := Lib.hid q
  have XB := Lib.hid hx
  have XBy : Bytes [(x : Int)] := fun z hz => by simp at hz; omega
  have XY := Lib.hid XBy
  have SE := Lib.hid (set_same (l := l0) (k := k) (x := (x : Int)) (by rw [h0.1]; exact KN.out))
  clear h0 m0 hT q hx XBy
  go_enter Tryd.func5, Tryd.ntmps5
  go_wp2_with fail
  refine (both_one (some ⟨b, o, none⟩) n0 c0 l0 w w.heap.size H0.out (Nat.le_refl _) (by have := N0.out; omega) _ rfl _ rfl).mono ?_
  rintro e w1 ⟨A1, c1, rfl, _, oo, hb⟩
  have O1 := Lib.hid oo
  have B1 := Lib.hid hb
  have SW1 := Lib.hid (Nat.le_refl w1.heap.size)
  clear oo hb
  have S1 := Lib.hid (same_yes (some ⟨b, o, none⟩) n0 c0 l0 A1 c1 w1 w1.heap.size ((H0.out.below B1.out).more B1.out.size) O1.out.holds (by have := N0.out; omega))
  go_wp2_with fail
  refine S1.out.mono ?_
  rintro e w' ⟨rfl, rfl⟩
  clear S1
  go_wp2_with fail
  refine (both_one (some ⟨b, o, none⟩) n0 c0 l0 w1 w.heap.size (H0.out.below B1.out) B1.out.size (by have := N0.out; omega) _ rfl _ rfl).mono ?_
  rintro e w2 ⟨A2, c2, rfl, _, oo, hb⟩
  have O2 := Lib.hid oo
  have D2 := Lib.hid hb
  have L2 := Lib.hid (Holds.lit w2 [(x : Int)] #[.int .u8 (x : Int)] rfl (by simp [maxLen]) XY.out)
  clear oo hb
  go_wp2_with (at_builtin
               refine wpList_append_w rfl (.tmp 22) (.tmp 24) rfl w1.heap.size _ n0 _ rfl (O2.out.alloc _) _ _ 1 1 _ rfl L2.out (by have := N0.out; omega) (by simp; have := D2.out.size; omega) ?_
               intro v3 w3 o3 g3 hat3)
  have D3 := Lib.hid ((D2.out.alloc D2.out.size _).grown g3 (by simp; have := D2.out.size; omega) fun g hg => (O2.out.lt g hg).1)
  obtain ⟨A3, c3, rfl, h3⟩ := o3.slice
  have H3 := Lib.hid h3
  have B3 := Lib.hid (B1.out.trans (D3.out.mono B1.out.size))
  clear o3 g3 hat3 h3 O2 D2 L2
  have S2 := Lib.hid (same_no1 (some ⟨b, o, none⟩) n0 c0 l0 A3 c3 w3 w3.heap.size (x : Int) ((H0.out.below B3.out).more B3.out.size) H3.out (by have := N0.out; omega))
  go_wp2_with fail
  refine S2.out.mono ?_
  rintro e w' ⟨rfl, rfl⟩
  clear S2 H3
  go_wp2_with fail
  refine (both_one (some ⟨b, o, none⟩) n0 c0 l0 w3 w.heap.size (H0.out.below B3.out) B3.out.size (by have := N0.out; omega) _ rfl _ rfl).mono ?_
  rintro e w4 ⟨A4, c4, rfl, _, oo, hb⟩
  have O4 := Lib.hid oo
  have D4 := Lib.hid hb
  have L4 := Lib.hid (Holds.lit w4 [(x : Int)] #[.int .u8 (x : Int)] rfl (by simp [maxLen]) XY.out)
  clear oo hb
  go_wp2_with (at_builtin
               refine wpList_append_w rfl (.tmp 31) (.tmp 33) rfl w3.heap.size _ n0 _ rfl (O4.out.alloc _) _ _ 1 1 _ rfl L4.out (by have := N0.out; omega) (by simp; have := D4.out.size; omega) ?_
               intro v5 w5 o5 g5 hat5)
  have D5 := Lib.hid ((D4.out.alloc D4.out.size _).grown g5 (by simp; have := D4.out.size; omega) fun g hg => (O4.out.lt g hg).1)
  obtain ⟨A5, c5, rfl, h5⟩ := o5.slice
  have H5 := Lib.hid h5
  have D15 := Lib.hid (D3.out.trans (D5.out.mono D3.out.size))
  have B5 := Lib.hid (B1.out.trans (D15.out.mono B1.out.size))
  clear o5 g5 hat5 h5 O4 D4 L4
  have S3 := Lib.hid (same_no2 (some ⟨b, o, none⟩) n0 c0 l0 A5 c5 w5 w5.heap.size (x : Int) ((H0.out.below B5.out).more B5.out.size) H5.out (by have := N0.out; omega))
  go_wp2_with fail
  refine S3.out.mono ?_
  rintro e w' ⟨rfl, rfl⟩
  clear S3 H5 D3 D5
  obtain ⟨g, rfl, hg1, hg2⟩ := O1.out.form (by have := KN.out; omega)
  have O5 := O1.out.below D15.out (Nat.le_refl _)
  obtain ⟨u, hu⟩ := O5.there k KN.out
  have fz := O5.free k KN.out
  have O6 := Lib.hid (O5.set k (x : Int) (by omega) (by have := XB.out; omega))
  have B6 := Lib.hid (B5.out.setCell (p := ⟨g, k, none⟩) hg1 (.int .u8 (x : Int)))
  have kn := KN.out
  clear O5 O1 hg1 hg2 D15
  go_wp2_with fail
  generalize w5.setCell ⟨g, k, none⟩ (.int .u8 (x : Int)) = w6 at *
  clear hu fz
  have X1 : Hid (∀ V : World, Below w6.drew.heap.size w6.drew V → Below w6.heap.size w6 V) := Lib.hid fun V hV => (below_drewN (Below.refl w6.heap.size w6) 1).trans hV
  have G0 : Hid (∀ V : World, Below w6.drew.heap.size w6.drew V → Holds V V.heap.size (some ⟨b, o, none⟩) n0 c0 l0) := Lib.hid fun V hV => (((H0.out.below B6.out).more B6.out.size).below (X1.out V hV)).more (X1.out V hV).size
  have G1 : Hid (∀ V : World, Below w6.drew.heap.size w6.drew V → Holds V V.heap.size (some ⟨g, 0, none⟩) n0 c1 (l0.set k (x : Int))) := Lib.hid fun V hV => ((O6.out.holds).below (X1.out V hV)).more (X1.out V hV).size
  have XT : Hid (∀ V : World, Below w6.drew.heap.size w6.drew V → Tab V) := Lib.hid fun V hV => HT.out.up (B6.out.trans ((X1.out V hV).mono B6.out.size))
  obtain ⟨r, hr⟩ : ∃ r : Bool, r = (l0.getD k 0 == (x : Int)) := ⟨_, rfl⟩
  have SX : Hid ((l0.getD k 0 == (x : Int)) = r) := Lib.hid hr.symm
  have S4 : Hid (∀ V : World, Below w6.drew.heap.size w6.drew V → Calls Tryd.prog 13 #[.slice (some ⟨b, o, none⟩) n0 c0, .slice (some ⟨g, 0, none⟩) n0 c1] V fun e w' => e = .returned (.bool r) ∧ V = w') := Lib.hid fun V hV => by
    rw [hr, ← SE.out.1]
    exact same_any _ n0 c0 l0 _ n0 c1 _ V _ (G0.out V hV) (G1.out V hV) (by have := N0.out; omega) (by have := N0.out; omega)
  have S5 : Hid (∀ V : World, Below w6.drew.heap.size w6.drew V → Calls Tryd.prog 13 #[.slice (some ⟨g, 0, none⟩) n0 c1, .slice (some ⟨b, o, none⟩) n0 c0] V fun e w' => e = .returned (.bool r) ∧ V = w') := Lib.hid fun V hV => by
    rw [hr, ← SE.out.2]
    exact same_any _ n0 c1 _ _ n0 c0 l0 V _ (G1.out V hV) (G0.out V hV) (by have := N0.out; omega) (by have := N0.out; omega)
  clear hr H0 SE O6 G1
  go_wp2_with fail
  refine wp_region_freeP [0, 1, 2, 3, 4, 5, 6, 7, 8, 9, 10, 11, 12, 13, 14, 15, 16, 17, 18, 19, 20, 21, 22, 23, 24] 25 [] [(1, true), (13, true)] (fun w1 w2 => Below w1.heap.size w1 w2) (fun k' w' v => match k' with
    | 0 => v = .bool true
    | 1 => v = .bool true
    | 2 => v = .slice (some ⟨b, o, none⟩) n0 c0
    | 3 => v = .slice (some ⟨g, 0, none⟩) n0 c1
    | 4 => v = .bool r
    | 5 => v = .slice (some ⟨b, o, none⟩) n0 c0
    | 6 => v = .int .i64 ((k : Int))
    | 7 => v = .pointer (some ⟨b, o + k, none⟩)
    | 8 => v = .int .u8 (l0.getD k 0)
    | 9 => v = .int .u8 ((x : Int))
    | 10 => v = .bool r
    | 11 => v = .bool true
    | 12 => v = .bool true
    | 13 => v = .bool true
    | 14 => v = .slice (some ⟨g, 0, none⟩) n0 c1
    | 15 => v = .slice (some ⟨b, o, none⟩) n0 c0
    | 16 => v = .bool r
    | 17 => v = .slice (some ⟨b, o, none⟩) n0 c0
    | 18 => v = .int .i64 ((k : Int))
    | 19 => v = .pointer (some ⟨b, o + k, none⟩)
    | 20 => v = .int .u8 (l0.getD k 0)
    | 21 => v = .int .u8 ((x : Int))
    | 22 => v = .bool r
    | 23 => v = .bool true
    | _ => v = .bool true) (by kernel_rfl) (by kernel_rfl) (fun q hq w v hv => ?_) (Below.refl _ _) (fun _ _ _ h k => h.trans (k.mono h.size)) (fun k' w1 w2 v h => match k' with
    | 0 => fun x => x
    | 1 => fun x => x
    | 2 => fun x => x
    | 3 => fun x => x
    | 4 => fun x => x
    | 5 => fun x => x
    | 6 => fun x => x
    | 7 => fun x => x
    | 8 => fun x => x
    | 9 => fun x => x
    | 10 => fun x => x
    | 11 => fun x => x
    | 12 => fun x => x
    | 13 => fun x => x
    | 14 => fun x => x
    | 15 => fun x => x
    | 16 => fun x => x
    | 17 => fun x => x
    | 18 => fun x => x
    | 19 => fun x => x
    | 20 => fun x => x
    | 21 => fun x => x
    | 22 => fun x => x
    | 23 => fun x => x
    | _ + 24 => fun x => x) (fun _ _ _ _ _ h => h) ?_ _ (by rfl) ?_
  · simp only [List.mem_cons, List.not_mem_nil, or_false] at hq
    rcases hq with rfl | rfl <;> exact hv
  · refine obs_cons (by rfl) (fun vals w' hgr hdep K hK => ?_) (obs_cons (by rfl) (fun vals w' hgr hdep K hK => ?_) (obs_cons (by rfl) (fun vals w' hgr hdep K hK => ?_) (obs_cons (by rfl) (fun vals w' hgr hdep K hK => ?_) (obs_cons (by rfl) (fun vals w' hgr hdep K hK => ?_) (obs_cons (by rfl) (fun vals w' hgr hdep K hK => ?_) (obs_cons (by rfl) (fun vals w' hgr hdep K hK => ?_) (obs_cons (by rfl) (fun vals w' hgr hdep K hK => ?_) (obs_cons (by rfl) (fun vals w' hgr hdep K hK => ?_) (obs_cons (by rfl) (fun vals w' hgr hdep K hK => ?_) (obs_cons (by rfl) (fun vals w' hgr hdep K hK => ?_) (obs_cons (by rfl) (fun vals w' hgr hdep K hK => ?_) (obs_cons (by rfl) (fun vals w' hgr hdep K hK => ?_) (obs_cons (by rfl) (fun vals w' hgr hdep K hK => ?_) (obs_cons (by rfl) (fun vals w' hgr hdep K hK => ?_) (obs_cons (by rfl) (fun vals w' hgr hdep K hK => ?_) (obs_cons (by rfl) (fun vals w' hgr hdep K hK => ?_) (obs_cons (by rfl) (fun vals w' hgr hdep K hK => ?_) (obs_cons (by rfl) (fun vals w' hgr hdep K hK => ?_) (obs_cons (by rfl) (fun vals w' hgr hdep K hK => ?_) (obs_cons (by rfl) (fun vals w' hgr hdep K hK => ?_) (obs_cons (by rfl) (fun vals w' hgr hdep K hK => ?_) (obs_cons (by rfl) (fun vals w' hgr hdep K hK => ?_) (obs_cons (by rfl) (fun vals w' hgr hdep K hK => ?_) (obs_cons (by rfl) (fun vals w' hgr hdep K hK => ?_) (obs_nil)))))))))))))))))))))))))
    · exact wp_call 11 [] _ rfl ent_awake [] rfl (fun v w'' => v = .bool true ∧ Below w'.heap.size w' w'') ((awake_any w' (XT.out w' hgr)).mono fun e w'' ⟨h1, h2⟩ => ⟨_, h1, rfl, h2⟩) (fun v w'' ⟨h1, h2⟩ => hK v _ h2 h1)
    · exact wp_move (.tmp 51) rfl _ ((at_dst 0 (by kernel_rfl)).trans (hdep 0 (by simp) (by kernel_rfl))) (hK _ _ (Below.refl _ _) rfl)
    · exact wp_move (.tmp 0) rfl _ (at_out _ (by kernel_rfl) rfl) (hK _ _ (Below.refl _ _) rfl)
    · exact wp_move (.tmp 7) rfl _ (at_out _ (by kernel_rfl) rfl) (hK _ _ (Below.refl _ _) rfl)
    · exact wp_call 13 [.tmp 53, .tmp 54] _ rfl ent_same [.slice (some ⟨b, o, none⟩) n0 c0, .slice (some ⟨g, 0, none⟩) n0 c1] (list2 ((at_dst 2 (by kernel_rfl)).trans (hdep 2 (by simp) (by kernel_rfl))) ((at_dst 3 (by kernel_rfl)).trans (hdep 3 (by simp) (by kernel_rfl)))) (fun v w'' => v = .bool r ∧ w' = w'') ((S4.out w' hgr).mono fun e w'' ⟨h1, h2⟩ => ⟨_, h1, rfl, h2⟩) (fun v w'' ⟨h1, h2⟩ => by subst h2; exact hK v _ (Below.refl _ _) h1)
    · exact wp_move (.tmp 0) rfl _ (at_out _ (by kernel_rfl) rfl) (hK _ _ (Below.refl _ _) rfl)
    · exact wp_move (.tmp 1) rfl _ (at_out _ (by kernel_rfl) rfl) (hK _ _ (Below.refl _ _) rfl)
    · exact st_byte_at (.tmp 56) (.tmp 57) rfl b o n0 c0 k ((at_dst 5 (by kernel_rfl)).trans (hdep 5 (by simp) (by kernel_rfl))) ((at_dst 6 (by kernel_rfl)).trans (hdep 6 (by simp) (by kernel_rfl))) (by have := KN.out; omega) (hK _ _ (Below.refl _ _) rfl)
    · exact wp_load1 (.tmp 58) rfl ⟨b, o + k, none⟩ ((at_dst 7 (by kernel_rfl)).trans (hdep 7 (by simp) (by kernel_rfl))) Tryd.underlying5 rfl _ (cell_getD (G0.out _ hgr) k KN.out) (hK _ _ (Below.refl _ _) rfl)
    · exact wp_move (.tmp 2) rfl _ (at_out _ (by kernel_rfl) rfl) (hK _ _ (Below.refl _ _) rfl)
    · exact wp_bin (.tmp 59) (.tmp 60) rfl _ _ _ ((at_dst 8 (by kernel_rfl)).trans (hdep 8 (by simp) (by kernel_rfl))) ((at_dst 9 (by kernel_rfl)).trans (hdep 9 (by simp) (by kernel_rfl))) (b_eq8 _ _ _ SX.out _ _ _) (hK _ _ (Below.refl _ _) rfl)
    · exact wp_bin (.tmp 55) (.tmp 61) rfl _ _ _ ((at_dst 4 (by kernel_rfl)).trans (hdep 4 (by simp) (by kernel_rfl))) ((at_dst 10 (by kernel_rfl)).trans (hdep 10 (by simp) (by kernel_rfl))) (b_eqb _ _ _ _) (hK _ _ (Below.refl _ _) rfl)
    · exact st_pick (.tmp 52) (.tmp 62) _ rfl _ ((at_dst 1 (by kernel_rfl)).trans (hdep 1 (by simp) (by kernel_rfl))) ((at_dst 11 (by kernel_rfl)).trans (hdep 11 (by simp) (by kernel_rfl))) (hK _ _ (Below.refl _ _) rfl)
    · exact wp_move (.tmp 63) rfl _ ((at_dst 12 (by kernel_rfl)).trans (hdep 12 (by simp) (by kernel_rfl))) (hK _ _ (Below.refl _ _) rfl)
    · exact wp_move (.tmp 7) rfl _ (at_out _ (by kernel_rfl) rfl) (hK _ _ (Below.refl _ _) rfl)
    · exact wp_move (.tmp 0) rfl _ (at_out _ (by kernel_rfl) rfl) (hK _ _ (Below.refl _ _) rfl)
    · exact wp_call 13 [.tmp 65, .tmp 66] _ rfl ent_same [.slice (some ⟨g, 0, none⟩) n0 c1, .slice (some ⟨b, o, none⟩) n0 c0] (list2 ((at_dst 14 (by kernel_rfl)).trans (hdep 14 (by simp) (by kernel_rfl))) ((at_dst 15 (by kernel_rfl)).trans (hdep 15 (by simp) (by kernel_rfl)))) (fun v w'' => v = .bool r ∧ w' = w'') ((S5.out w' hgr).mono fun e w'' ⟨h1, h2⟩ => ⟨_, h1, rfl, h2⟩) (fun v w'' ⟨h1, h2⟩ => by subst h2; exact hK v _ (Below.refl _ _) h1)
    · exact wp_move (.tmp 0) rfl _ (at_out _ (by kernel_rfl) rfl) (hK _ _ (Below.refl _ _) rfl)
    · exact wp_move (.tmp 1) rfl _ (at_out _ (by kernel_rfl) rfl) (hK _ _ (Below.refl _ _) rfl)
    · exact st_byte_at (.tmp 68) (.tmp 69) rfl b o n0 c0 k ((at_dst 17 (by kernel_rfl)).trans (hdep 17 (by simp) (by kernel_rfl))) ((at_dst 18 (by kernel_rfl)).trans (hdep 18 (by simp) (by kernel_rfl))) (by have := KN.out; omega) (hK _ _ (Below.refl _ _) rfl)
    · exact wp_load1 (.tmp 70) rfl ⟨b, o + k, none⟩ ((at_dst 19 (by kernel_rfl)).trans (hdep 19 (by simp) (by kernel_rfl))) Tryd.underlying5 rfl _ (cell_getD (G0.out _ hgr) k KN.out) (hK _ _ (Below.refl _ _) rfl)
    · exact wp_move (.tmp 2) rfl _ (at_out _ (by kernel_rfl) rfl) (hK _ _ (Below.refl _ _) rfl)
    · exact wp_bin (.tmp 71) (.tmp 72) rfl _ _ _ ((at_dst 20 (by kernel_rfl)).trans (hdep 20 (by simp) (by kernel_rfl))) ((at_dst 21 (by kernel_rfl)).trans (hdep 21 (by simp) (by kernel_rfl))) (b_eq8 _ _ _ SX.out _ _ _) (hK _ _ (Below.refl _ _) rfl)
    · exact wp_bin (.tmp 67) (.tmp 73) rfl _ _ _ ((at_dst 16 (by kernel_rfl)).trans (hdep 16 (by simp) (by kernel_rfl))) ((at_dst 22 (by kernel_rfl)).trans (hdep 22 (by simp) (by kernel_rfl))) (b_eqb _ _ _ _) (hK _ _ (Below.refl _ _) rfl)
    · exact st_pick (.tmp 64) (.tmp 74) _ rfl _ ((at_dst 13 (by kernel_rfl)).trans (hdep 13 (by simp) (by kernel_rfl))) ((at_dst 23 (by kernel_rfl)).trans (hdep 23 (by simp) (by kernel_rfl))) (hK _ _ (Below.refl _ _) rfl)
  · intro vals w' hgr hG
    have ev : vals 24 = .bool true := hG 24 (by simp)
    refine st_assign (.tmp 75) _ rfl (at_dst 24 (by kernel_rfl)) (wpAnyH_done (by kernel_rfl) ?_ _)
    have BF := Lib.hid (B6.out.trans ((X1.out w' hgr).mono B6.out.size))
    clear hG hgr
    simp only [fill, dstAt, List.getElem?_cons_zero, List.getElem?_cons_succ, Option.bind_some, Act.put, List.setIfInBounds_toArray, List.set_cons_zero, List.set_cons_succ]
    rw [ev]
    clear ev
    generalize vals 0 = y0, vals 1 = y1, vals 2 = y2, vals 3 = y3, vals 4 = y4, vals 5 = y5, vals 6 = y6, vals 7 = y7, vals 8 = y8, vals 9 = y9, vals 10 = y10, vals 11 = y11, vals 12 = y12, vals 13 = y13, vals 14 = y14, vals 15 = y15, vals 16 = y16, vals 17 = y17, vals 18 = y18, vals 19 = y19, vals 20 = y20, vals 21 = y21, vals 22 = y22, vals 23 = y23 at *
    generalize w' = wz at *
    go_wp2_with fail
    go_ret
    exact ⟨rfl, BF.out⟩

theorem same_nat (A0 : Option Addr) (n0 c0 : Nat) (l0 : List Int) (a1 : Int) (x : Nat) (w : World) (hx : x < 256) (h0 : Holds w w.heap.size A0 n0 c0 l0) (m0 : n0 ≤ 140737488355328) (hT : Tab w) :
    Calls Tryd.prog 5 #[.slice A0 n0 c0, .int .i64 a1, .int .u8 (x : Int)] w fun e w' => e = .returned (.bool true) ∧ Below w.heap.size w w' := by
  by_cases q0 : 3000 < n0
  · exact big A0 n0 c0 l0 a1 x w hx h0 m0 hT q0
  · by_cases q1 : a1 < 0 ∨ (n0 : Int) ≤ a1
    · exact away A0 n0 c0 l0 a1 x w hx h0 m0 hT (by omega) q1
    · obtain ⟨k, rfl⟩ : ∃ k : Nat, a1 = (k : Int) := ⟨a1.toNat, by omega⟩
      exact main A0 n0 c0 l0 k x w hx h0 m0 hT (by omega) (by omega)
theorem same_law (A0 : Option Addr) (n0 c0 : Nat) (l0 : List Int) (a1 a2 : Int) (w : World) (hx : 0 ≤ a2 ∧ a2 ≤ 255) (h0 : Holds w w.heap.size A0 n0 c0 l0) (m0 : n0 ≤ 140737488355328) (hT : Tab w) :
    Calls Tryd.prog 5 #[.slice A0 n0 c0, .int .i64 a1, .int .u8 a2] w fun e w' => e = .returned (.bool true) ∧ Below w.heap.size w w' := by
  obtain ⟨x, rfl⟩ : ∃ x : Nat, a2 = (x : Int) := ⟨a2.toNat, by omega⟩
  exact same_nat A0 n0 c0 l0 a1 x w (by omega) h0 m0 hT
end Go.Proofs.YtmlihcillheeaaaDoor.LawSame
