/- The reference: Print, no address and four bytes. -/
import Derived.Test.YtggahoocgijdkaaDoorRefDec
import Derived.Lib.QuietBelow
set_option linter.unusedVariables false
namespace Go.Proofs.YtggahoocgijdkaaDoor.RefPrint4
open Go.RowKit Go.Sort Go.PlainAid Go.Proofs.YtggahoocgijdkaaDoor.Std Go.Proofs.YtggahoocgijdkaaDoor.Grp Go.Proofs.YtggahoocgijdkaaDoor.Arr Go.Proofs.YtggahoocgijdkaaDoor.Mask Go.Proofs.YtggahoocgijdkaaDoor.Print Go.Proofs.YtggahoocgijdkaaDoor.RefSmall Go.Proofs.YtggahoocgijdkaaDoor.RefDec Go.Proofs.YtggahoocgijdkaaDoor.Back

theorem dec_any (x : Nat) (hx : x ≤ 255) (w : World) : Calls Tryd.prog 31 #[.int .i64 x] w fun e w' => e = .returned (.string (decB x)) ∧ Below w.heap.size w w' := by
  induction x using Nat.strongRecOn generalizing w with
  | _ x ih =>
    by_cases h : x < 10
    · exact dec_small x h w
    · exact dec_more x (by omega) hx (fun W => ih (x / 10) (by omega) (by omega) W) w

theorem print_no (s : ByteArray) (hs : s.size ≤ 300) (h4 : s.size ≠ 4) (h6 : s.size ≠ 16) (w : World) :
    Calls Tryd.prog 13 #[.string s] w fun e w' => e = .returned (.tuple #[.string ⟨#[]⟩, .int .i64 1]) ∧ w = w' := by
  have C := Lib.hid (fun W => is_no s h4 h6 W)
  go_enter Tryd.func13, Tryd.ntmps13
  go_wp2_with fail
  refine (C.out _).mono ?_; rintro e w' ⟨rfl, rfl⟩
  go_wp2_with fail
  go_ret2
  exact ⟨rfl, rfl⟩

theorem below_on {w W w1 : World} {B : Nat} (hb : Below W.heap.size W w1) (h : Below B w W ∧ B ≤ W.heap.size) : Below B w w1 ∧ B ≤ w1.heap.size := ⟨h.1.trans (hb.mono h.2), Nat.le_trans h.2 hb.size⟩
theorem below_dr {w W : World} {B : Nat} (h : Below B w W ∧ B ≤ W.heap.size) : Below B w W.drew ∧ B ≤ W.drew.heap.size := ⟨h.1.drew, h.2⟩
theorem dec_at (s : ByteArray) (k : Nat) (W : World) : Calls Tryd.prog 31 #[.int .i64 (bt s k)] W fun e w' => e = .returned (.string (decB (bt s k).toNat)) ∧ Below W.heap.size W w' := by
  have h0 := bt_nonneg s k
  have h1 := bt_le s k
  have := dec_any (bt s k).toNat (by omega) W
  rwa [show (((bt s k).toNat : Nat) : Int) = bt s k by omega] at this
theorem four_text (s : ByteArray) (h4 : s.size = 4) : decB (bt s 0).toNat ++ ⟨#[46]⟩ ++ decB (bt s 1).toNat ++ ⟨#[46]⟩ ++ decB (bt s 2).toNat ++ ⟨#[46]⟩ ++ decB (bt s 3).toNat = ⟨(fourT (bts s)).toArray⟩ := by
  have hl : (bts s).length = 4 := by rw [bts_len]; exact h4
  have e0 := bts_at s 0 (by omega)
  have e1 := bts_at s 1 (by omega)
  have e2 := bts_at s 2 (by omega)
  have e3 := bts_at s 3 (by omega)
  obtain ⟨a, b, c, d, hb⟩ : ∃ a b c d, bts s = [a, b, c, d] := by
    match h : bts s, hl with
    | [a, b, c, d], _ => exact ⟨a, b, c, d, rfl⟩
  rw [hb] at e0 e1 e2 e3 ⊢
  simp at e0 e1 e2 e3
  rw [← e0, ← e1, ← e2, ← e3]
  unfold decB fourT
  simp only [List.map_cons, List.map_nil]
  rw [join_two, join_two, join_two, Lib.join_one]
  simp only [ByteArray.mk_append_mk]
  simp

set_option maxRecDepth 100000 in
set_option maxHeartbeats 1000000 in
theorem print_four (s : ByteArray) (h4 : s.size = 4) (w : World) :
    Calls Tryd.prog 13 #[.string s] w fun e w' => e = .returned (.tuple #[.string ⟨(fourT (bts s)).toArray⟩, .int .i64 0]) ∧ Below w.heap.size w w' := by
  have C := Lib.hid (fun W => is_yes s (.inl h4) W)
  have g4 : ((s.size : Int) == 4) = true := by rw [beq_iff_eq]; omega
  have hsz : s.size = 4 := h4
  have hgb := get_bt s
  have D0 := fun (d : Nat) (os : Array Obj) => Calls.regrown_of (dec_at s 0 (grow (redrawn w d) os))
  have D1 := fun (d : Nat) (os : Array Obj) => Calls.regrown_of (dec_at s 1 (grow (redrawn w d) os))
  have D2 := fun (d : Nat) (os : Array Obj) => Calls.regrown_of (dec_at s 2 (grow (redrawn w d) os))
  have D3 := fun (d : Nat) (os : Array Obj) => Calls.regrown_of (dec_at s 3 (grow (redrawn w d) os))
  have z : ∀ k, IntKind.i64.wrap (bt s k) = bt s k := fun k => IntWalk.i64_in _ (by have := bt_nonneg s k; have := bt_le s k; omega)
  have i0 := z 0
  have i1 := z 1
  have i2 := z 2
  have i3 := z 3
  clear z
  have l : ∀ k, (decB (bt s k).toNat).size ≤ 3 := fun k => by
    have h0 := bt_nonneg s k
    have h1 := bt_le s k
    unfold decB
    rw [Parse.bsz]
    exact dec_len _ (by omega)
  have l0 := l 0
  have l1 := l 1
  have l2 := l 2
  have l3 := l 3
  clear l
  have E := Lib.hid (four_text s h4)
  generalize decB (bt s 0).toNat = X0 at D0 l0 E
  generalize decB (bt s 1).toNat = X1 at D1 l1 E
  generalize decB (bt s 2).toNat = X2 at D2 l2 E
  generalize decB (bt s 3).toNat = X3 at D3 l3 E
  generalize (⟨(fourT (bts s)).toArray⟩ : ByteArray) = R at E ⊢
  have dot : (⟨#[46]⟩ : ByteArray).size = 1 := rfl
  have a1 : ∀ W, (Op.stringOp .add X0 ⟨#[46]⟩).run Tryd.prog W = .ok (.string (X0 ++ ⟨#[46]⟩)) W := fun W => run_string_add_sum W _ _ (by omega)
  have a2 : ∀ W, (Op.stringOp .add (X0 ++ ⟨#[46]⟩) X1).run Tryd.prog W = .ok (.string (X0 ++ ⟨#[46]⟩ ++ X1)) W := fun W => run_string_add_sum W _ _ (by simp only [ByteArray.size_append]; omega)
  have a3 : ∀ W, (Op.stringOp .add (X0 ++ ⟨#[46]⟩ ++ X1) ⟨#[46]⟩).run Tryd.prog W = .ok (.string (X0 ++ ⟨#[46]⟩ ++ X1 ++ ⟨#[46]⟩)) W := fun W => run_string_add_sum W _ _ (by simp only [ByteArray.size_append]; omega)
  have a4 : ∀ W, (Op.stringOp .add (X0 ++ ⟨#[46]⟩ ++ X1 ++ ⟨#[46]⟩) X2).run Tryd.prog W = .ok (.string (X0 ++ ⟨#[46]⟩ ++ X1 ++ ⟨#[46]⟩ ++ X2)) W := fun W => run_string_add_sum W _ _ (by simp only [ByteArray.size_append]; omega)
  have a5 : ∀ W, (Op.stringOp .add (X0 ++ ⟨#[46]⟩ ++ X1 ++ ⟨#[46]⟩ ++ X2) ⟨#[46]⟩).run Tryd.prog W = .ok (.string (X0 ++ ⟨#[46]⟩ ++ X1 ++ ⟨#[46]⟩ ++ X2 ++ ⟨#[46]⟩)) W := fun W => run_string_add_sum W _ _ (by simp only [ByteArray.size_append]; omega)
  have a6 : ∀ W, (Op.stringOp .add (X0 ++ ⟨#[46]⟩ ++ X1 ++ ⟨#[46]⟩ ++ X2 ++ ⟨#[46]⟩) X3).run Tryd.prog W = .ok (.string R) W := fun W => by rw [run_string_add_sum W _ _ (by simp only [ByteArray.size_append]; omega), E.out]
  clear l0 l1 l2 l3 dot h4 E
  go_enter Tryd.func13, Tryd.ntmps13
  go_wp2_with fail
  refine (C.out _).mono ?_; rintro e w' ⟨rfl, rfl⟩
  go_wp2_with fail
  refine wp_region_quiet_below (by kernel_rfl) (by kernel_rfl) ?_
  repeat (quiet_step (first | with_reducible exact D0 _ _ | with_reducible exact D1 _ _ | with_reducible exact D2 _ _ | with_reducible exact D3 _ _))
  refine wpQuiet_nil ?_
  intro _ hw'
  obtain ⟨⟨dq, osq⟩, hw''⟩ := hw'
  subst hw''
  go_wp2_with fail
  go_ret2
  exact ⟨rfl, below_regrown w dq osq⟩

end Go.Proofs.YtggahoocgijdkaaDoor.RefPrint4
