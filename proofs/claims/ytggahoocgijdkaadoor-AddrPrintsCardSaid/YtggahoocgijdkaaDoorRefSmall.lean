/- The reference: Is, Compare, hex, dec. -/
import Derived.Test.YtggahoocgijdkaaDoorRefParse
import Derived.Test.YtggahoocgijdkaaDoorOrd
import Derived.WalkLawsBesides
set_option linter.unusedVariables false
namespace Go.Proofs.YtggahoocgijdkaaDoor.RefSmall
open Go.RowKit Go.PlainAid Go.Proofs.YtggahoocgijdkaaDoor.Std Go.Proofs.YtggahoocgijdkaaDoor.Grp Go.Proofs.YtggahoocgijdkaaDoor.Arr Go.Proofs.YtggahoocgijdkaaDoor.Fmt Go.Proofs.YtggahoocgijdkaaDoor.Cmp Go.Proofs.YtggahoocgijdkaaDoor.Run Go.Proofs.YtggahoocgijdkaaDoor.Print Go.Proofs.YtggahoocgijdkaaDoor.Digits

theorem is_yes (s : ByteArray) (h : s.size = 4 ∨ s.size = 16) (w : World) :
    Calls Tryd.prog 30 #[.string s] w fun e w' => e = .returned (.bool true) ∧ w = w' := by
  rcases h with h | h
  · have g4 : ((s.size : Int) == 4) = true := by rw [beq_iff_eq]; omega
    go_enter Tryd.func30, Tryd.ntmps30
    go_wp2_with fail
    go_ret
    exact ⟨rfl, rfl⟩
  · have g4 : ((s.size : Int) == 4) = false := by rw [beq_eq_false_iff_ne]; omega
    have g6 : ((s.size : Int) == 16) = true := by rw [beq_iff_eq]; omega
    go_enter Tryd.func30, Tryd.ntmps30
    go_wp2_with fail
    go_ret
    exact ⟨rfl, rfl⟩
theorem is_no (s : ByteArray) (h4 : s.size ≠ 4) (h6 : s.size ≠ 16) (w : World) :
    Calls Tryd.prog 30 #[.string s] w fun e w' => e = .returned (.bool false) ∧ w = w' := by
  have g4 : ((s.size : Int) == 4) = false := by rw [beq_eq_false_iff_ne]; omega
  have g6 : ((s.size : Int) == 16) = false := by rw [beq_eq_false_iff_ne]; omega
  go_enter Tryd.func30, Tryd.ntmps30
  go_wp2_with fail
  go_ret
  exact ⟨rfl, rfl⟩

theorem cmp_len (a b : ByteArray) (ha : a.size ≤ 300) (hb : b.size ≤ 300) (h : a.size ≠ b.size) (w : World) :
    Calls Tryd.prog 19 #[.string a, .string b] w fun e w' => e = .returned (.int .i64 (if a.size < b.size then -1 else 1)) ∧ w = w' := by
  have g : ((a.size : Int) != (b.size : Int)) = true := by simp; omega
  by_cases hl : a.size < b.size
  · have e := Lib.hid (show (if a.size < b.size then (-1 : Int) else 1) = -1 from if_pos hl)
    go_enter Tryd.func19, Tryd.ntmps19
    go_wp2_with fail
    go_ret
    exact ⟨rfl, rfl⟩
  · have e := Lib.hid (show (if a.size < b.size then (-1 : Int) else 1) = 1 from if_neg hl)
    go_enter Tryd.func19, Tryd.ntmps19
    go_wp2_with fail
    go_ret
    exact ⟨rfl, rfl⟩

theorem less_iff : ∀ a b : List UInt8, Op.bytesLess a b = decide (Lib.compareBytes a b = -1)
  | [], [] => by decide
  | [], _ :: _ => by simp [Op.bytesLess, Lib.compareBytes]
  | _ :: _, [] => by simp [Op.bytesLess, Lib.compareBytes]
  | x :: a, y :: b => by
    have ih := less_iff a b
    unfold Op.bytesLess Lib.compareBytes
    by_cases h1 : x < y
    · simp [h1]
    · by_cases h2 : y < x
      · have h3 : x ≠ y := fun e => by subst e; exact absurd h2 (by rw [UInt8.lt_iff_toNat_lt]; omega)
        simp [h1, h2, h3]
      · have : x = y := UInt8.toNat_inj.1 (by rw [UInt8.lt_iff_toNat_lt] at *; omega)
        subst this
        simp [h1, ih]
theorem cmp_same (a b : ByteArray) (ha : a.size ≤ 300) (hb : b.size ≤ 300) (h : a.size = b.size) (w : World) :
    Calls Tryd.prog 19 #[.string a, .string b] w fun e w' => e = .returned (.int .i64 (Lib.compareBytes a.data.toList b.data.toList)) ∧ w = w' := by
  have g : ((a.size : Int) != (b.size : Int)) = false := by simp; omega
  have hl0 := less_iff a.toList b.toList
  have hz : (a.toList == b.toList) = decide (Lib.compareBytes a.data.toList b.data.toList = 0) := by
    rw [← ByteArray.toList_eq, ← ByteArray.toList_eq, Bool.eq_iff_iff, beq_iff_eq, decide_eq_true_eq]
    exact (Ord.cb_zero _ _).symm
  have hi := Ord.cb_in a.data.toList b.data.toList
  have hl : Op.bytesLess a.toList b.toList = decide (Lib.compareBytes a.data.toList b.data.toList = -1) := by rw [hl0, ByteArray.toList_eq, ByteArray.toList_eq]
  clear h hl0
  rcases hi with e | e | e
  all_goals
    rw [e] at hl hz ⊢
    clear e
    go_enter Tryd.func19, Tryd.ntmps19
    go_wp2_with fail
    go_ret
    exact ⟨rfl, rfl⟩
theorem ref_cmp (a b : ByteArray) (ha : a.size ≤ 300) (hb : b.size ≤ 300) (w : World) :
    Calls Tryd.prog 19 #[.string a, .string b] w fun e w' => e = .returned (.int .i64 (ordS a b)) ∧ w = w' := by
  rcases Ord.ord_cases a b with ⟨h, e⟩ | ⟨h, e⟩ | ⟨h, e⟩
  · have := cmp_len a b ha hb (by omega) w
    rw [if_pos h] at this
    rw [e]; exact this
  · have := cmp_len a b ha hb (by omega) w
    rw [if_neg (by omega)] at this
    rw [e]; exact this
  · rw [e]; exact cmp_same a b ha hb h w

theorem hex_one : ∀ x : Fin 16, (⟨#[48, 49, 50, 51, 52, 53, 54, 55, 56, 57, 97, 98, 99, 100, 101, 102]⟩ : ByteArray).extract x.val (x.val + 1) = ⟨(hexs x.val).toArray⟩ := by decide +kernel
set_option maxRecDepth 100000 in
set_option maxHeartbeats 2000000 in
theorem hex_any (n : Nat) : ∀ (x : Nat), x < n → x ≤ 65535 → ∀ w : World,
    Calls Tryd.prog 33 #[.int .i64 x] w fun e w' => e = .returned (.string ⟨(hexs x).toArray⟩) ∧ w = w' := by
  induction n with
  | zero => intro x h; omega
  | succ n ih =>
    intro x hx hm w
    by_cases h : x < 16
    · have e := hex_one ⟨x, h⟩
      have hsl : ∀ W : World, (Instr.slice 9 (.string ⟨#[48, 49, 50, 51, 52, 53, 54, 55, 56, 57, 97, 98, 99, 100, 101, 102]⟩) (some (.int .i64 (x : Int))) (some (.int .i64 ((x : Int) + 1))) none).run Tryd.prog W = .ok (.string ⟨(hexs x).toArray⟩) W := fun W => by
        rw [run_slice_string (P := Tryd.prog) W 9 _ .i64 .i64 (x : Int) ((x : Int) + 1) Tryd.underlying9 (by omega) (by omega) (by rw [show (⟨#[48, 49, 50, 51, 52, 53, 54, 55, 56, 57, 97, 98, 99, 100, 101, 102]⟩ : ByteArray).size = 16 from rfl]; omega)]
        rw [show (x : Int).toNat = x by omega, show ((x : Int) + 1).toNat = x + 1 by omega]
        exact congrArg (fun s => Result.ok (Value.string s) W) e
      clear e
      generalize (⟨(hexs x).toArray⟩ : ByteArray) = q at hsl ⊢
      go_enter Tryd.func33, Tryd.ntmps33
      go_wp2_with fail
      go_ret
      exact ⟨rfl, rfl⟩
    · have I1 : RowKit.Hid (∀ W : World, Calls Tryd.prog 33 #[.int .i64 ((x : Int) / 16)] W fun e w' => e = .returned (.string ⟨(hexs (x / 16)).toArray⟩) ∧ W = w') := Lib.hid (ih (x / 16) (by omega) (by omega))
      have I2 : RowKit.Hid (∀ W : World, Calls Tryd.prog 33 #[.int .i64 ((x : Int) % 16)] W fun e w' => e = .returned (.string ⟨(hexs (x % 16)).toArray⟩) ∧ W = w') := Lib.hid (ih (x % 16) (by omega) (by omega))
      have e : RowKit.Hid ((⟨(hexs (x / 16)).toArray⟩ : ByteArray) ++ ⟨(hexs (x % 16)).toArray⟩ = ⟨(hexs x).toArray⟩) := Lib.hid (by
        rw [ByteArray.mk_append_mk]
        unfold hexs
        rw [hexN_step (n := x) (by omega), hexN_small (n := x % 16) (by omega)]
        simp)
      have l1 := hexs_len (x / 16) (by omega)
      have l2 := hexs_len (x % 16) (by omega)
      have hadd : ∀ W, (Op.stringOp .add ⟨(hexs (x / 16)).toArray⟩ ⟨(hexs (x % 16)).toArray⟩).run Tryd.prog W = .ok (.string ⟨(hexs x).toArray⟩) W := fun W => by
        rw [run_string_add_sum W _ _ (by rw [Parse.bsz, Parse.bsz]; omega), e.out]
      clear ih l1 l2
      generalize (⟨(hexs (x / 16)).toArray⟩ : ByteArray) = q1 at I1 hadd
      generalize (⟨(hexs (x % 16)).toArray⟩ : ByteArray) = q2 at I2 hadd
      generalize (⟨(hexs x).toArray⟩ : ByteArray) = q3 at hadd ⊢
      clear e
      go_enter Tryd.func33, Tryd.ntmps33
      go_wp2_with fail
      refine (I1.out _).mono ?_; rintro e1 w1 ⟨rfl, rfl⟩
      go_wp2_with fail
      refine (I2.out _).mono ?_; rintro e1 w1 ⟨rfl, rfl⟩
      go_wp2_with fail
      go_ret
      exact ⟨rfl, rfl⟩

end Go.Proofs.YtggahoocgijdkaaDoor.RefSmall
