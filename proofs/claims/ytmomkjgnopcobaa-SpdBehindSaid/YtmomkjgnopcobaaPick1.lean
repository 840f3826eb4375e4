/- The code's within, isAddress, hasPorts, anywhere; addr.Compare. -/
import Derived.Test.YtmomkjgnopcobaaPickR1
import Derived.Test.YtmomkjgnopcobaaShelf
set_option linter.unusedVariables false
namespace Go.Proofs.Ytmomkjgnopcobaa.Pick1
open Go.RowKit Go.Proofs.Ytmomkjgnopcobaa.Mem Go.Proofs.Ytmomkjgnopcobaa.Blk Go.Proofs.Ytmomkjgnopcobaa.Ahead Go.Proofs.Ytmomkjgnopcobaa.PickD Go.Proofs.Ytmomkjgnopcobaa.PickR1

open Go.Lib (compareBytes compareInt)
def isA (a : ByteArray) : Bool := decide (a.size = 4) || decide (a.size = 16)
theorem paired_isA (a b : ByteArray) : paired a b = (isA a && decide (a.size = b.size)) := by
  unfold paired isA
  rw [Bool.and_comm]
theorem within_i (x l h : Int) (w : World) : Calls Try.prog 33 #[.int .i64 x, .int .i64 l, .int .i64 h] w fun e w' => e = .returned (.bool (decide (l ≤ x) && decide (x ≤ h))) ∧ w = w' := by
  obtain ⟨r, hr⟩ : ∃ r, r = (decide (l ≤ x) && decide (x ≤ h)) := ⟨_, rfl⟩
  rw [← hr]
  obtain ⟨a, ha⟩ : ∃ a, decide (l ≤ x) = a := ⟨_, rfl⟩
  obtain ⟨b, hb⟩ : ∃ b, decide (x ≤ h) = b := ⟨_, rfl⟩
  rw [ha, hb] at hr
  have E := Lib.hid hr
  clear hr
  cases a <;> cases b
  all_goals
    go_enter Try.func33, Try.ntmps33
    go_wp2_with fail
    go_ret
    exact ⟨by rw [E.out]; rfl, rfl⟩
theorem within_s (x l h : ByteArray) (w : World) : Calls Try.prog 36 #[.string x, .string l, .string h] w fun e w' => e = .returned (.bool (!lt x l && !lt h x)) ∧ w = w' := by
  obtain ⟨r, hr⟩ : ∃ r, r = (!lt x l && !lt h x) := ⟨_, rfl⟩
  rw [← hr]
  have r1 := run_leq l x
  have r2 := run_leq x h
  generalize lt x l = a at *
  generalize lt h x = b at *
  have E := Lib.hid hr
  clear hr
  cases a <;> cases b
  all_goals
    go_enter Try.func36, Try.ntmps36
    go_wp2_with (first | simp only [r1] | simp only [r2])
    go_ret
    exact ⟨by rw [E.out]; rfl, rfl⟩
theorem addr_code (a : ByteArray) (w : World) : Calls Try.prog 39 #[.string a] w fun e w' => e = .returned (.bool (isA a)) ∧ w = w' := by
  by_cases h4 : a.size = 4
  · have g2 : ((a.size : Int) == 4) = true := by rw [beq_iff_eq]; omega
    have E : Hid (isA a = true) := Lib.hid (by unfold isA; simp [h4])
    clear h4
    go_enter Try.func39, Try.ntmps39
    go_wp2_with fail
    go_ret
    exact ⟨by rw [E.out]; rfl, rfl⟩
  · have g2 : ((a.size : Int) == 4) = false := by rw [beq_eq_false_iff_ne]; omega
    by_cases h6 : a.size = 16
    · have g3 : ((a.size : Int) == 16) = true := by rw [beq_iff_eq]; omega
      have E : Hid (isA a = true) := Lib.hid (by unfold isA; simp [h6])
      clear h4 h6
      go_enter Try.func39, Try.ntmps39
      go_wp2_with fail
      go_ret
      exact ⟨by rw [E.out]; rfl, rfl⟩
    · have g3 : ((a.size : Int) == 16) = false := by rw [beq_eq_false_iff_ne]; omega
      have E : Hid (isA a = false) := Lib.hid (by unfold isA; simp [h4, h6])
      clear h4 h6
      go_enter Try.func39, Try.ntmps39
      go_wp2_with fail
      go_ret
      exact ⟨by rw [E.out]; rfl, rfl⟩
theorem any_code (l h : ByteArray) (w : World) : Calls Try.prog 35 #[.agg #[.string l, .string h]] w fun e w' => e = .returned (.bool (emp l && emp h)) ∧ Below w.heap.size w w' := by
  obtain ⟨r, hr⟩ : ∃ r, r = (emp l && emp h) := ⟨_, rfl⟩
  rw [← hr]
  unfold emp at hr
  have B0 := Lib.hid ((Below.refl w.heap.size w).alloc (Nat.le_refl _) (.cells #[.string l, .string h] 29))
  have K0 := Lib.hid (Blk.new w 29 #[.string l, .string h])
  have k0 := K0.out.cell 0
  have k1 := K0.out.cell 1
  clear K0
  obtain ⟨x, g1⟩ : ∃ x, l.toList.isEmpty = x := ⟨_, rfl⟩
  obtain ⟨y, g2⟩ : ∃ y, h.toList.isEmpty = y := ⟨_, rfl⟩
  rw [g1, g2] at hr
  have E := Lib.hid hr
  clear hr
  cases x <;> cases y
  all_goals
    go_enter Try.func35, Try.ntmps35
    go_wp2_with fail
    go_ret
    exact ⟨by rw [E.out]; rfl, B0.out⟩

/-- addr.Compare of two texts of one length. -/
theorem cb_le : ∀ a b : List UInt8, decide (compareBytes a b ≤ 0) = !Op.bytesLess b a
  | [], [] => by decide
  | [], y :: b => by simp [compareBytes, Op.bytesLess]
  | x :: a, [] => by simp [compareBytes, Op.bytesLess]
  | x :: a, y :: b => by
    have ih := cb_le a b
    unfold compareBytes Op.bytesLess
    by_cases h1 : x < y
    · have h2 : ¬ y < x := fun e => by rw [UInt8.lt_iff_toNat_lt] at *; omega
      have h3 : ¬ y = x := fun e => by subst e; exact h2 h1
      simp [h1, h2, h3]
    · by_cases h2 : y < x
      · simp [h1, h2]
      · have h3 : x = y := by
          rw [UInt8.lt_iff_toNat_lt] at *
          exact UInt8.toNat_inj.1 (by omega)
        subst h3
        simp [UInt8.lt_irrefl]
        simpa using ih
def orI (x y : Int) : Int := if x = 0 then y else x
theorem or_some (x y : Int) (g : Nat) (w : World) (hx : (x != 0) = true) (h0 : w.cell? ⟨g, 0, none⟩ = some (.int .i64 x)) :
    Calls Try.prog 42 #[.slice (some ⟨g, 0, none⟩) 2 2] w fun e w' => e = .returned (.int .i64 x) ∧ w = w' := by
  have hx' : ¬ x = 0 := by simpa using hx
  go_enter Try.func42, Try.ntmps42
  go_wp2
  go_loop [8] (fun i => i = .int .i64 0) (fun i => 2 - (intOf i).toNat)
  case atStart => rfl
  case round =>
    subst hrel
    go_wp2
    go_ret
    exact ⟨rfl, rfl⟩

theorem or_next (y : Int) (g : Nat) (w : World) (h0 : w.cell? ⟨g, 0, none⟩ = some (.int .i64 0)) (h1 : w.cell? ⟨g, 1, none⟩ = some (.int .i64 y)) :
    Calls Try.prog 42 #[.slice (some ⟨g, 0, none⟩) 2 2] w fun e w' => e = .returned (.int .i64 y) ∧ w = w' := by
  by_cases hy : y = 0
  · subst hy
    go_enter Try.func42, Try.ntmps42
    go_wp2
    go_loop [8] (fun i => ∃ k : Nat, k ≤ 2 ∧ i = .int .i64 k) (fun i => 2 - (intOf i).toNat)
    case atStart => exact ⟨0, by omega, rfl⟩
    case round =>
      obtain ⟨k, hk, rfl⟩ := hrel
      have : k = 0 ∨ k = 1 ∨ k = 2 := by omega
      rcases this with rfl | rfl | rfl
      · go_wp2
        go_round
        case rel => exact ⟨1, by omega, rfl⟩
        case measure => simp [intOf]
      · go_wp2
        go_round
        case rel => exact ⟨2, by omega, rfl⟩
        case measure => simp [intOf]
      · go_wp2
        go_ret
        exact ⟨rfl, rfl⟩
  · have hy' : (y != 0) = true := by simpa using hy
    go_enter Try.func42, Try.ntmps42
    go_wp2
    go_loop [8] (fun i => ∃ k : Nat, k ≤ 1 ∧ i = .int .i64 k) (fun i => 2 - (intOf i).toNat)
    case atStart => exact ⟨0, by omega, rfl⟩
    case round =>
      obtain ⟨k, hk, rfl⟩ := hrel
      have : k = 0 ∨ k = 1 := by omega
      rcases this with rfl | rfl
      · go_wp2
        go_round
        case rel => exact ⟨1, by omega, rfl⟩
        case measure => simp [intOf]
      · go_wp2
        go_ret
        exact ⟨rfl, rfl⟩

theorem or_any (x y : Int) (g : Nat) (w : World) (h0 : w.cell? ⟨g, 0, none⟩ = some (.int .i64 x)) (h1 : w.cell? ⟨g, 1, none⟩ = some (.int .i64 y)) :
    Calls Try.prog 42 #[.slice (some ⟨g, 0, none⟩) 2 2] w fun e w' => e = .returned (.int .i64 (orI x y)) ∧ w = w' := by
  by_cases hx : x = 0
  · subst hx
    exact or_next y g w h0 h1
  · have e : orI x y = x := by unfold orI; rw [if_neg hx]
    rw [e]
    exact or_some x y g w (by simpa using hx) h0

theorem compare_code (a b : ByteArray) (h : a.size = b.size) (w : World) :
    Calls Try.prog 40 #[.string a, .string b] w fun e w' => ∃ r : Int, e = .returned (.int .i64 r) ∧ decide (r ≤ 0) = !lt b a ∧ Below w.heap.size w w' := by
  have C1 := Lib.hid (fun W => Try.cmp_Compare_int (a.size : Int) (b.size : Int) W)
  have C2 := Lib.hid (fun W => Try.strings_Compare a b W)
  have e1 : compareInt (a.size : Int) (b.size : Int) = 0 := by unfold compareInt; rw [h, if_neg (by omega), if_neg (by omega)]
  have e2 : Hid (decide (compareBytes a.data.toList b.data.toList ≤ 0) = !lt b a) := Lib.hid (by
    rw [cb_le]
    unfold lt
    rw [ByteArray.toList_eq, ByteArray.toList_eq])
  rw [e1] at C1
  generalize compareBytes a.data.toList b.data.toList = y at C2 e2
  have e3 : orI 0 y = y := rfl
  have hN : Hid (Below w.heap.size w (w.alloc (.cells #[.int .i64 0, .int .i64 y] 3))) := Lib.hid ((Below.refl _ _).alloc (Nat.le_refl _) _)
  have O := Lib.hid (or_any 0 y w.heap.size (w.alloc (.cells #[.int .i64 0, .int .i64 y] 3)) ((Blk.new w 3 #[.int .i64 0, .int .i64 y]).cell 0) ((Blk.new w 3 #[.int .i64 0, .int .i64 y]).cell 1))
  rw [e3] at O
  clear e1 e3 h
  go_enter Try.func40, Try.ntmps40
  go_wp2_with fail
  refine (C1.out _).mono ?_; rintro e w' ⟨rfl, rfl⟩
  go_wp2_with fail
  refine (C2.out _).mono ?_; rintro e w' ⟨rfl, rfl⟩
  go_wp2_with fail
  refine O.out.mono ?_; rintro e w' ⟨rfl, rfl⟩
  go_wp2_with fail
  go_ret
  exact ⟨y, rfl, e2.out, hN.out⟩
end Go.Proofs.Ytmomkjgnopcobaa.Pick1
