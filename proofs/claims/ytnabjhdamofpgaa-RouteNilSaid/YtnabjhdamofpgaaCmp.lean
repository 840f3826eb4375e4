/- Compare. -/
import Derived.Test.YtnabjhdamofpgaaShelf
import Derived.Test.YtnabjhdamofpgaaAdrD
import Derived.Test.YtnabjhdamofpgaaM01
set_option linter.unusedVariables false
namespace Go.Proofs.Ytnabjhdamofpgaa.Cmp
open Go.RowKit Go.Proofs.Ytnabjhdamofpgaa.Blk Go.Proofs.Ytnabjhdamofpgaa.AdrD

theorem or_some (x y : Int) (g : Nat) (w : World) (hx : (x != 0) = true) (h0 : w.cell? ⟨g, 0, none⟩ = some (.int .i64 x)) :
    Calls Try.prog 38 #[.slice (some ⟨g, 0, none⟩) 2 2] w fun e w' => e = .returned (.int .i64 x) ∧ w = w' := by
  have hx' : ¬ x = 0 := by simpa using hx
  go_enter Try.func38, Try.ntmps38
  go_wp2
  go_loop [8] (fun i => i = .int .i64 0) (fun i => 2 - (intOf i).toNat)
  case atStart => rfl
  case round =>
    subst hrel
    go_wp2
    go_ret
    exact ⟨rfl, rfl⟩

theorem or_next (y : Int) (g : Nat) (w : World) (h0 : w.cell? ⟨g, 0, none⟩ = some (.int .i64 0)) (h1 : w.cell? ⟨g, 1, none⟩ = some (.int .i64 y)) :
    Calls Try.prog 38 #[.slice (some ⟨g, 0, none⟩) 2 2] w fun e w' => e = .returned (.int .i64 y) ∧ w = w' := by
  by_cases hy : y = 0
  · subst hy
    go_enter Try.func38, Try.ntmps38
    go_wp2
    go_loop [8] (fun i => ∃ k : Nat, k ≤ 2 ∧ i = .int .i64 k) (fun i => 2 - (intOf i).toNat)
    case atStart => exact ⟨0, by omega, rfl⟩
    case round =>
      obtain ⟨k, hk, rfl⟩ := hrel
      have : k = 0 ∨ k = 1 ∨ k = 2 := by omega
      rcases this with rfl | rfl | rfl
      · go_wp2
        go_round
        case rel => exact ⟨1, by omega, rfl⟩
        case measure => simp [intOf]
      · go_wp2
        go_round
        case rel => exact ⟨2, by omega, rfl⟩
        case measure => simp [intOf]
      · go_wp2
        go_ret
        exact ⟨rfl, rfl⟩
  · have hy' : (y != 0) = true := by simpa using hy
    go_enter Try.func38, Try.ntmps38
    go_wp2
    go_loop [8] (fun i => ∃ k : Nat, k ≤ 1 ∧ i = .int .i64 k) (fun i => 2 - (intOf i).toNat)
    case atStart => exact ⟨0, by omega, rfl⟩
    case round =>
      obtain ⟨k, hk, rfl⟩ := hrel
      have : k = 0 ∨ k = 1 := by omega
      rcases this with rfl | rfl
      · go_wp2
        go_round
        case rel => exact ⟨1, by omega, rfl⟩
        case measure => simp [intOf]
      · go_wp2
        go_ret
        exact ⟨rfl, rfl⟩

theorem or_any (x y : Int) (g : Nat) (w : World) (h0 : w.cell? ⟨g, 0, none⟩ = some (.int .i64 x)) (h1 : w.cell? ⟨g, 1, none⟩ = some (.int .i64 y)) :
    Calls Try.prog 38 #[.slice (some ⟨g, 0, none⟩) 2 2] w fun e w' => e = .returned (.int .i64 (orI x y)) ∧ w = w' := by
  by_cases hx : x = 0
  · subst hx
    exact or_next y g w h0 h1
  · have e : orI x y = x := by unfold orI; rw [if_neg hx]
    rw [e]
    exact or_some x y g w (by simpa using hx) h0

/-- The order of two texts. -/
theorem cmp_any (a b : ByteArray) (w : World) (ha : a.size ≤ maxLen) (hb : b.size ≤ maxLen) :
    Calls Try.prog 21 #[.string a, .string b] w fun e w' => e = .returned (.int .i64 (ordS a b)) ∧ Below w.heap.size w w' := by
  unfold maxLen at ha hb
  have C1 := Lib.hid (fun W => Try.cmp_Compare_int (a.size : Int) (b.size : Int) W)
  have C2 := Lib.hid (fun W => Try.strings_Compare a b W)
  unfold ordS
  generalize Lib.compareInt (a.size : Int) (b.size : Int) = x at C1 ⊢
  generalize Lib.compareBytes a.data.toList b.data.toList = y at C2 ⊢
  have hN : Below w.heap.size w (w.alloc (.cells #[.int .i64 x, .int .i64 y] 3)) := (Below.refl _ _).alloc (Nat.le_refl _) _
  have O := Lib.hid (or_any x y w.heap.size (w.alloc (.cells #[.int .i64 x, .int .i64 y] 3)) ((Blk.new w 3 #[.int .i64 x, .int .i64 y]).cell 0) ((Blk.new w 3 #[.int .i64 x, .int .i64 y]).cell 1))
  go_enter Try.func21, Try.ntmps21
  go_wp2_with fail
  refine (C1.out _).mono ?_; rintro e w' ⟨rfl, rfl⟩
  go_wp2_with fail
  refine (C2.out _).mono ?_; rintro e w' ⟨rfl, rfl⟩
  go_wp2_with fail
  refine O.out.mono ?_; rintro e w' ⟨rfl, rfl⟩
  go_wp2_with fail
  go_ret
  exact ⟨rfl, hN⟩

end Go.Proofs.Ytnabjhdamofpgaa.Cmp
