/- The longest run of zero groups; the text of sixteen bytes. -/
import Derived.Test.YtggahoocgijdkaaDoorDigits
import Derived.Deep.RegionHeld3
set_option linter.unusedVariables false
namespace Go.Proofs.YtggahoocgijdkaaDoor.Run
open Go.RowKit Go.Proofs.YtggahoocgijdkaaDoor.Std Go.Proofs.YtggahoocgijdkaaDoor.Row Go.Proofs.YtggahoocgijdkaaDoor.Fmt Go.Proofs.YtggahoocgijdkaaDoor.Arr Go.Proofs.YtggahoocgijdkaaDoor.Digits

/-- One place more is looked at. -/
def runStep (l : List Nat) (k : Nat) (r : Nat × Nat) : Nat × Nat := if r.2 < zerosN (l.drop k) then (k, zerosN (l.drop k)) else r
def runUpto (l : List Nat) : Nat → Nat × Nat
  | 0 => (0, 0)
  | k + 1 => runStep l k (runUpto l k)
/-- Where the first one of the longest runs begins, and how long it is. -/
def runN (l : List Nat) : Nat × Nat := runUpto l 8

theorem run_le (l : List Nat) (hl : l.length = 8) : ∀ k, k ≤ 8 → (runUpto l k).1 + (runUpto l k).2 ≤ 8 ∧ (runUpto l k).1 ≤ 8
  | 0, _ => by simp [runUpto]
  | k + 1, hk => by
    have ih := run_le l hl k (by omega)
    unfold runUpto runStep
    have := zerosN_le (l.drop k)
    rw [List.length_drop, hl] at this
    split
    · simp only; omega
    · exact ih

theorem has_from {w : World} {g : Nat} {l : List Nat} (h : Blk w g 49 (arr l)) (j : Nat) (hj : j ≤ 8) (hl : l.length = 8) : Has w (some ⟨g, if j = 8 then 0 else j, none⟩) (l.drop j) := fun k x hk => by
  have hlt := (List.getElem?_eq_some_iff.1 hk).1
  rw [List.length_drop, hl] at hlt
  rw [if_neg (by omega)]
  refine ⟨g, j, rfl, h.lt, ?_⟩
  rw [h.cell, arr_get]
  rw [List.getElem?_drop] at hk
  rw [hk]
  rfl

theorem run_any (l : List Nat) (hl : l.length = 8) (w : World) :
    Calls Tryd.prog 48 #[.agg (arr l)] w fun e w' => e = .returned (.tuple #[.int .i64 (runN l).1, .int .i64 (runN l).2]) ∧ Below w.heap.size w w' := by
  have HL := Lib.hid hl
  have hN : Below w.heap.size w (w.alloc (.cells (arr l) 49)) := (Below.refl _ _).alloc (Nat.le_refl _) _
  have hB : Blk (w.alloc (.cells (arr l) 49)) w.heap.size 49 (arr l) := Blk.new _ _ _
  clear hl
  go_enter Tryd.func48, Tryd.ntmps48
  go_wp2_with fail
  generalize w.alloc (.cells (arr l) 49) = W at hN hB ⊢
  go_loop [4, 5, 8] (fun a m i => ∃ k : Nat, i = .int .i64 k ∧ k ≤ 8 ∧ a = .int .i64 (runUpto l k).1 ∧ m = .int .i64 (runUpto l k).2) (fun _ _ i => 8 - (intOf i).toNat)
  case atStart => exact ⟨0, rfl, Nat.zero_le _, rfl, rfl⟩
  case round =>
    obtain ⟨k, rfl, hk, rfl, rfl⟩ := hrel
    by_cases hlt : k < 8
    · have hfrom := arr_from w.heap.size k hk
      have Z := Lib.hid (zeros_any (l.drop k) (some ⟨w.heap.size, if k = 8 then 0 else k, none⟩) (8 - k) (8 - k) (by rw [List.length_drop, HL.out]) (by omega) W (has_from hB k hk HL.out))
      rw [if_neg (by omega)] at Z
      have hfrom := fun W' => hfrom W'
      simp only [show ¬ k = 8 by omega, if_false] at hfrom
      have hs : Hid (runUpto l (k + 1) = runStep l k (runUpto l k)) := Lib.hid rfl
      generalize hr : runUpto l k = r at hs
      obtain ⟨r1, r2⟩ := r
      by_cases hgt : r2 < zerosN (l.drop k)
      · have E := Lib.hid (hs.out.trans (show runStep l k (r1, r2) = (k, zerosN (l.drop k)) from if_pos hgt))
        generalize zerosN (l.drop k) = z at hgt E Z
        clear hs hr
        go_wp2_with fail
        refine Z.out.mono ?_; rintro e w' ⟨rfl, rfl⟩
        go_wp2_with fail
        go_round
        case rel => exact ⟨k + 1, by go_num, hlt, by rw [E.out], by rw [E.out]⟩
        case measure => simp [intOf]; omega
      · have E := Lib.hid (hs.out.trans (show runStep l k (r1, r2) = (r1, r2) from if_neg hgt))
        generalize zerosN (l.drop k) = z at hgt E Z
        clear hs hr
        go_wp2_with fail
        refine Z.out.mono ?_; rintro e w' ⟨rfl, rfl⟩
        go_wp2_with fail
        go_round
        case rel => exact ⟨k + 1, by go_num, hlt, by rw [E.out], by rw [E.out]⟩
        case measure => simp [intOf]; omega
    · have e : k = 8 := by omega
      subst e
      go_wp2_with fail
      go_ret2
      exact ⟨rfl, hN⟩

/-- The text of eight groups. -/
def sixT (l : List Nat) : List UInt8 := if (runN l).2 < 2 then digs l else digs (l.take (runN l).1) ++ [58, 58] ++ digs (l.drop ((runN l).1 + (runN l).2))

theorem digs_len (l : List Nat) (n : Nat) (hl : l.length = n) (hn : n ≤ 8) (hz : ∀ z ∈ l, z ≤ 65535) : (digs l).length ≤ 40 := by
  have := join_le [58] (l.map hexs) 4 (fun y hy => by
    simp only [List.mem_map] at hy
    obtain ⟨z, hz', rfl⟩ := hy
    exact hexs_len z (hz z hz'))
  rw [List.length_map, hl] at this
  have e : ([58] : List UInt8).length = 1 := rfl
  rw [e] at this
  unfold digs
  omega

theorem text_join (a b : List UInt8) : ((⟨a.toArray⟩ : ByteArray) ++ ⟨#[58, 58]⟩ ++ ⟨b.toArray⟩ : ByteArray) = ⟨(a ++ [58, 58] ++ b).toArray⟩ := by
  apply ByteArray.ext
  apply Array.toList_inj.1
  simp

theorem s_on {w W w1 : World} {B : Nat} {cs : Array Value} (hb : Below W.heap.size W w1) (h : Below B w W ∧ Blk W B 49 cs ∧ Std W) : Below B w w1 ∧ Blk w1 B 49 cs ∧ Std w1 :=
  ⟨h.1.trans (hb.mono (Nat.le_of_lt h.2.1.lt)), h.2.1.below hb h.2.1.lt, h.2.2.keep hb⟩
theorem s_drew {w W : World} {B : Nat} {cs : Array Value} (h : Below B w W ∧ Blk W B 49 cs ∧ Std W) : Below B w W.drew ∧ Blk W.drew B 49 cs ∧ Std W.drew :=
  ⟨h.1.drew, h.2.1, h.2.2.keep (Below.drew (Below.refl _ _))⟩

set_option maxHeartbeats 2000000 in
theorem print6_any (l : List Nat) (hl : l.length = 8) (hz : ∀ z ∈ l, z ≤ 65535) (w : World) (h : Std w) :
    Calls Tryd.prog 28 #[.agg (arr l)] w fun e w' => e = .returned (.string ⟨(sixT l).toArray⟩) ∧ Below w.heap.size w w' := by
  have hN : Below w.heap.size w (w.alloc (.cells (arr l) 49)) := (Below.refl _ _).alloc (Nat.le_refl _) _
  have hB : Blk (w.alloc (.cells (arr l) 49)) w.heap.size 49 (arr l) := Blk.new _ _ _
  have hS := h.alloc (.cells (arr l) 49)
  have RN := Lib.hid (fun W => run_any l hl W)
  have e : sixT l = if (runN l).2 < 2 then digs l else digs (l.take (runN l).1) ++ [58, 58] ++ digs (l.drop ((runN l).1 + (runN l).2)) := rfl
  have r8 := run_le l hl 8 (Nat.le_refl _)
  change (runN l).1 + (runN l).2 ≤ 8 ∧ (runN l).1 ≤ 8 at r8
  generalize hrn : runN l = r at RN e r8
  obtain ⟨p, n⟩ := r
  simp only at RN e r8
  obtain ⟨r1, r2⟩ := r8
  have HL := Lib.hid hl
  have HZ := Lib.hid hz
  clear hl hz hrn
  have lens := hN.size
  by_cases h2 : n < 2
  · have E := Lib.hid (e.trans (if_pos h2))
    have D := Lib.hid (fun (W : World) (hx : Below w.heap.size w W ∧ Blk W w.heap.size 49 (arr l) ∧ Std W) => digits_any l (some ⟨w.heap.size, 0, none⟩) 8 8 HL.out (Nat.le_refl _) HZ.out W (by have := has_from hx.2.1 0 (by omega) HL.out; simpa using this) hx.2.2)
    have hall := arr_all w.heap.size
    clear e
    go_enter Tryd.func28, Tryd.ntmps28
    go_wp2_with (refine wpList_load_row rfl _ _ rfl w.heap.size rfl 49 (arr l) (0, 0) _ hB (Tryd.underlying49) rfl (by rw [arr_size, HL.out]; kernel_rfl) ?_)
    generalize w.alloc (.cells (arr l) 49) = W at hN hB hS lens ⊢
    have HX := Lib.hid (show Below w.heap.size w W ∧ Blk W w.heap.size 49 (arr l) ∧ Std W from ⟨hN, hB, hS⟩)
    clear hN hB hS
    refine (RN.out _).mono ?_
    rintro e w1 ⟨rfl, hb1⟩
    have HX1 := Lib.hid (s_on hb1 HX.out)
    go_wp2_with fail
    refine (D.out _ HX1.out).mono ?_
    rintro e w2 ⟨rfl, hb2⟩
    have HX2 := Lib.hid (s_on hb2 HX1.out)
    go_wp2_with fail
    go_ret
    exact ⟨by rw [E.out]; rfl, HX2.out.1⟩
  · have E := Lib.hid ((e.trans (if_neg h2)).symm)
    have D1 := Lib.hid (fun (W : World) (hx : Below w.heap.size w W ∧ Blk W w.heap.size 49 (arr l) ∧ Std W) => digits_any (l.take p) (some ⟨w.heap.size, 0, none⟩) p 8 (by rw [List.length_take, HL.out]; omega) r2 (fun z hz => HZ.out z (List.mem_of_mem_take hz)) W (fun k x hk => by
      have := has_from hx.2.1 0 (by omega) HL.out k x (by rw [List.drop_zero]; rw [List.getElem?_take] at hk; split at hk; exact hk; cases hk)
      simpa using this) hx.2.2)
    have D2 := Lib.hid (fun (W : World) (hx : Below w.heap.size w W ∧ Blk W w.heap.size 49 (arr l) ∧ Std W) => digits_any (l.drop (p + n)) (some ⟨w.heap.size, if p + n = 8 then 0 else p + n, none⟩) (8 - (p + n)) (8 - (p + n)) (by rw [List.length_drop, HL.out]) (by omega) (fun z hz => HZ.out z (List.mem_of_mem_drop hz)) W (has_from hx.2.1 (p + n) r1 HL.out) hx.2.2)
    have hto := arr_to w.heap.size p r2
    have hfrom := arr_from w.heap.size (p + n) r1
    rw [show ((p + n : Nat) : Int) = (p : Int) + (n : Int) by omega] at hfrom
    generalize (if p + n = 8 then 0 else p + n) = off at D2 hfrom
    generalize 8 - (p + n) = m at D2 hfrom
    have lx := digs_len (l.take p) p (by rw [List.length_take, HL.out]; omega) r2 (fun z hz => HZ.out z (List.mem_of_mem_take hz))
    have ly := digs_len (l.drop (p + n)) (8 - (p + n)) (by rw [List.length_drop, HL.out]) (by omega) (fun z hz => HZ.out z (List.mem_of_mem_drop hz))
    have ew : IntKind.i64.wrap ((p : Int) + (n : Int)) = (p : Int) + (n : Int) := IntWalk.i64_in _ (by omega)
    generalize digs (l.take p) = x at D1 E lx
    generalize digs (l.drop (p + n)) = y at D2 E ly
    have lx' : (⟨x.toArray⟩ : ByteArray).size ≤ 40 := by show x.toArray.size ≤ 40; rw [List.size_toArray]; exact lx
    have ly' : (⟨y.toArray⟩ : ByteArray).size ≤ 40 := by show y.toArray.size ≤ 40; rw [List.size_toArray]; exact ly
    have EE : Hid ((⟨x.toArray⟩ : ByteArray) ++ ⟨#[58, 58]⟩ ++ ⟨y.toArray⟩ = ⟨(sixT l).toArray⟩) := Lib.hid (by rw [text_join, E.out])
    generalize (⟨x.toArray⟩ : ByteArray) = X at D1 EE lx'
    generalize (⟨y.toArray⟩ : ByteArray) = Y at D2 EE ly'
    clear lx ly
    have ha1 : ∀ W, (Op.stringOp .add X ⟨#[58, 58]⟩).run Tryd.prog W = .ok (.string (X ++ ⟨#[58, 58]⟩)) W := fun W => run_string_add_sum W _ _ (by
      have : (⟨#[58, 58]⟩ : ByteArray).size = 2 := rfl
      omega)
    have ha2 : ∀ W, (Op.stringOp .add (X ++ ⟨#[58, 58]⟩) Y).run Tryd.prog W = .ok (.string (X ++ ⟨#[58, 58]⟩ ++ Y)) W := fun W => run_string_add_sum W _ _ (by
      have : (⟨#[58, 58]⟩ : ByteArray).size = 2 := rfl
      rw [ByteArray.size_append]
      omega)
    clear e
    go_enter Tryd.func28, Tryd.ntmps28
    go_wp2_with (refine wpList_load_row rfl _ _ rfl w.heap.size rfl 49 (arr l) (0, 0) _ hB (Tryd.underlying49) rfl (by rw [arr_size, HL.out]; kernel_rfl) ?_)
    generalize w.alloc (.cells (arr l) 49) = W at hN hB hS lens ⊢
    have HX := Lib.hid (show Below w.heap.size w W ∧ Blk W w.heap.size 49 (arr l) ∧ Std W from ⟨hN, hB, hS⟩)
    clear hN hB hS
    refine (RN.out _).mono ?_
    rintro e w1 ⟨rfl, hb1⟩
    have hX1 := s_on hb1 HX.out
    clear hb1 HX
    go_wp2_with fail
    go_region_held3 (fun w' => Below w.heap.size w w' ∧ Blk w' w.heap.size 49 (arr l) ∧ Std w')
      (first | exact s_drew (by assumption) | exact s_on (by assumption) (by assumption))
      (first
        | (go_at_call 49; (with_reducible refine (D1.out _ ?_).mono ?_); assumption; rintro e w2 ⟨rfl, hb⟩)
        | (go_at_call 49; (with_reducible refine (D2.out _ ?_).mono ?_); assumption; rintro e w2 ⟨rfl, hb⟩))
    all_goals
      have hB := (show Below w.heap.size w w2 ∧ _ ∧ _ by assumption).1
      clear ha1 ha2 hto hfrom hX1
      go_wp2_with fail
      go_ret
      exact ⟨by rw [← EE.out]; rfl, hB⟩

end Go.Proofs.YtggahoocgijdkaaDoor.Run
