/- In: an address's first bits held against a prefix's. -/
import Derived.Test.YtnabjhdamofpgaaMask
import Derived.ChangeKeysEq
import Derived.Deep.QuietTactic
import Derived.BigQuiet
import Derived.Deep.RegionHeld3
set_option linter.unusedVariables false
namespace Go.Proofs.Ytnabjhdamofpgaa.In
open Go.RowKit Go.PlainAid Go.Proofs.Ytnabjhdamofpgaa.Sums Go.Proofs.Ytnabjhdamofpgaa.Mem Go.Proofs.Ytnabjhdamofpgaa.Blk Go.Proofs.Ytnabjhdamofpgaa.AdrD Go.Proofs.Ytnabjhdamofpgaa.Grp Go.Proofs.Ytnabjhdamofpgaa.Arr Go.Proofs.Ytnabjhdamofpgaa.Mask

theorem items_eq (d : Nat) (x y : List Nat) (hx : x.length = 8) (hy : y.length = 8) (w : World) : ∀ (is : List Nat), (∀ i ∈ is, i < 8) →
    (Op.eqItems (d + 1) 70 1 (arr x) (arr y) is).run Try.prog w = .ok (is.all fun i => x[i]? == y[i]?) w
  | [], _ => by simp [Op.eqItems]
  | i :: is, h => by
    have hi := h i (by simp)
    have ih := items_eq d x y hx hy w is (fun j hj => h j (by simp [hj]))
    have px : (part 70 (arr x) (i * 1)).run Try.prog w = .ok (.int .u16 (x[i]'(by omega) : Nat)) w := by
      unfold part
      simp [run_isAgg_plain (P := Try.prog) Try.underlying70 rfl w, arr_get, List.getElem?_eq_getElem (show i < x.length by omega)]
    have py : (part 70 (arr y) (i * 1)).run Try.prog w = .ok (.int .u16 (y[i]'(by omega) : Nat)) w := by
      unfold part
      simp [run_isAgg_plain (P := Try.prog) Try.underlying70 rfl w, arr_get, List.getElem?_eq_getElem (show i < y.length by omega)]
    simp only [Op.eqItems, Sem.run_bind, px, py, Result.andThen_ok, run_equalIn_int w d 70 .u16 .u16 _ _ Try.underlying70]
    have e : (x[i]? == y[i]?) = (((x[i]'(by omega) : Nat) : Int) == ((y[i]'(by omega) : Nat) : Int)) := by
      rw [List.getElem?_eq_getElem (show i < x.length by omega), List.getElem?_eq_getElem (show i < y.length by omega), Bool.eq_iff_iff]
      simp only [beq_iff_eq, Option.some.injEq]
      omega
    rw [List.all_cons, e]
    cases (((x[i]'(by omega) : Nat) : Int) == ((y[i]'(by omega) : Nat) : Int))
    · simp
    · simpa using ih

theorem eq_in (x y : List Nat) (hx : x.length = 8) (hy : y.length = 8) (w : World) (d : Nat) :
    (Op.equalIn (d + 1 + 1) 72 (.agg (arr x)) (.agg (arr y))).run Try.prog w = .ok (decide (x = y)) w := by
  obtain ⟨i, hi, hs⟩ : ∃ i, Try.prog.info? 70 = some i ∧ Try.prog.cellsOf 70 = 1 := by
    cases h : Try.prog.info? 70 with
    | none => exact absurd (show (Try.prog.info? 70).isSome = true by kernel_rfl) (by rw [h]; simp)
    | some i => exact ⟨i, rfl, by kernel_rfl⟩
  have e : ((List.range 8).all fun i => x[i]? == y[i]?) = decide (x = y) := by
    rw [Bool.eq_iff_iff]
    simp only [List.all_eq_true, List.mem_range, decide_eq_true_eq, beq_iff_eq]
    constructor
    · intro h
      apply List.ext_getElem?
      intro j
      by_cases hj : j < 8
      · exact h j hj
      · rw [List.getElem?_eq_none (by omega), List.getElem?_eq_none (by omega)]
    · rintro rfl _ _
      rfl
  rw [run_equalIn_array (i := i) w (d + 1) (arr x) (arr y) Try.underlying72 hi, hs, items_eq d x y hx hy w (List.range 8) (fun i h => by simpa using h), e]
theorem eq_top (x y : List Nat) (hx : x.length = 8) (hy : y.length = 8) (w : World) :
    (Op.equal 72 (.agg (arr x)) (.agg (arr y))).run Try.prog w = .ok (decide (x = y)) w := eq_in x y hx hy w 9998
theorem eq_arr (x y : List Nat) (hx : x.length = 8) (hy : y.length = 8) (w : World) :
    (binOp .eql 72 (.agg (arr x)) (.agg (arr y))).run Try.prog w = .ok (.bool (decide (x = y))) w := by
  have h := eq_top x y hx hy w
  simp only [binOp, Sem.run_bind, h, Result.andThen_ok, Sem.run_pure]

/-- Is it in the prefix? -/
theorem in_len (s p : ByteArray) (b : Int) (hs : s.size ≤ maxLen) (hp : p.size ≤ maxLen) (h : s.size ≠ p.size) (w : World) :
    Calls Try.prog 19 #[.string s, .agg #[.string p, .int .i64 b]] w fun e w' => e = .returned (.bool (inB s p b)) ∧ Below w.heap.size w w' := by
  have e : Hid (inB s p b = false) := Lib.hid (by unfold inB; simp [h])
  have g : ((s.size : Int) == (p.size : Int)) = false := by rw [beq_eq_false_iff_ne]; omega
  have hN : Below w.heap.size w (w.alloc (.cells #[.string p, .int .i64 b] 31)) := (Below.refl _ _).alloc (Nat.le_refl _) _
  unfold maxLen at hs hp
  go_enter Try.func19, Try.ntmps19
  go_wp2_with fail
  go_quiet (fail)
  go_wp2_with fail
  go_ret
  exact ⟨by rw [e.out]; rfl, below_drewN hN _⟩

theorem in_fit (s p : ByteArray) (b : Int) (hs : s.size ≤ maxLen) (h : s.size = p.size) (hf : fitB p.size b = false) (w : World) :
    Calls Try.prog 19 #[.string s, .agg #[.string p, .int .i64 b]] w fun e w' => e = .returned (.bool (inB s p b)) ∧ Below w.heap.size w w' := by
  have e : Hid (inB s p b = false) := Lib.hid (by unfold inB; simp [hf])
  have g : ((s.size : Int) == (p.size : Int)) = true := by rw [beq_iff_eq]; omega
  have hN : Below w.heap.size w (w.alloc (.cells #[.string p, .int .i64 b] 31)) := (Below.refl _ _).alloc (Nat.le_refl _) _
  have C := fun W => (fits_any p b (by omega) W).mono fun _ _ ⟨a, b⟩ => And.intro a b.symm
  rw [hf] at C
  have C := Lib.hid C
  unfold maxLen at hs
  clear h hf
  go_enter Try.func19, Try.ntmps19
  go_wp2_with fail
  go_quiet ((go_at_call 34; exact Calls.quiet_of_same (C.out _)))
  go_wp2_with fail
  go_ret
  exact ⟨by rw [e.out]; rfl, below_drewN hN _⟩

theorem in_on {w W w1 : World} {B : Nat} {u v : Value} (hb : Below W.heap.size W w1) (h : W.cell? ⟨B, 0, none⟩ = some u ∧ W.cell? ⟨B, 1, none⟩ = some v ∧ Below B w W) :
    w1.cell? ⟨B, 0, none⟩ = some u ∧ w1.cell? ⟨B, 1, none⟩ = some v ∧ Below B w w1 :=
  ⟨keep_cell h.1 hb, keep_cell h.2.1 hb, h.2.2.trans (hb.mono (Nat.le_of_lt (lt_of_cell h.1)))⟩

theorem firstG_app : ∀ (l r : List Nat) (b : Nat), firstG b (l ++ r) = firstG b l ++ firstG (b - 16 * l.length) r
  | [], r, b => by simp [firstG]
  | x :: l, r, b => by
    simp only [List.cons_append, firstG, firstG_app l r (b - 16), List.length_cons]
    rw [show b - 16 - 16 * l.length = b - 16 * (l.length + 1) by omega]
theorem ungrp_inj : ∀ l r : List Nat, ungrp l = ungrp r → l = r
  | [], [], _ => rfl
  | [], _ :: _, h => by simp [ungrp] at h
  | _ :: _, [], h => by simp [ungrp] at h
  | x :: l, y :: r, h => by
    simp only [ungrp, List.cons.injEq] at h
    rw [ungrp_inj l r h.2.2, show x = y by omega]
theorem first_iff {s p : ByteArray} {n b : Nat} (hs : s.size = 2 * n) (hp : p.size = 2 * n) (hn : n ≤ 8) :
    decide (firstG b (grps s) = firstG b (grps p)) = decide (maskB b (bts s) = maskB b (bts p)) := by
  have l1 : (grp (bts s)).length = n := by rw [grp_len, bts_len]; omega
  have l2 : (grp (bts p)).length = n := by rw [grp_len, bts_len]; omega
  rw [Bool.eq_iff_iff, decide_eq_true_eq, decide_eq_true_eq]
  unfold grps pad8
  rw [firstG_app, firstG_app, l1, l2, ← ungrp_first (bts s) b (bts_le s) (by rw [bts_len]; omega), ← ungrp_first (bts p) b (bts_le p) (by rw [bts_len]; omega)]
  constructor
  · intro h
    rw [List.append_cancel_right h]
  · intro h
    rw [ungrp_inj _ _ h]

theorem in_drew {w W : World} {B : Nat} {u v : Value} (h : W.cell? ⟨B, 0, none⟩ = some u ∧ W.cell? ⟨B, 1, none⟩ = some v ∧ Below B w W) :
    W.drew.cell? ⟨B, 0, none⟩ = some u ∧ W.drew.cell? ⟨B, 1, none⟩ = some v ∧ Below B w W.drew := ⟨h.1, h.2.1, h.2.2.drew⟩

set_option maxHeartbeats 4000000 in
theorem in_yes (s p : ByteArray) (b : Int) (h : s.size = p.size) (hf : fitB p.size b = true) (w : World) :
    Calls Try.prog 19 #[.string s, .agg #[.string p, .int .i64 b]] w fun e w' => e = .returned (.bool (inB s p b)) ∧ Below w.heap.size w w' := by
  obtain ⟨n, hn, hn8, b0, b1, h46⟩ := size_even hf
  have e : Hid (inB s p b = decide (firstG b.toNat (grps s) = firstG b.toNat (grps p))) := by
    have h1 : s.size = 2 * n := by omega
    refine Lib.hid ?_
    unfold inB
    rw [first_iff h1 hn hn8, beq_iff_eq.2 h, hf]
    simp
  have g : ((s.size : Int) == (p.size : Int)) = true := by rw [beq_iff_eq]; omega
  have hN : Below w.heap.size w (w.alloc (.cells #[.string p, .int .i64 b] 31)) := (Below.refl _ _).alloc (Nat.le_refl _) _
  have hc0 : (w.alloc (.cells #[.string p, .int .i64 b] 31)).cell? ⟨w.heap.size, 0, none⟩ = some (.string p) := (Blk.new w 31 #[.string p, .int .i64 b]).cell 0
  have hc1 : (w.alloc (.cells #[.string p, .int .i64 b] 31)).cell? ⟨w.heap.size, 1, none⟩ = some (.int .i64 b) := (Blk.new w 31 #[.string p, .int .i64 b]).cell 1
  have C := fun W => fits_any p b (by simp only [maxLen]; omega) W
  rw [hf] at C
  have C := Lib.hid C
  have RS := Lib.hid (fun W => read_any s n (by omega) hn8 W)
  have RP := Lib.hid (fun W => read_any p n hn hn8 W)
  obtain ⟨k, rfl⟩ : ∃ k : Nat, b = k := ⟨b.toNat, by omega⟩
  simp only [Int.toNat_natCast] at b1 e
  have FS := Lib.hid (fun W => first_any (grps s) (grps_len (n := n) (by omega) hn8) (grps_le s) k b1 W)
  have FP := Lib.hid (fun W => first_any (grps p) (grps_len hn hn8) (grps_le p) k b1 W)
  have EQ := eq_arr (firstG k (grps s)) (firstG k (grps p)) (by rw [firstG_len]; exact grps_len (n := n) (by omega) hn8) (by rw [firstG_len]; exact grps_len hn hn8)
  clear h hf hn h46 b0
  go_enter Try.func19, Try.ntmps19
  go_wp2_with fail
  generalize w.alloc (.cells #[.string p, .int .i64 k] 31) = W at hN hc0 hc1 ⊢
  go_region_held3 (fun w' => w'.cell? ⟨w.heap.size, 0, none⟩ = some (.string p) ∧ w'.cell? ⟨w.heap.size, 1, none⟩ = some (.int .i64 k) ∧ Below w.heap.size w w')
    (first | exact ⟨by assumption, by assumption, by assumption⟩ | exact ⟨by assumption, by assumption, Below.drew (by assumption)⟩ | exact in_on (by assumption) (by assumption) | exact in_drew (by assumption) | (simp [*]; done))
    (first
      | (go_at_call 34; (with_reducible refine (C.out _).mono ?_); rintro e w1 ⟨rfl, rfl⟩)
      | (go_at_call 35; (with_reducible refine (RS.out _).mono ?_); rintro e w1 ⟨rfl, hb⟩)
      | (go_at_call 35; (with_reducible refine (RP.out _).mono ?_); rintro e w1 ⟨rfl, hb⟩)
      | (go_at_call 36; (with_reducible refine (FS.out _).mono ?_); rintro e w1 ⟨rfl, hb⟩)
      | (go_at_call 36; (with_reducible refine (FP.out _).mono ?_); rintro e w1 ⟨rfl, hb⟩))
  all_goals
    have hB := (show _ ∧ _ ∧ Below w.heap.size w w1 by assumption).2.2
    clear hN hc0 hc1
    go_wp2_with fail
    go_ret
    exact ⟨by rw [e.out]; rfl, hB⟩

theorem in_any (s p : ByteArray) (b : Int) (hs : s.size ≤ maxLen) (hp : p.size ≤ maxLen) (w : World) :
    Calls Try.prog 19 #[.string s, .agg #[.string p, .int .i64 b]] w fun e w' => e = .returned (.bool (inB s p b)) ∧ Below w.heap.size w w' := by
  by_cases h : s.size = p.size
  · cases hf : fitB p.size b with
    | true => exact in_yes s p b h hf w
    | false => exact in_fit s p b hs h hf w
  · exact in_len s p b hs hp h w

end Go.Proofs.Ytnabjhdamofpgaa.In
