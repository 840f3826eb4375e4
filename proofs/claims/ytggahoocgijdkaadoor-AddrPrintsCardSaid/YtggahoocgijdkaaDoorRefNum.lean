/- The reference: ten, sixteen, gap. -/
import Derived.Test.YtggahoocgijdkaaDoorParse4
set_option linter.unusedVariables false
namespace Go.Proofs.YtggahoocgijdkaaDoor.RefNum
open Go.RowKit Go.PlainAid Go.Proofs.YtggahoocgijdkaaDoor.Std Go.Proofs.YtggahoocgijdkaaDoor.Arr Go.Proofs.YtggahoocgijdkaaDoor.Hex Go.Proofs.YtggahoocgijdkaaDoor.Pub Go.Proofs.YtggahoocgijdkaaDoor.List6 Go.Proofs.YtggahoocgijdkaaDoor.Parse4
open Go.Lib (index occAt NoOcc parseUintM parseUintB)

def optI : Option Nat → Int
  | some x => x
  | none => -1

theorem bt_char (s : ByteArray) (k : Nat) (h : k < s.size) : ∃ c : UInt8, s.data.toList[k]? = some c ∧ bt s k = (c.toNat : Int) := by
  have e := bts_at s k h
  unfold bts at e
  rw [List.getElem?_map] at e
  cases hc : s.data.toList[k]? with
  | none => rw [hc] at e; cases e
  | some c =>
    rw [hc] at e
    simp only [Option.map_some, Option.some.injEq] at e
    have := bt_nonneg s k
    exact ⟨c, rfl, by omega⟩
theorem drop_at {l : List UInt8} {k : Nat} {c : UInt8} (h : l[k]? = some c) : l.drop k = c :: l.drop (k + 1) := by
  obtain ⟨hk, e⟩ := List.getElem?_eq_some_iff.1 h
  rw [List.drop_eq_getElem_cons hk, e]

/-- The number of decimal digits behind m. -/
def numP (m : Nat) : List UInt8 → Option Nat
  | [] => some m
  | c :: r => if 48 ≤ c.toNat ∧ c.toNat ≤ 57 then numP (10 * m + (c.toNat - 48)) r else none
theorem numP_on {m : Nat} {c : UInt8} {r : List UInt8} (h : 48 ≤ c.toNat ∧ c.toNat ≤ 57) : numP m (c :: r) = numP (10 * m + (c.toNat - 48)) r := if_pos h
theorem numP_no {m : Nat} {c : UInt8} {r : List UInt8} (h : ¬ (48 ≤ c.toNat ∧ c.toNat ≤ 57)) : numP m (c :: r) = none := if_neg h
theorem numP_ge : ∀ (l : List UInt8) (m v : Nat), numP m l = some v → m * 10 ^ l.length ≤ v
  | [], m, v, h => by simp [numP] at h; simp [h]
  | c :: r, m, v, h => by
    unfold numP at h
    split at h
    · have ih := numP_ge r _ v h
      have h1 : 10 * m * 10 ^ r.length ≤ (10 * m + (c.toNat - 48)) * 10 ^ r.length := Nat.mul_le_mul_right _ (by omega)
      rw [List.length_cons, Nat.pow_succ, Nat.mul_comm (10 ^ r.length) 10, ← Nat.mul_assoc, Nat.mul_comm m 10]
      omega
    · cases h
def upto (o : Option Nat) : Option Nat := match o with
  | some v => if 255 < v then none else some v
  | none => none
theorem num_dec : ∀ (l : List UInt8) (m : Nat), m ≤ 255 → (match parseUintM 255 m l with | .ok u => some u | _ => none) = upto (numP m l)
  | [], m, h => by simp only [parseUintM, numP, upto]; rw [if_neg (by omega)]
  | c :: r, m, h => by
    unfold parseUintM numP
    by_cases hc : 48 ≤ c.toNat ∧ c.toNat ≤ 57
    · rw [if_pos hc, if_pos hc, if_neg (by omega)]
      by_cases hv : 255 < m * 10 + (c.toNat - 48)
      · rw [if_pos hv]
        cases hn : numP (10 * m + (c.toNat - 48)) r with
        | none => rfl
        | some v =>
          have := numP_ge _ _ _ hn
          have h1 : (10 * m + (c.toNat - 48)) * 1 ≤ (10 * m + (c.toNat - 48)) * 10 ^ r.length := Nat.mul_le_mul_left _ (Nat.pos_of_ne_zero (by simp))
          simp only [upto]
          rw [if_pos (by omega)]
      · rw [if_neg hv, Nat.mul_comm 10 m]
        exact num_dec r _ (by omega)
    · rw [if_neg hc, if_neg hc]; rfl
theorem decV_num (l : List UInt8) (h : l ≠ []) : decV l = upto (numP 0 l) := by
  rw [← num_dec l 0 (by omega)]
  unfold decV parseUintB
  rw [if_neg h]
  rfl
theorem dec_long (l : List UInt8) (h : 3 < l.length) (h0 : l.head? ≠ some 48) : decV l = none := by
  cases l with
  | nil => simp at h
  | cons c r =>
    rw [decV_num _ (by simp)]
    unfold numP
    split
    · rename_i hc
      have hc0 : c.toNat ≠ 48 := fun e => h0 (by rw [List.head?_cons, UInt8.toNat_inj.1 (show c.toNat = (48 : UInt8).toNat from e)])
      cases hn : numP (10 * 0 + (c.toNat - 48)) r with
      | none => rfl
      | some v =>
        have h1 := numP_ge _ _ _ hn
        have h2 : 1 * 10 ^ r.length ≤ (10 * 0 + (c.toNat - 48)) * 10 ^ r.length := Nat.mul_le_mul_right _ (by omega)
        have h3 : 10 ^ 3 ≤ 10 ^ r.length := Nat.pow_le_pow_right (by omega) (by simp only [List.length_cons] at h; omega)
        simp only [upto]
        rw [if_pos (by omega)]
    · rfl
theorem tenV_empty : tenV [] = none := rfl
theorem tenV_long {l : List UInt8} (h : 3 < l.length) : tenV l = none := by
  unfold tenV
  split
  · rfl
  · rename_i hn
    exact dec_long l h (fun e => hn ⟨by omega, e⟩)

set_option maxHeartbeats 1000000 in
theorem ten_bad (p : ByteArray) (hs : p.size ≤ 300) (w : World) (h : p.size = 0 ∨ 3 < p.size ∨ (1 < p.size ∧ p.size ≤ 3 ∧ bt p 0 = 48)) :
    Calls Tryd.prog 24 #[.string p] w fun e w' => e = .returned (.int .i64 (-1)) ∧ w = w' := by
  rcases h with h | h | ⟨h1, h2, h3⟩
  · obtain rfl : p = ⟨#[]⟩ := ByteArray.ext (Array.eq_empty_of_size_eq_zero h)
    go_enter Tryd.func24, Tryd.ntmps24
    go_wp2_with fail
    go_ret
    exact ⟨rfl, rfl⟩
  · have hemp : p.toList.isEmpty = false := by
      rw [← decide_eq_emptyBytes]
      exact decide_eq_false (fun e => by rw [e] at h; exact absurd h (by decide))
    go_enter Tryd.func24, Tryd.ntmps24
    go_wp2_with fail
    go_ret
    exact ⟨rfl, rfl⟩
  · have hemp : p.toList.isEmpty = false := by
      rw [← decide_eq_emptyBytes]
      exact decide_eq_false (fun e => by rw [e] at h1; exact absurd h1 (by decide))
    have hgb := get_bt p
    have b3 : (bt p 0 == 48) = true := by simpa using h3
    clear h3
    go_enter Tryd.func24, Tryd.ntmps24
    go_wp2_with fail
    go_ret
    exact ⟨rfl, rfl⟩

set_option maxRecDepth 100000 in
set_option maxHeartbeats 2000000 in
theorem ten_good (p : ByteArray) (w : World) (h1 : 1 ≤ p.size) (h3 : p.size ≤ 3) (h0 : p.size ≤ 1 ∨ (1 < p.size ∧ (bt p 0 == 48) = false)) :
    Calls Tryd.prog 24 #[.string p] w fun e w' => e = .returned (.int .i64 (optI (upto (numP 0 p.data.toList)))) ∧ w = w' := by
  have hemp : p.toList.isEmpty = false := by
    rw [← decide_eq_emptyBytes]
    exact decide_eq_false (fun e => by rw [e] at h1; exact absurd h1 (by decide))
  have hgb := get_bt p
  have hL : p.data.toList.length = p.size := by rw [Array.length_toList]; rfl
  have CH := Lib.hid (bt_char p)
  have hb0 := bt_nonneg p
  have hb1 := bt_le p
  have B0 := Lib.hid hb0
  have B1 := Lib.hid hb1
  clear hb0 hb1
  generalize p.data.toList = bs at hL CH
  have HL := Lib.hid hL
  clear hL
  rcases h0 with h0 | ⟨h0, h00⟩
  all_goals
    go_enter Tryd.func24, Tryd.ntmps24
    go_wp2_with fail
    go_loop [3, 4] (fun v i => ∃ (m k : Nat) (a : Int), v = .int .i64 a ∧ i = .int .i64 k ∧ k ≤ p.size ∧ Hid (a = (m : Int) ∧ m + 1 ≤ 10 ^ k ∧ numP 0 bs = numP m (bs.drop k))) (fun _ i => p.size - (intOf i).toNat)
    case atStart => exact ⟨0, 0, 0, rfl, rfl, Nat.zero_le _, rfl, by decide, by simp⟩
    case round =>
      obtain ⟨m, k, a, rfl, rfl, hk, hx⟩ := hrel
      obtain ⟨ha, hm, hrest⟩ := hx.out
      clear hx
      by_cases hlt : k < p.size
      · obtain ⟨c, hc, hbt⟩ := CH.out k hlt
        have hm99 : m ≤ 99 := by
          have : k = 0 ∨ k = 1 ∨ k = 2 := by omega
          rcases this with rfl | rfl | rfl <;> omega
        have a0 : 0 ≤ a := by omega
        have a1 : a ≤ 99 := by omega
        have b0 := B0.out k
        have b1 := B1.out k
        rw [drop_at hc] at hrest
        by_cases d : 48 ≤ c.toNat ∧ c.toNat ≤ 57
        · have F := Lib.hid (hrest.trans (numP_on d))
          have d0 : 48 ≤ bt p k := by omega
          have d1 : bt p k ≤ 57 := by omega
          have HN : Hid (10 * a + (bt p k - 48) = ((10 * m + (c.toNat - 48) : Nat) : Int) ∧ 10 * m + (c.toNat - 48) + 1 ≤ 10 ^ (k + 1) ∧ numP 0 bs = numP (10 * m + (c.toNat - 48)) (bs.drop (k + 1))) := Lib.hid ⟨by omega, by rw [Nat.pow_succ]; omega, F.out⟩
          clear hrest F hm ha hc hbt d hm99
          go_wp2_with fail
          go_round
          case rel => exact ⟨10 * m + (c.toNat - 48), k + 1, 10 * a + (bt p k - 48), (by first | rfl | (congr 1; omega)), by go_num, hlt, HN⟩
          case measure => simp [intOf]; omega
        · have F := Lib.hid (hrest.trans (numP_no d))
          have side : bt p k < 48 ∨ 57 < bt p k := by omega
          clear hrest hm ha hc hbt d hm99
          rcases side with side | side
          all_goals
            go_wp2_with fail
            go_ret
            exact ⟨by rw [F.out]; rfl, rfl⟩
      · have e : k = p.size := by omega
        subst e
        rw [List.drop_of_length_le (by rw [HL.out]; exact Nat.le_refl _)] at hrest
        have F := Lib.hid (show numP 0 bs = some m from hrest)
        have a0 : 0 ≤ a := by omega
        by_cases hv : 255 < m
        · have hv' : 255 < a := by omega
          have G := Lib.hid (show upto (numP 0 bs) = none by rw [F.out]; exact if_pos hv)
          clear hrest hm ha
          go_wp2_with fail
          go_ret
          exact ⟨by rw [G.out]; rfl, rfl⟩
        · have hv' : a ≤ 255 := by omega
          have G := Lib.hid (show optI (upto (numP 0 bs)) = a by rw [F.out, show upto (some m) = some m from if_neg hv]; exact ha.symm)
          clear hrest hm ha
          go_wp2_with fail
          go_ret
          exact ⟨by rw [G.out]; rfl, rfl⟩

theorem ten_any (p : ByteArray) (hs : p.size ≤ 300) (w : World) :
    Calls Tryd.prog 24 #[.string p] w fun e w' => e = .returned (.int .i64 (optI (tenV p.data.toList))) ∧ w = w' := by
  have hL : p.data.toList.length = p.size := by rw [Array.length_toList]; rfl
  by_cases h0 : p.size = 0
  · have : p.data.toList = [] := List.eq_nil_of_length_eq_zero (by omega)
    rw [this]
    exact ten_bad p hs w (.inl h0)
  · by_cases h3 : 3 < p.size
    · rw [tenV_long (by omega)]
      exact ten_bad p hs w (.inr (.inl h3))
    · by_cases hz : 1 < p.size ∧ bt p 0 = 48
      · have : tenV p.data.toList = none := if_pos ⟨by omega, (first_byte p (by omega)).2 hz.2⟩
        rw [this]
        exact ten_bad p hs w (.inr (.inr ⟨hz.1, by omega, hz.2⟩))
      · have : tenV p.data.toList = upto (numP 0 p.data.toList) := by
          unfold tenV
          rw [if_neg (fun hh => hz ⟨by omega, (first_byte p (by omega)).1 hh.2⟩)]
          exact decV_num _ (fun e => h0 (by rw [← hL, e]; rfl))
        rw [this]
        refine ten_good p w (by omega) (by omega) ?_
        by_cases h1 : p.size ≤ 1
        · exact .inl h1
        · exact .inr ⟨by omega, by simpa using fun e => hz ⟨by omega, e⟩⟩

/- sixteen -/
theorem sixteen_bad (p : ByteArray) (hs : p.size ≤ 300) (w : World) (h : p.size = 0 ∨ 4 < p.size) :
    Calls Tryd.prog 45 #[.string p] w fun e w' => e = .returned (.int .i64 (-1)) ∧ w = w' := by
  rcases h with h | h
  · obtain rfl : p = ⟨#[]⟩ := ByteArray.ext (Array.eq_empty_of_size_eq_zero h)
    go_enter Tryd.func45, Tryd.ntmps45
    go_wp2_with fail
    go_ret
    exact ⟨rfl, rfl⟩
  · have hemp : p.toList.isEmpty = false := by
      rw [← decide_eq_emptyBytes]
      exact decide_eq_false (fun e => by rw [e] at h; exact absurd h (by decide))
    go_enter Tryd.func45, Tryd.ntmps45
    go_wp2_with fail
    go_ret
    exact ⟨rfl, rfl⟩

theorem dv_cases (c : UInt8) : (48 ≤ c.toNat ∧ c.toNat ≤ 57 ∧ dv c = some (c.toNat - 48)) ∨ (97 ≤ c.toNat ∧ c.toNat ≤ 102 ∧ dv c = some (c.toNat - 87)) ∨ (65 ≤ c.toNat ∧ c.toNat ≤ 70 ∧ dv c = some (c.toNat - 55)) ∨
    (c.toNat < 48 ∧ dv c = none) ∨ (57 < c.toNat ∧ c.toNat < 65 ∧ dv c = none) ∨ (70 < c.toNat ∧ c.toNat < 97 ∧ dv c = none) ∨ (102 < c.toNat ∧ dv c = none) := by
  unfold dv
  by_cases h1 : 48 ≤ c.toNat ∧ c.toNat ≤ 57
  · rw [if_pos h1]; exact .inl ⟨h1.1, h1.2, rfl⟩
  · rw [if_neg h1]
    by_cases h2 : 65 ≤ c.toNat ∧ c.toNat ≤ 70
    · rw [if_pos h2]; exact .inr (.inr (.inl ⟨h2.1, h2.2, rfl⟩))
    · rw [if_neg h2]
      by_cases h3 : 97 ≤ c.toNat ∧ c.toNat ≤ 102
      · rw [if_pos h3]; exact .inr (.inl ⟨h3.1, h3.2, rfl⟩)
      · rw [if_neg h3]
        simp only [and_true]
        omega

set_option maxRecDepth 100000 in
set_option maxHeartbeats 4000000 in
theorem sixteen_good (p : ByteArray) (w : World) (h1 : 1 ≤ p.size) (h4 : p.size ≤ 4) :
    Calls Tryd.prog 45 #[.string p] w fun e w' => e = .returned (.int .i64 (optI (hexP 0 p.data.toList))) ∧ w = w' := by
  have hemp : p.toList.isEmpty = false := by
    rw [← decide_eq_emptyBytes]
    exact decide_eq_false (fun e => by rw [e] at h1; exact absurd h1 (by decide))
  have hgb := get_bt p
  have hL : p.data.toList.length = p.size := by rw [Array.length_toList]; rfl
  have CH := Lib.hid (bt_char p)
  have B0 := Lib.hid (bt_nonneg p)
  have B1 := Lib.hid (bt_le p)
  generalize p.data.toList = bs at hL CH
  have HL := Lib.hid hL
  clear hL
  go_enter Tryd.func45, Tryd.ntmps45
  go_wp2_with fail
  go_loop [3, 4] (fun v i => ∃ (m k : Nat) (a : Int), v = .int .i64 a ∧ i = .int .i64 k ∧ k ≤ p.size ∧ Hid (a = (m : Int) ∧ m + 1 ≤ 16 ^ k ∧ hexP 0 bs = hexP m (bs.drop k))) (fun _ i => p.size - (intOf i).toNat)
  case atStart => exact ⟨0, 0, 0, rfl, rfl, Nat.zero_le _, rfl, by decide, by simp⟩
  case round =>
    obtain ⟨m, k, a, rfl, rfl, hk, hx⟩ := hrel
    obtain ⟨ha, hm, hrest⟩ := hx.out
    clear hx
    by_cases hlt : k < p.size
    · obtain ⟨c, hc, hbt⟩ := CH.out k hlt
      have hm99 : m ≤ 4095 := by
        have : k = 0 ∨ k = 1 ∨ k = 2 ∨ k = 3 := by omega
        rcases this with rfl | rfl | rfl | rfl <;> omega
      have a0 : 0 ≤ a := by omega
      have a1 : a ≤ 4095 := by omega
      have b0 := B0.out k
      have b1 := B1.out k
      rw [drop_at hc] at hrest
      rcases dv_cases c with ⟨d0, d1, d⟩ | ⟨d0, d1, d⟩ | ⟨d0, d1, d⟩ | ⟨d0, d⟩ | ⟨d0, d1, d⟩ | ⟨d0, d1, d⟩ | ⟨d0, d⟩
      · have F := Lib.hid (hrest.trans (hexP_on d (by omega)))
        have e0 : 48 ≤ bt p k := by omega
        have e1 : bt p k ≤ 57 := by omega
        have HN : Hid (16 * a + (bt p k - 48) = ((m * 16 + (c.toNat - 48) : Nat) : Int) ∧ m * 16 + (c.toNat - 48) + 1 ≤ 16 ^ (k + 1) ∧ hexP 0 bs = hexP (m * 16 + (c.toNat - 48)) (bs.drop (k + 1))) := Lib.hid ⟨by omega, by rw [Nat.pow_succ]; omega, F.out⟩
        clear hrest F hm ha hc hbt d d0 d1 hm99
        go_wp2_with fail
        go_round
        case rel => exact ⟨m * 16 + (c.toNat - 48), k + 1, 16 * a + (bt p k - 48), (by first | rfl | (congr 1; omega)), by go_num, hlt, HN⟩
        case measure => simp [intOf]; omega
      · have F := Lib.hid (hrest.trans (hexP_on d (by omega)))
        have e0 : 97 ≤ bt p k := by omega
        have e1 : bt p k ≤ 102 := by omega
        have HN : Hid (16 * a + (bt p k - 97) + 10 = ((m * 16 + (c.toNat - 87) : Nat) : Int) ∧ m * 16 + (c.toNat - 87) + 1 ≤ 16 ^ (k + 1) ∧ hexP 0 bs = hexP (m * 16 + (c.toNat - 87)) (bs.drop (k + 1))) := Lib.hid ⟨by omega, by rw [Nat.pow_succ]; omega, F.out⟩
        clear hrest F hm ha hc hbt d d0 d1 hm99
        go_wp2_with fail
        go_round
        case rel => exact ⟨m * 16 + (c.toNat - 87), k + 1, 16 * a + (bt p k - 97) + 10, (by first | rfl | (congr 1; omega)), by go_num, hlt, HN⟩
        case measure => simp [intOf]; omega
      · have F := Lib.hid (hrest.trans (hexP_on d (by omega)))
        have e0 : 65 ≤ bt p k := by omega
        have e1 : bt p k ≤ 70 := by omega
        have HN : Hid (16 * a + (bt p k - 65) + 10 = ((m * 16 + (c.toNat - 55) : Nat) : Int) ∧ m * 16 + (c.toNat - 55) + 1 ≤ 16 ^ (k + 1) ∧ hexP 0 bs = hexP (m * 16 + (c.toNat - 55)) (bs.drop (k + 1))) := Lib.hid ⟨by omega, by rw [Nat.pow_succ]; omega, F.out⟩
        clear hrest F hm ha hc hbt d d0 d1 hm99
        go_wp2_with fail
        go_round
        case rel => exact ⟨m * 16 + (c.toNat - 55), k + 1, 16 * a + (bt p k - 65) + 10, (by first | rfl | (congr 1; omega)), by go_num, hlt, HN⟩
        case measure => simp [intOf]; omega
      · have F := Lib.hid (hrest.trans (hexP_no d))
        have e0 : bt p k < 48 := by omega
        clear hrest hm ha hc hbt d d0 hm99
        go_wp2_with fail
        go_ret
        exact ⟨by rw [F.out]; rfl, rfl⟩
      · have F := Lib.hid (hrest.trans (hexP_no d))
        have e0 : 57 < bt p k := by omega
        have e1 : bt p k < 65 := by omega
        clear hrest hm ha hc hbt d d0 d1 hm99
        go_wp2_with fail
        go_ret
        exact ⟨by rw [F.out]; rfl, rfl⟩
      · have F := Lib.hid (hrest.trans (hexP_no d))
        have e0 : 70 < bt p k := by omega
        have e1 : bt p k < 97 := by omega
        clear hrest hm ha hc hbt d d0 d1 hm99
        go_wp2_with fail
        go_ret
        exact ⟨by rw [F.out]; rfl, rfl⟩
      · have F := Lib.hid (hrest.trans (hexP_no d))
        have e0 : 102 < bt p k := by omega
        clear hrest hm ha hc hbt d d0 hm99
        go_wp2_with fail
        go_ret
        exact ⟨by rw [F.out]; rfl, rfl⟩
    · have e : k = p.size := by omega
      subst e
      rw [List.drop_of_length_le (by rw [HL.out]; exact Nat.le_refl _)] at hrest
      have F := Lib.hid (show hexP 0 bs = some m from hrest)
      have G := Lib.hid (show optI (hexP 0 bs) = a by rw [F.out]; exact ha.symm)
      clear hrest hm ha
      go_wp2_with fail
      go_ret
      exact ⟨by rw [G.out]; rfl, rfl⟩

theorem sixteen_any (p : ByteArray) (hs : p.size ≤ 300) (w : World) :
    Calls Tryd.prog 45 #[.string p] w fun e w' => e = .returned (.int .i64 (optI (grpV p.data.toList))) ∧ w = w' := by
  have hL : p.data.toList.length = p.size := by rw [Array.length_toList]; rfl
  by_cases h0 : p.size = 0
  · have : p.data.toList = [] := List.eq_nil_of_length_eq_zero (by omega)
    rw [this]
    exact sixteen_bad p hs w (.inl h0)
  · by_cases h4 : 4 < p.size
    · have : grpV p.data.toList = none := if_pos (by omega)
      rw [this]
      exact sixteen_bad p hs w (.inr h4)
    · have : grpV p.data.toList = hexP 0 p.data.toList := by
        unfold grpV hexV
        rw [if_neg (by omega), if_neg (fun e => h0 (by rw [← hL, e]; rfl))]
      rw [this]
      exact sixteen_good p w (by omega) (by omega)

/- gap -/
theorem occ_iff {l : List UInt8} {k : Nat} {c d : UInt8} (h : l[k]? = some c) (h' : l[k + 1]? = some d) : occAt l [58, 58] k = decide (c = 58 ∧ d = 58) := by
  unfold occAt
  rw [drop_at h, drop_at h']
  rw [Bool.eq_iff_iff]
  simp only [List.isPrefixOf, Bool.and_true, Bool.and_eq_true, beq_iff_eq, decide_eq_true_eq]
  constructor
  · rintro ⟨a, b⟩; exact ⟨a.symm, b.symm⟩
  · rintro ⟨a, b⟩; exact ⟨a.symm, b.symm⟩

set_option maxRecDepth 100000 in
set_option maxHeartbeats 2000000 in
theorem gap_any (s : ByteArray) (hs : s.size ≤ 300) (w : World) :
    Calls Tryd.prog 25 #[.string s] w fun e w' => e = .returned (.int .i64 (index s.data.toList [58, 58])) ∧ w = w' := by
  have hgb := get_bt s
  have hL : s.data.toList.length = s.size := by rw [Array.length_toList]; rfl
  have CH := Lib.hid (bt_char s)
  generalize s.data.toList = bs at hL CH
  have HL := Lib.hid hL
  clear hL
  go_enter Tryd.func25, Tryd.ntmps25
  go_wp2_with fail
  go_loop [3] (fun i => ∃ k : Nat, i = .int .i64 k ∧ k ≤ s.size ∧ Hid (NoOcc bs [58, 58] k)) (fun i => s.size - (intOf i).toNat)
  case atStart => exact ⟨0, rfl, Nat.zero_le _, Lib.NoOcc.zero _ _⟩
  case round =>
    obtain ⟨k, rfl, hk, hx⟩ := hrel
    by_cases hlt : k + 1 < s.size
    · obtain ⟨c, hc, hbt⟩ := CH.out k (by omega)
      obtain ⟨d, hd, hbt'⟩ := CH.out (k + 1) hlt
      have ho := occ_iff hc hd
      have e2 : ((k : Int) + 1).toNat = k + 1 := by omega
      have c58 : c = 58 ↔ bt s k = 58 := by
        rw [hbt]
        constructor
        · rintro rfl; rfl
        · intro h; exact UInt8.toNat_inj.1 (by have : (58 : UInt8).toNat = 58 := rfl; omega)
      have d58 : d = 58 ↔ bt s (k + 1) = 58 := by
        rw [hbt']
        constructor
        · rintro rfl; rfl
        · intro h; exact UInt8.toNat_inj.1 (by have : (58 : UInt8).toNat = 58 := rfl; omega)
      by_cases h1 : bt s k = 58
      · have g1 : (bt s k == 58) = true := by simpa using h1
        by_cases h2 : bt s (k + 1) = 58
        · have g2 : (bt s (k + 1) == 58) = true := by simpa using h2
          have F := Lib.hid (Lib.index_hit hx.out (by rw [HL.out]; omega) (ho.trans (decide_eq_true ⟨c58.2 h1, d58.2 h2⟩)))
          clear hc hd hbt hbt' ho c58 d58 h1 h2
          go_wp2_with fail
          go_ret
          exact ⟨by rw [F.out]; rfl, rfl⟩
        · have g2 : (bt s (k + 1) == 58) = false := by simpa using h2
          have F : Hid (NoOcc bs [58, 58] (k + 1)) := Lib.hid (hx.out.succ (ho.trans (decide_eq_false fun h => h2 (d58.1 h.2))))
          clear hc hd hbt hbt' ho c58 d58 h1 h2
          go_wp2_with fail
          go_round
          case rel => exact ⟨k + 1, by go_num, by omega, F⟩
          case measure => simp [intOf]; omega
      · have g1 : (bt s k == 58) = false := by simpa using h1
        have F : Hid (NoOcc bs [58, 58] (k + 1)) := Lib.hid (hx.out.succ (ho.trans (decide_eq_false fun h => h1 (c58.1 h.1))))
        clear hc hd hbt hbt' ho c58 d58 h1
        go_wp2_with fail
        go_round
        case rel => exact ⟨k + 1, by go_num, by omega, F⟩
        case measure => simp [intOf]; omega
    · have F := Lib.hid (Lib.index_past (by simp) hx.out (by rw [HL.out]; simp only [List.length_cons, List.length_nil]; omega))
      clear hx
      go_wp2_with fail
      go_ret
      exact ⟨by rw [F.out]; rfl, rfl⟩

end Go.Proofs.YtggahoocgijdkaaDoor.RefNum
