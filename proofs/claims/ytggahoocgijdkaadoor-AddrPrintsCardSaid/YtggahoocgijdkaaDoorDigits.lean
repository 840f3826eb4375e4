/- Groups written between colons; the run of zeros. -/
import Derived.Test.YtggahoocgijdkaaDoorFmt
import Derived.Test.YtggahoocgijdkaaDoorRow
import Derived.Test.YtggahoocgijdkaaDoorArr
import Derived.Deep.QuietTactic
import Derived.BigQuiet
set_option linter.unusedVariables false
namespace Go.Proofs.YtggahoocgijdkaaDoor.Digits
open Go.RowKit Go.Proofs.YtggahoocgijdkaaDoor.Std Go.Proofs.YtggahoocgijdkaaDoor.Row Go.Proofs.YtggahoocgijdkaaDoor.Fmt Go.Proofs.YtggahoocgijdkaaDoor.Arr

/-- How many zeros stand first. -/
def zerosN : List Nat → Nat
  | [] => 0
  | x :: r => if x = 0 then zerosN r + 1 else 0
theorem zerosN_le : ∀ l : List Nat, zerosN l ≤ l.length
  | [] => Nat.le_refl _
  | x :: r => by
    unfold zerosN
    have := zerosN_le r
    split <;> simp only [List.length_cons] <;> omega

/-- A row of words: the slice holds these. -/
def Has (w : World) (A : Option Addr) (l : List Nat) : Prop := ∀ (k x : Nat), l[k]? = some x → ∃ b o, A = some ⟨b, o, none⟩ ∧ b < w.heap.size ∧ w.cell? ⟨b, o + k, none⟩ = some (.int .u16 (x : Int))
theorem Has.keep {w w' : World} {A : Option Addr} {l : List Nat} (h : Has w A l) (k : Below w.heap.size w w') : Has w' A l := fun i x hi => by
  obtain ⟨b, o, e, hb, hc⟩ := h i x hi
  exact ⟨b, o, e, Nat.lt_of_lt_of_le hb k.size, keep_cell hc k⟩

def texts (l : List ByteArray) : List Value := l.map Value.string
def hexB (x : Nat) : ByteArray := ⟨(hexs x).toArray⟩
/-- Groups between colons. -/
def digs (l : List Nat) : List UInt8 := Lib.join (l.map hexs) [58]

theorem str_info : (Tryd.prog.info? 9).map (fun i => (i.zero, i.size, i.bytes)) = some (some (.string ByteArray.empty), 1, 16) := by kernel_rfl

theorem text_cells {w : World} {base n : Nat} {A : Option Addr} {c : Nat} {l : List ByteArray} (h : w.ownsRow base 9 1 (.slice A n c) n (texts l)) (hn : 0 < n) :
    ∃ g, A = some ⟨g, 0, none⟩ ∧ g < w.heap.size ∧ ∀ (j : Nat) x, l[j]? = some x → w.cell? ⟨g, 0 + j, none⟩ = some (.string x) := by
  obtain ⟨g, cap, hv, hb, hlt⟩ := h.form (by omega)
  have hA : A = some ⟨g, 0, none⟩ := by injection hv
  subst hA
  exact ⟨g, rfl, hlt, fun j x hj => by
    have := h.cells (g := g) rfl j (.string x) (by simp [texts, hj])
    rw [Nat.zero_add]
    have e : (⟨g, 0, none⟩ : Addr).add j = ⟨g, j, none⟩ := by unfold Addr.add; by_cases h : j = 0 <;> simp [h]
    rwa [e] at this⟩

/-- strings.Join over a row of the call's own. -/
theorem join_any (base n c : Nat) (A : Option Addr) (l : List ByteArray) (sep : ByteArray) (w : World) (h : w.ownsRow base 9 1 (.slice A n c) n (texts l)) (hn : n ≤ 1048576) (hc : n ≤ c)
    (hlen : (Lib.join (l.map (·.data.toList)) sep.data.toList).length ≤ 140737488355328) :
    Calls Tryd.prog 47 #[.slice A n c, .string sep] w fun e w' => e = .returned (.string ⟨(Lib.join (l.map (·.data.toList)) sep.data.toList).toArray⟩) ∧ Below w.heap.size w w' := by
  have hl : l.length = n := by have := h.1; simp [texts] at this; omega
  by_cases h0 : n = 0
  · subst h0
    have : l = [] := List.eq_nil_of_length_eq_zero hl
    subst this
    exact (Tryd.strings_Join_none A c sep w).mono fun e w' ⟨he, hw⟩ => ⟨by rw [he]; rfl, hw ▸ Below.refl _ _⟩
  · obtain ⟨g, rfl, hg, hcl⟩ := text_cells h (by omega)
    have := Tryd.strings_Join g 0 c l sep w hcl hg (by omega) (by omega) hlen
    rwa [hl] at this

theorem zeros_any (l : List Nat) (A : Option Addr) (n c : Nat) (hl : l.length = n) (hn : n ≤ 1048576) (w : World) (h : Has w A l) :
    Calls Tryd.prog 61 #[.slice A n c] w fun e w' => e = .returned (.int .i64 (zerosN l)) ∧ w = w' := by
  have HL := Lib.hid hl
  have HH := Lib.hid h
  clear hl h
  go_enter Tryd.func61, Tryd.ntmps61
  go_wp2_with fail
  go_loop [3] (fun i => ∃ k : Nat, i = .int .i64 k ∧ k ≤ n ∧ Hid (zerosN l = k + zerosN (l.drop k))) (fun i => n - (intOf i).toNat)
  case atStart => exact ⟨0, rfl, Nat.zero_le _, by show zerosN l = 0 + zerosN (l.drop 0); simp⟩
  case round =>
    obtain ⟨k, rfl, hk, hz⟩ := hrel
    by_cases hlt : k < n
    · obtain ⟨x, hx⟩ : ∃ x, l[k]? = some x := ⟨_, List.getElem?_eq_getElem (by rw [HL.out]; exact hlt)⟩
      obtain ⟨b, o, rfl, hb, hcl⟩ := HH.out k x hx
      have hd : l.drop k = x :: l.drop (k + 1) := by
        rw [List.drop_eq_getElem_cons (by rw [HL.out]; exact hlt)]
        congr 1
        exact (List.getElem?_eq_some_iff.1 hx).2
      have hz' := hz.out
      rw [hd] at hz'
      clear hx hd hz
      by_cases h0 : x = 0
      · subst h0
        have HZ := Lib.hid (show zerosN l = k + 1 + zerosN (l.drop (k + 1)) by rw [hz']; simp only [zerosN, if_true]; omega)
        clear hz'
        go_wp2_with fail
        go_round
        case rel => exact ⟨k + 1, by go_num, hlt, HZ⟩
        case measure => simp [intOf]; omega
      · have HZ := Lib.hid (show zerosN l = k by rw [hz']; simp only [zerosN, if_neg h0]; omega)
        have h1 : ((x : Int) == 0) = false := by rw [beq_eq_false_iff_ne]; omega
        clear hz' h0
        go_wp2_with fail
        go_ret
        exact ⟨by rw [HZ.out]; rfl, rfl⟩
    · have e : k = n := by omega
      subst e
      have HZ := Lib.hid (show zerosN l = k by rw [hz.out, List.drop_of_length_le (by rw [HL.out]; exact Nat.le_refl _)]; rfl)
      clear hz
      go_wp2_with fail
      go_ret
      exact ⟨by rw [HZ.out]; rfl, rfl⟩

theorem hexs_len (x : Nat) (hx : x ≤ 65535) : (hexs x).length ≤ 4 := by
  unfold hexs
  rw [List.length_map]
  by_cases h1 : x < 16
  · rw [hexN_small h1]; simp
  · rw [hexN_step (by omega), List.length_append]
    by_cases h2 : x / 16 < 16
    · rw [hexN_small h2]; simp
    · rw [hexN_step (by omega), List.length_append]
      by_cases h3 : x / 16 / 16 < 16
      · rw [hexN_small h3]; simp
      · rw [hexN_step (by omega), List.length_append, hexN_small (by omega)]
        simp

theorem join_le (sep : List UInt8) : ∀ (ls : List (List UInt8)) (m : Nat), (∀ l ∈ ls, l.length ≤ m) → (Lib.join ls sep).length ≤ ls.length * (m + sep.length)
  | [], m, _ => by simp [Lib.join_nil]
  | x :: r, m, h => by
    rw [Lib.join_length]
    have hl : Lib.lens (x :: r) ≤ (x :: r).length * m := by
      have : ∀ ls : List (List UInt8), (∀ l ∈ ls, l.length ≤ m) → Lib.lens ls ≤ ls.length * m := by
        intro ls
        induction ls with
        | nil => intro _; simp [Lib.lens]
        | cons a t ih =>
          intro hh
          have h1 := hh a (by simp)
          have h2 := ih (fun l hl => hh l (by simp [hl]))
          simp only [Lib.lens, List.map_cons, List.sum_cons, List.length_cons, Nat.add_mul, Nat.one_mul] at h2 ⊢
          omega
      exact this _ h
    simp only [List.length_cons, Nat.mul_add, Nat.add_mul, Nat.one_mul] at hl ⊢
    have : sep.length * r.length = r.length * sep.length := Nat.mul_comm _ _
    omega

set_option maxHeartbeats 2000000 in
theorem digits_any (l : List Nat) (A : Option Addr) (n c : Nat) (hl : l.length = n) (hn : n ≤ 8) (hz : ∀ z ∈ l, z ≤ 65535) (w : World) (h : Has w A l) (hs : Std w) :
    Calls Tryd.prog 49 #[.slice A n c] w fun e w' => e = .returned (.string ⟨(digs l).toArray⟩) ∧ Below w.heap.size w w' := by
  have HL := Lib.hid hl
  have HH := Lib.hid h
  have HZ := Lib.hid hz
  clear hl h hz
  go_enter Tryd.func49, Tryd.ntmps49
  go_wp2_with fail
  go_loopw [3, 8] (fun v i wr => ∃ k : Nat, i = .int .i64 k ∧ k ≤ n ∧ wr.ownsRow w.heap.size 9 1 v k (texts ((l.take k).map hexB)) ∧ Below w.heap.size w wr) (fun _ i _ => n - (intOf i).toNat)
  case atStart => exact ⟨0, rfl, Nat.zero_le _, World.ownsRow_nil _ _ _ _, Below.refl _ _⟩
  case round =>
    obtain ⟨k, rfl, hk, ho, hb⟩ := hrel
    have hsz := hb.size
    by_cases hlt : k < n
    · obtain ⟨x, hx⟩ : ∃ x, l[k]? = some x := ⟨_, List.getElem?_eq_getElem (by rw [HL.out]; exact hlt)⟩
      have hx1 := HZ.out x (List.mem_of_getElem? hx)
      obtain ⟨b, o, rfl, hbb, hcl⟩ := (HH.out.keep hb) k x hx
      have FC := Lib.hid (fmt_any x hx1 wr (hs.keep hb))
      have HX := Lib.hid hx
      clear hx
      go_wp2_with fail
      refine FC.out.mono ?_
      rintro e w1 ⟨rfl, hb1⟩
      have ho1 := own_below ho hb1
      have hN1 := hb.trans (hb1.mono hsz)
      have hs1 := hb1.size
      clear ho
      go_wp2_with (first
        | (at_builtin
           refine wpList_one rfl (.tmp 12) (.tmp 16) 39 9 rfl w.heap.size (.string ByteArray.empty) (.string ⟨(hexs x).toArray⟩) 16 Tryd.underlying39 str_info rfl (by decide) _ _ _ rfl ho1 rfl rfl (by omega) (by omega) ?_
           intro v2 w2 ho2 hg2))
      have hN2 : Below w.heap.size w w2 := (hN1.alloc (by omega) _).grown hg2 (by simp; omega) fun g hg => (own_lt ho1 g hg).1
      clear hg2 ho1
      go_roundw
      case rel =>
        refine ⟨k + 1, by go_num, hlt, ?_, hN2⟩
        have e : texts ((l.take k).map hexB) ++ [.string ⟨(hexs x).toArray⟩] = texts ((l.take (k + 1)).map hexB) := by
          rw [List.take_add_one, HX.out]
          simp [texts, hexB]
        rw [← e]
        exact ho2
      case measure => simp [intOf]; omega
    · have e : k = n := by omega
      subst e
      rw [List.take_of_length_le (by rw [HL.out]; exact Nat.le_refl _)] at ho
      obtain ⟨A', c', rfl, hc'⟩ : ∃ A' c', u3 = .slice A' k c' ∧ k ≤ c' := by
        rcases ho.2 with ⟨h1, h2⟩ | ⟨g, cap, cur, h1, _, _, h2, _⟩
        · exact ⟨none, 0, by rw [h1, h2], by omega⟩
        · exact ⟨_, _, h1, h2⟩
      have ed : Lib.join ((l.map hexB).map (·.data.toList)) (⟨#[58]⟩ : ByteArray).data.toList = digs l := by
        unfold digs
        congr 1
        simp [hexB, List.map_map]
      have hjl : (Lib.join ((l.map hexB).map (·.data.toList)) (⟨#[58]⟩ : ByteArray).data.toList).length ≤ 140737488355328 := by
        have := join_le (⟨#[58]⟩ : ByteArray).data.toList ((l.map hexB).map (·.data.toList)) 4 (fun y hy => by
          simp only [List.map_map, List.mem_map, Function.comp] at hy
          obtain ⟨z, hz, rfl⟩ := hy
          simpa [hexB] using hexs_len z (HZ.out z hz))
        rw [List.length_map, List.length_map, HL.out] at this
        have h2 : (⟨#[58]⟩ : ByteArray).data.toList.length = 1 := rfl
        rw [h2] at this
        omega
      have J := join_any w.heap.size k c' A' (l.map hexB) ⟨#[58]⟩ wr ho (by omega) hc' hjl
      rw [ed] at J
      have J := Lib.hid J
      clear ho ed hjl
      go_wp2_with fail
      refine J.out.mono ?_
      rintro e w1 ⟨rfl, hb1⟩
      go_wp2_with fail
      go_ret
      exact ⟨rfl, hb.trans (hb1.mono hsz)⟩

end Go.Proofs.YtggahoocgijdkaaDoor.Digits
