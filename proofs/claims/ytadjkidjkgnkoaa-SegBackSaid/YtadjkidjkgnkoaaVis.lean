/- Plain facts: what an iterator over options hands out, one by one. No program is named. -/
import Derived.Test.YtadjkidjkgnkoaaOptS
set_option linter.unusedVariables false
namespace Go.Proofs.Ytadjkidjkgnkoaa.Vis
open Go.RowKit Go.PlainAid Go.Proofs.Ytadjkidjkgnkoaa.OptS

/-- How many bytes the first option takes; 0: its length does not hold. -/
def fs (s : ByteArray) : Nat := if bt s 0 = 1 then 1 else if s.size < 2 ∨ bt s 1 < 2 ∨ (s.size : Int) < bt s 1 then 0 else (bt s 1).toNat
theorem fs_le {s : ByteArray} (h : 0 < s.size) : fs s ≤ s.size := by
  unfold fs
  have := bt_nonneg s 1
  repeat' split
  all_goals omega
/-- What is handed out. -/
def vis (s : ByteArray) : List ByteArray :=
  if h : 0 < s.size ∧ bt s 0 ≠ 0 then
    s.extract 0 (fs s) :: (if h2 : fs s = 0 then [] else vis (s.extract (fs s) s.size))
  else []
termination_by s.size
decreasing_by
  simp only [ByteArray.size_extract]; omega
theorem vis_end {s : ByteArray} (h : s.size = 0) : vis s = [] := by rw [vis, dif_neg (by omega)]
theorem vis_zero {s : ByteArray} (h : bt s 0 = 0) : vis s = [] := by rw [vis, dif_neg (fun x => x.2 h)]
theorem vis_bad {s : ByteArray} (h : 0 < s.size) (h0 : bt s 0 ≠ 0) (h1 : fs s = 0) : vis s = [s.extract 0 (fs s)] := by rw [vis, dif_pos ⟨h, h0⟩, dif_pos h1]
theorem vis_go {s : ByteArray} (h : 0 < s.size) (h0 : bt s 0 ≠ 0) (h1 : fs s ≠ 0) : vis s = s.extract 0 (fs s) :: vis (s.extract (fs s) s.size) := by rw [vis, dif_pos ⟨h, h0⟩, dif_neg h1]

def isM (x : ByteArray) : Prop := bt x 0 = 2 ∧ x.size = 4
instance (x : ByteArray) : Decidable (isM x) := by unfold isM; exact inferInstance
def pickV : List ByteArray → Int
  | [] => -1
  | x :: r => if isM x then 256 * bt x 2 + bt x 3 else pickV r
theorem pickV_none {l : List ByteArray} (h : ∀ x ∈ l, ¬ isM x) : pickV l = -1 := by
  induction l with
  | nil => rfl
  | cons x r ih =>
    rw [pickV, if_neg (h x (by simp))]
    exact ih fun y hy => h y (by simp [hy])
theorem pickV_at {p r : List ByteArray} {x : ByteArray} (h : ∀ y ∈ p, ¬ isM y) (hx : isM x) : pickV (p ++ x :: r) = 256 * bt x 2 + bt x 3 := by
  induction p with
  | nil => rw [List.nil_append, pickV, if_pos hx]
  | cons y q ih =>
    rw [List.cons_append, pickV, if_neg (h y (by simp))]
    exact ih fun z hz => h z (by simp [hz])

theorem fs_size {s : ByteArray} (h : 0 < s.size) : (s.extract 0 (fs s)).size = fs s := by
  have := fs_le h
  rw [ByteArray.size_extract]; omega
theorem vis_opts : ∀ (m : Nat) (s : ByteArray), s.size ≤ m → (optsS s = none ↔ ∃ x ∈ vis s, x.size = 0) ∧ ∀ os, optsS s = some os → pickV (vis s) = pick os
  | m, s, hm => by
    have e0 := at_start s
    by_cases h : 0 < s.size
    case neg =>
      have e := at_end s 0 (by omega)
      rw [e0] at e
      rw [e, vis_end (by omega)]
      refine ⟨by simp, fun os ho => ?_⟩
      injection ho with ho
      rw [← ho]; rfl
    by_cases h0 : bt s 0 = 0
    · have e := at_zero s 0 h h0
      rw [e0] at e
      rw [e, vis_zero h0]
      refine ⟨by simp, fun os ho => ?_⟩
      injection ho with ho
      rw [← ho]; rfl
    have sz := fs_size h
    by_cases h1 : bt s 0 = 1
    · have f1 : fs s = 1 := by unfold fs; rw [if_pos h1]
      have e := at_nop s 0 h h1
      rw [e0] at e
      rw [e, vis_go h h0 (by omega), f1]
      rw [f1] at sz
      match m, hm with
      | 0, hm => omega
      | m + 1, hm =>
        have ih := vis_opts m (s.extract 1 s.size) (by rw [ByteArray.size_extract]; omega)
        have b0 : bt (s.extract 0 1) 0 = 1 := by rw [bt_extract s 0 1 0 (by omega) (by omega)]; exact h1
        have nm : ¬ isM (s.extract 0 1) := fun q => by have := q.1; omega
        refine ⟨?_, fun os ho => ?_⟩
        · rw [Option.map_eq_none_iff, Nat.zero_add, ih.1]
          constructor
          · rintro ⟨x, hx, hz⟩; exact ⟨x, by simp [hx], hz⟩
          · rintro ⟨x, hx, hz⟩
            rw [List.mem_cons] at hx
            rcases hx with rfl | hx
            · omega
            · exact ⟨x, hx, hz⟩
        · rw [Nat.zero_add] at ho
          cases hq : optsS (s.extract 1 s.size) with
          | none => rw [hq] at ho; cases ho
          | some ys =>
            rw [hq] at ho
            injection ho with ho
            rw [← ho, pickV, if_neg nm, ih.2 ys hq, pick, if_neg (by omega)]
    by_cases hb : s.size < 2 ∨ bt s 1 < 2 ∨ (s.size : Int) < bt s 1
    · have f0 : fs s = 0 := by unfold fs; rw [if_neg h1, if_pos hb]
      have e := at_bad s 0 h h0 h1 (by rw [Nat.zero_add]; omega)
      rw [e0] at e
      rw [e, vis_bad h h0 f0]
      rw [f0] at sz ⊢
      exact ⟨⟨fun _ => ⟨_, List.mem_singleton.2 rfl, sz⟩, fun _ => rfl⟩, fun os ho => by cases ho⟩
    have f2 : fs s = (bt s 1).toNat := by unfold fs; rw [if_neg h1, if_neg hb]
    obtain ⟨n, hn⟩ : ∃ n, n = fs s := ⟨_, rfl⟩
    have hn1 : bt s (0 + 1) = (n : Int) := by rw [Nat.zero_add]; omega
    have e := at_go s 0 n (by omega) h0 h1 hn1 (by omega) (by omega)
    rw [e0, Nat.zero_add, Nat.zero_add] at e
    rw [e, vis_go h h0 (by omega), ← hn]
    rw [← hn] at sz
    match m, hm with
    | 0, hm => omega
    | m + 1, hm =>
      have ih := vis_opts m (s.extract n s.size) (by rw [ByteArray.size_extract]; omega)
      refine ⟨?_, fun os ho => ?_⟩
      · rw [Option.map_eq_none_iff, ih.1]
        constructor
        · rintro ⟨x, hx, hz⟩; exact ⟨x, by simp [hx], hz⟩
        · rintro ⟨x, hx, hz⟩
          rw [List.mem_cons] at hx
          rcases hx with rfl | hx
          · omega
          · exact ⟨x, hx, hz⟩
      · cases hq : optsS (s.extract n s.size) with
        | none => rw [hq] at ho; cases ho
        | some ys =>
          rw [hq] at ho
          injection ho with ho
          have b0 : bt (s.extract 0 n) 0 = bt s 0 := by rw [bt_extract s 0 n 0 (by omega) (by omega)]
          have d2 : (s.extract 2 n).size = n - 2 := by rw [ByteArray.size_extract]; omega
          rw [← ho, pickV, pick, ih.2 ys hq]
          by_cases q : bt s 0 = 2 ∧ n = 4
          · have q4 := q.2
            subst q4
            rw [if_pos ⟨by rw [b0]; exact q.1, sz⟩, if_pos ⟨q.1, d2⟩, bt_extract s 0 4 2 (by omega) (by omega), bt_extract s 0 4 3 (by omega) (by omega), bt_extract s 2 4 0 (by omega) (by omega), bt_extract s 2 4 1 (by omega) (by omega)]
          · rw [if_neg (fun x => q ⟨by rw [← b0]; exact x.1, by have := x.2; omega⟩), if_neg (fun x => q ⟨x.1, by have := x.2; omega⟩)]
  termination_by m => m
/-- What Mss tells, off what is handed out. -/
theorem mss_bad {s : ByteArray} (h : ∃ x ∈ vis s, x.size = 0) : mss s = (0, 4) := by
  have := (vis_opts _ s (Nat.le_refl _)).1.2 h
  unfold mss
  rw [this]
theorem mss_good {s : ByteArray} (h : ∀ x ∈ vis s, 0 < x.size) : mss s = if pickV (vis s) < 0 then (0, 6) else (pickV (vis s), 0) := by
  have v := vis_opts _ s (Nat.le_refl _)
  cases hq : optsS s with
  | none =>
    obtain ⟨x, hx, hz⟩ := v.1.1 hq
    have := h x hx
    omega
  | some ys =>
    unfold mss
    rw [hq, v.2 ys hq]
end Go.Proofs.Ytadjkidjkgnkoaa.Vis
