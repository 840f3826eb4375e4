/- Routes in another order: plain facts. -/
import Derived.Test.YtnabjhdamofpgaaLawGoneD
set_option linter.unusedVariables false
namespace Go.Proofs.Ytnabjhdamofpgaa.LawOrdD
open Go.RowKit Go.PlainAid Go.Proofs.Ytnabjhdamofpgaa.Sums Go.Proofs.Ytnabjhdamofpgaa.Mem Go.Proofs.Ytnabjhdamofpgaa.Blk Go.Proofs.Ytnabjhdamofpgaa.Grp Go.Proofs.Ytnabjhdamofpgaa.AdrD Go.Proofs.Ytnabjhdamofpgaa.AdrR Go.Proofs.Ytnabjhdamofpgaa.Steps Go.Proofs.Ytnabjhdamofpgaa.Com Go.Proofs.Ytnabjhdamofpgaa.RowN Go.Proofs.Ytnabjhdamofpgaa.RowA Go.Proofs.Ytnabjhdamofpgaa.ArgT Go.Proofs.Ytnabjhdamofpgaa.TabD Go.Proofs.Ytnabjhdamofpgaa.TabOps Go.Proofs.Ytnabjhdamofpgaa.TabM Go.Proofs.Ytnabjhdamofpgaa.Free Go.Proofs.Ytnabjhdamofpgaa.RtD Go.Proofs.Ytnabjhdamofpgaa.Rt4 Go.Proofs.Ytnabjhdamofpgaa.Rt7 Go.Proofs.Ytnabjhdamofpgaa.Rt9 Go.Proofs.Ytnabjhdamofpgaa.RtA Go.Proofs.Ytnabjhdamofpgaa.LawS18 Go.Proofs.Ytnabjhdamofpgaa.TabR3 Go.Proofs.Ytnabjhdamofpgaa.LawLong18 Go.Proofs.Ytnabjhdamofpgaa.LawGoneD

/-- The same prefix. -/
def Key (r s : RouteR) : Prop := pfx r.x0 r.x1 = pfx s.x0 s.x1 ∧ r.x1 = s.x1
def nrm (r : RouteR) : RouteR := ⟨pfx r.x0 r.x1, r.x1, r.x2, r.x3⟩
def okB (r : RouteR) : Bool := addB r.x0 r.x1 r.x2 r.x3
theorem foldA_snoc (l : List RouteR) (r : RouteR) : foldA (l ++ [r]) = addL (foldA l) r.x0 r.x1 r.x2 r.x3 := by
  unfold foldA
  rw [List.foldl_append]
  rfl
theorem fold_tab (l : List RouteR) : Tab (foldA l) := by
  induction l using snoc_ind with
  | h0 => exact Tab.nil
  | h1 l r ih => rw [foldA_snoc]; exact ih.add _ _ _ _
theorem fold_mem : ∀ (l : List RouteR), l.length ≤ 60 → l.Pairwise (fun r s => ¬ Key r s) → ∀ x, x ∈ foldA l ↔ ∃ r ∈ l, okB r = true ∧ x = nrm r := by
  intro l
  induction l using snoc_ind with
  | h0 => intro _ _ x; simp [foldA]
  | h1 l r ih =>
    intro hl hp x
    rw [List.length_append, List.length_singleton] at hl
    have hp1 := (List.pairwise_append.1 hp).1
    have hp2 := (List.pairwise_append.1 hp).2.2
    have ih := ih (by omega) hp1
    have hlen : (foldA l).length < 64 := by
      have := fold_len l [] (by simp; omega)
      unfold foldA
      simp at this
      omega
    rw [foldA_snoc]
    cases hb : addB r.x0 r.x1 r.x2 r.x3 with
    | false =>
      have e2 : addL (foldA l) r.x0 r.x1 r.x2 r.x3 = foldA l := by unfold addL; rw [hb]; rfl
      rw [e2, ih x]
      constructor
      · rintro ⟨s, h1, h2⟩; exact ⟨s, by simp [h1], h2⟩
      · rintro ⟨s, h1, h2, h3⟩
        rcases List.mem_append.1 h1 with h1 | h1
        · exact ⟨s, h1, h2, h3⟩
        · rw [List.mem_singleton.1 h1] at h2
          unfold okB at h2
          rw [hb] at h2
          cases h2
    | true =>
      have ht : thereB (foldA l) (pfx r.x0 r.x1) r.x1 = false := by
        cases q : thereB (foldA l) (pfx r.x0 r.x1) r.x1 with
        | false => rfl
        | true =>
          obtain ⟨y, hy, e0, e1⟩ := (there_iff (fold_tab l).srt).1 q
          obtain ⟨s, hs, _, rfl⟩ := (ih y).1 hy
          exact absurd ⟨e0, e1⟩ (hp2 s hs r (by simp))
      rw [(add_new_eq hb ht hlen).2]
      have key : x ∈ (foldA l).take (placeN (foldA l) (pfx r.x0 r.x1) r.x1) ++ nrm r :: (foldA l).drop (placeN (foldA l) (pfx r.x0 r.x1) r.x1) ↔ x ∈ foldA l ∨ x = nrm r := by
        rw [List.mem_append, List.mem_cons]
        have e : x ∈ foldA l ↔ x ∈ (foldA l).take (placeN (foldA l) (pfx r.x0 r.x1) r.x1) ∨ x ∈ (foldA l).drop (placeN (foldA l) (pfx r.x0 r.x1) r.x1) := by
          rw [← List.mem_append, List.take_append_drop]
        rw [e]
        constructor
        · rintro (h | h | h)
          · exact .inl (.inl h)
          · exact .inr h
          · exact .inl (.inr h)
        · rintro ((h | h) | h)
          · exact .inl h
          · exact .inr (.inr h)
          · exact .inr (.inl h)
      rw [show (⟨pfx r.x0 r.x1, r.x1, r.x2, r.x3⟩ : RouteR) = nrm r from rfl, key, ih x]
      constructor
      · rintro (⟨s, h1, h2⟩ | h)
        · exact ⟨s, by simp [h1], h2⟩
        · exact ⟨r, by simp, hb, h⟩
      · rintro ⟨s, h1, h2, h3⟩
        rcases List.mem_append.1 h1 with h1 | h1
        · exact .inl ⟨s, h1, h2, h3⟩
        · rw [List.mem_singleton.1 h1] at h3
          exact .inr h3
/-- Two sorted rows of the same routes are one. -/
theorem srt_ext : ∀ (l m : List RouteR), Srt l → Srt m → (∀ x, x ∈ l ↔ x ∈ m) → l = m
  | [], [], _, _, _ => rfl
  | [], b :: m, _, _, h => absurd ((h b).2 (by simp)) (by simp)
  | a :: l, [], _, _, h => absurd ((h a).1 (by simp)) (by simp)
  | a :: l, b :: m, hl, hm, h => by
    have hl1 := List.pairwise_cons.1 hl
    have hm1 := List.pairwise_cons.1 hm
    have e : a = b := by
      rcases List.mem_cons.1 ((h a).1 (by simp)) with e | ha
      · exact e
      · rcases List.mem_cons.1 ((h b).2 (by simp)) with e | hb
        · exact e.symm
        · have k1 := hm1.1 a ha
          have k2 := hl1.1 b hb
          have := ahead_trans k1 k2
          rw [ahead_no] at this
          cases this
    subst e
    rw [srt_ext l m hl1.2 hm1.2 fun x => ?_]
    constructor
    · intro hx
      rcases List.mem_cons.1 ((h x).1 (by simp [hx])) with e | q
      · subst e
        have := hl1.1 x hx
        rw [ahead_no] at this
        cases this
      · exact q
    · intro hx
      rcases List.mem_cons.1 ((h x).2 (by simp [hx])) with e | q
      · subst e
        have := hm1.1 x hx
        rw [ahead_no] at this
        cases this
      · exact q
/-- The routes turned by y places. -/
def turnL (rs : List RouteR) (y : Nat) : List RouteR := (List.range rs.length).map fun k => rs.getD ((k + y) % rs.length) ZR
theorem turn_len (rs : List RouteR) (y : Nat) : (turnL rs y).length = rs.length := by simp [turnL]
theorem turn_at {rs : List RouteR} {y k : Nat} (h : k < rs.length) : ∃ r, rs[(k + y) % rs.length]? = some r ∧ (turnL rs y)[k]? = some r := by
  have h2 : (k + y) % rs.length < rs.length := Nat.mod_lt _ (by omega)
  refine ⟨rs[(k + y) % rs.length], List.getElem?_eq_getElem h2, ?_⟩
  unfold turnL
  rw [List.getElem?_map, List.getElem?_range h]
  simp [List.getD_eq_getElem?_getD, h2]
theorem mod_inj {n y i j : Nat} (hi : i < n) (hj : j < n) (h : (i + y) % n = (j + y) % n) : i = j := by
  have e1 := Nat.div_add_mod (i + y) n
  have e2 := Nat.div_add_mod (j + y) n
  rw [h] at e1
  rcases Nat.lt_trichotomy ((i + y) / n) ((j + y) / n) with q | q | q
  · have := Nat.mul_le_mul_left n (show (i + y) / n + 1 ≤ (j + y) / n from q)
    rw [Nat.mul_add, Nat.mul_one] at this
    omega
  · rw [q] at e1
    omega
  · have := Nat.mul_le_mul_left n (show (j + y) / n + 1 ≤ (i + y) / n from q)
    rw [Nat.mul_add, Nat.mul_one] at this
    omega
theorem turn_mem {rs : List RouteR} {y : Nat} (x : RouteR) : x ∈ turnL rs y ↔ x ∈ rs := by
  constructor
  · intro h
    obtain ⟨k, hk⟩ := List.getElem?_of_mem h
    have hl := (List.getElem?_eq_some_iff.1 hk).1
    rw [turn_len] at hl
    obtain ⟨r, h1, h2⟩ := turn_at (y := y) hl
    rw [hk] at h2
    cases h2
    exact List.mem_of_getElem? h1
  · intro h
    obtain ⟨j, hj⟩ := List.getElem?_of_mem h
    have hl := (List.getElem?_eq_some_iff.1 hj).1
    have hy := Nat.mod_lt y (show 0 < rs.length by omega)
    have e1 := Nat.div_add_mod y rs.length
    obtain ⟨k, hk, he⟩ : ∃ k, k < rs.length ∧ (k + y) % rs.length = j := by
      rcases Nat.lt_or_ge j (y % rs.length) with q | q
      · refine ⟨j + rs.length - y % rs.length, by omega, ?_⟩
        rw [show j + rs.length - y % rs.length + y = j + rs.length * (y / rs.length + 1) by rw [Nat.mul_add, Nat.mul_one]; omega, Nat.add_mul_mod_self_left, Nat.mod_eq_of_lt hl]
      · refine ⟨j - y % rs.length, by omega, ?_⟩
        rw [show j - y % rs.length + y = j + rs.length * (y / rs.length) by omega, Nat.add_mul_mod_self_left, Nat.mod_eq_of_lt hl]
    obtain ⟨r, h1, h2⟩ := turn_at (y := y) hk
    rw [he, hj] at h1
    cases h1
    exact List.mem_of_getElem? h2
/-- No two have one prefix. -/
def Apart (rs : List RouteR) (n : Nat) : Prop := ∀ i k r s, k < i → i < n → rs[i]? = some r → rs[k]? = some s → ¬ Key r s
theorem key_symm {r s : RouteR} (h : Key r s) : Key s r := ⟨h.1.symm, h.2.symm⟩
theorem apart_ne {rs : List RouteR} (h : Apart rs rs.length) {i j : Nat} {r s : RouteR} (hr : rs[i]? = some r) (hs : rs[j]? = some s) (hij : i ≠ j) : ¬ Key r s := by
  have hi := (List.getElem?_eq_some_iff.1 hr).1
  have hj := (List.getElem?_eq_some_iff.1 hs).1
  rcases Nat.lt_or_ge i j with q | q
  · exact fun z => h j i s r q hj hs hr (key_symm z)
  · exact h i j r s (by omega) hi hr hs
theorem apart_pw {rs : List RouteR} (h : Apart rs rs.length) : rs.Pairwise (fun r s => ¬ Key r s) :=
  List.pairwise_iff_getElem.2 fun i j hi hj hij => apart_ne h (List.getElem?_eq_getElem hi) (List.getElem?_eq_getElem hj) (by omega)
theorem turn_pw {rs : List RouteR} (h : Apart rs rs.length) (y : Nat) : (turnL rs y).Pairwise (fun r s => ¬ Key r s) :=
  List.pairwise_iff_getElem.2 fun i j hi hj hij => by
    rw [turn_len] at hi hj
    obtain ⟨r, r1, r2⟩ := turn_at (y := y) hi
    obtain ⟨s, s1, s2⟩ := turn_at (y := y) hj
    rw [(List.getElem?_eq_some_iff.1 r2).2, (List.getElem?_eq_some_iff.1 s2).2]
    exact apart_ne h r1 s1 (fun e => by have := mod_inj hi hj e; omega)
/-- In whatever order: the same row. -/
theorem turn_same {rs : List RouteR} (h : Apart rs rs.length) (hl : rs.length ≤ 60) (y : Nat) : foldA rs = foldA (turnL rs y) :=
  srt_ext _ _ (fold_tab rs).srt (fold_tab _).srt fun x => by
    rw [fold_mem rs hl (apart_pw h) x, fold_mem (turnL rs y) (by rw [turn_len]; exact hl) (turn_pw h y) x]
    constructor
    · rintro ⟨r, h1, h2⟩; exact ⟨r, (turn_mem r).2 h1, h2⟩
    · rintro ⟨r, h1, h2⟩; exact ⟨r, (turn_mem r).1 h1, h2⟩
end Go.Proofs.Ytnabjhdamofpgaa.LawOrdD
