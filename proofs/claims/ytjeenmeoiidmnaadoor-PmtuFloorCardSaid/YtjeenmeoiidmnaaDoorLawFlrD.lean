/- PmtuFloor, the plain half. -/
import Derived.Test.YtjeenmeoiidmnaaDoorPmtM
set_option linter.unusedVariables false
namespace Go.Proofs.YtjeenmeoiidmnaaDoor.LawFlrD
open Go.Proofs.YtjeenmeoiidmnaaDoor.MapK Go.Proofs.YtjeenmeoiidmnaaDoor.PmtM

/-- What holds of all entries when the times rise. -/
def FI (now : Int) (es : List Ent) : Prop := ∀ q ∈ es, (fun (d : ByteArray) (v : Int × Int) => v.2 ≤ now ∧ ∀ l, least d = some l → l ≤ v.1) q.1 q.2
theorem FI.nil (now : Int) : FI now [] := fun q h => absurd h (by simp)
theorem FI.up {now now' : Int} {es : List Ent} (h : FI now es) (k : now ≤ now') : FI now' es := fun q hq => ⟨Int.le_trans (h q hq).1 k, (h q hq).2⟩
theorem fi_put {now : Int} {d : ByteArray} {n l : Int} {es : List Ent} (h : FI now es) (hl : least d = some l) : FI now (put d (max n l, now) es) :=
  put_all (Q := fun (d : ByteArray) (v : Int × Int) => v.2 ≤ now ∧ ∀ l, least d = some l → l ≤ v.1) h ⟨Int.le_refl _, fun l' h' => by rw [hl] at h'; cases h'; exact Int.le_max_right _ _⟩
theorem fi_tell {now : Int} {d : ByteArray} {n : Int} {es : List Ent} (h : FI now es) : FI now (tellL now d n es) := by
  unfold tellL
  split
  · exact h
  · rename_i l hl
    split
    · split
      · exact h
      · split
        · exact fi_put h hl
        · exact h
    · split
      · exact fi_put h hl
      · exact h
/-- What a round asks of the answers. -/
structure Ans (l N : Int) (was tel is m bef aft : Int × Int) : Prop where
  w2 : was.2 = 0
  i2 : is.2 = 0
  m2 : m.2 = 0
  b2 : bef.2 = 0
  a2 : aft.2 = 0
  wl : l ≤ was.1
  il : l ≤ is.1
  iw : is.1 ≤ was.1
  mN : m.1 ≤ N
  b1 : bef.1 ≤ 70000
  a1 : aft.1 = 70000
  t : (tel.2 = 0 ∧ l ≤ tel.1 ∧ is.1 ≤ tel.1 ∧ tel.1 ≤ max N l) ∨ tel.2 = 7
theorem ask_none {now : Int} {d : ByteArray} {n l : Int} {es : List Ent} (hl : least d = some l) (h : known now d es = none) : askA now d n es = (n, 0) := by
  unfold askA
  rw [hl]
  simp only [h]
theorem ask_some {now : Int} {d : ByteArray} {n l k : Int} {es : List Ent} (hl : least d = some l) (h : known now d es = some k) : askA now d n es = (min n k, 0) := by
  unfold askA
  rw [hl]
  simp only [h]
theorem ask_any {now : Int} {d : ByteArray} {n l : Int} {es : List Ent} (hl : least d = some l) : (askA now d n es).2 = 0 ∧ (askA now d n es).1 ≤ n := by
  cases h : known now d es with
  | none => rw [ask_none hl h]; exact ⟨rfl, Int.le_refl _⟩
  | some k => rw [ask_some hl h]; exact ⟨rfl, Int.min_le_left _ _⟩
theorem known_l {now : Int} {d : ByteArray} {l k : Int} {es : List Ent} (hl : least d = some l) (h : FI now es) (hk : known now d es = some k) : l ≤ k := by
  unfold known at hk
  cases hg : MapK.get d es with
  | none => rw [hg] at hk; cases hk
  | some e =>
    rw [hg] at hk
    have m := (h _ (get_mem hg)).2 l hl
    have hk' : (if freshB now e = true then some e.1 else none) = some k := hk
    split at hk'
    · cases hk'; exact m
    · cases hk'
theorem late {now : Int} {d : ByteArray} {es : List Ent} (h : FI now es) : known (now + 600) d es = none := by
  unfold known
  cases hg : MapK.get d es with
  | none => rfl
  | some e =>
    have m := (h _ (get_mem hg)).1
    have f : freshB (now + 600) e = false := by unfold freshB; rw [decide_eq_false_iff_not]; simp at m; omega
    show (if freshB (now + 600) e = true then some e.1 else none) = none
    rw [f]
    rfl
theorem known_put {now : Int} {d : ByteArray} {M : Int} {es : List Ent} : known now d (put d (M, now) es) = some M := by
  unfold known
  rw [get_put, if_pos rfl]
  have f : freshB now (M, now) = true := by unfold freshB; simp
  show (if freshB now (M, now) = true then some M else none) = _
  rw [if_pos f]
theorem least_b {d : ByteArray} {l : Int} (h : least d = some l) : l ≤ 1280 := by
  unfold least at h
  split at h
  · cases h; omega
  · split at h
    · cases h; omega
    · cases h
theorem round (now : Int) (d : ByteArray) (N l : Int) (es : List Ent) (hl : least d = some l) (h : FI now es) :
    Ans l N (askA now d 70000 es) (tellA now d N es) (askA now d 70000 (tellL now d N es)) (askA now d N (tellL now d N es)) (askA (now + 599) d 70000 (tellL now d N es)) (askA (now + 600) d 70000 (tellL now d N es)) := by
  have lb := least_b hl
  have hB := @ask_any (now + 599) d 70000 l (tellL now d N es) hl
  have hM := @ask_any now d N l (tellL now d N es) hl
  have hA : askA (now + 600) d 70000 (tellL now d N es) = (70000, 0) := ask_none hl (late (fi_tell h))
  have core : ∀ was is tel : Int × Int, was = askA now d 70000 es → is = askA now d 70000 (tellL now d N es) → tel = tellA now d N es → was.2 = 0 ∧ is.2 = 0 ∧ l ≤ was.1 ∧ l ≤ is.1 ∧ is.1 ≤ was.1 ∧ ((tel.2 = 0 ∧ l ≤ tel.1 ∧ is.1 ≤ tel.1 ∧ tel.1 ≤ max N l) ∨ tel.2 = 7) := by
    intro was is tel e1 e2 e3
    obtain ⟨M, hM⟩ : ∃ M, max N l = M := ⟨_, rfl⟩
    have lM : l ≤ M := by rw [← hM]; exact Int.le_max_right _ _
    rw [hM]
    unfold tellL at e2
    unfold tellA at e3
    rw [hl] at e2 e3
    simp only [hM] at e2 e3
    cases hk : known now d es with
    | none =>
      rw [ask_none hl hk] at e1
      simp only [hk] at e2 e3
      cases hr : room d es with
      | true =>
        rw [hr, if_pos rfl] at e2 e3
        rw [ask_some hl known_put] at e2
        subst e1 e2 e3
        refine ⟨rfl, rfl, by show l ≤ 70000; omega, ?_, ?_, .inl ⟨rfl, lM, ?_, Int.le_refl _⟩⟩
        · show l ≤ min 70000 M; omega
        · show min 70000 M ≤ 70000; omega
        · show min 70000 M ≤ M; omega
      | false =>
        rw [hr, if_neg (by simp)] at e2 e3
        rw [ask_none hl hk] at e2
        subst e1 e2 e3
        exact ⟨rfl, rfl, by show l ≤ 70000; omega, by show l ≤ 70000; omega, Int.le_refl _, .inr rfl⟩
    | some k =>
      have lk := known_l hl h hk
      rw [ask_some hl hk] at e1
      simp only [hk] at e2 e3
      by_cases c : k ≤ M
      · rw [if_pos c] at e2 e3
        rw [ask_some hl hk] at e2
        subst e1 e2 e3
        refine ⟨rfl, rfl, ?_, ?_, Int.le_refl _, .inl ⟨rfl, lk, ?_, c⟩⟩
        · show l ≤ min 70000 k; omega
        · show l ≤ min 70000 k; omega
        · show min 70000 k ≤ k; omega
      · have hr : room d es = true := by
          unfold room
          unfold known at hk
          cases hg : MapK.get d es with
          | none => rw [hg] at hk; cases hk
          | some e => rfl
        rw [if_neg c, hr, if_pos rfl] at e2 e3
        rw [ask_some hl known_put] at e2
        subst e1 e2 e3
        refine ⟨rfl, rfl, ?_, ?_, ?_, .inl ⟨rfl, lM, ?_, Int.le_refl _⟩⟩
        · show l ≤ min 70000 k; omega
        · show l ≤ min 70000 M; omega
        · show min 70000 M ≤ min 70000 k; omega
        · show min 70000 M ≤ M; omega
  obtain ⟨c1, c2, c3, c4, c5, c6⟩ := core _ _ _ rfl rfl rfl
  exact ⟨c1, c2, hM.1, hB.1, by rw [hA], c3, c4, c5, hM.2, hB.2, by rw [hA], c6⟩
theorem bad_all {d : ByteArray} (h : least d = none) (now n : Int) (es : List Ent) : askA now d n es = (0, 1) ∧ tellA now d n es = (0, 1) ∧ tellL now d n es = es := by
  unfold askA tellA tellL
  rw [h]
  exact ⟨rfl, rfl, rfl⟩
end Go.Proofs.YtjeenmeoiidmnaaDoor.LawFlrD
