/- The associations: plain facts, for the laws. -/
import Derived.Test.YtppnkkpjfjhfkaaDoorM20
set_option linter.unusedVariables false
namespace Go.Proofs.YtppnkkpjfjhfkaaDoor.SadP
open Go.RowKit Go.Proofs.YtppnkkpjfjhfkaaDoor.Mem Go.Proofs.YtppnkkpjfjhfkaaDoor.ArgT Go.Proofs.YtppnkkpjfjhfkaaDoor.Longs Go.Proofs.YtppnkkpjfjhfkaaDoor.WinD Go.Proofs.YtppnkkpjfjhfkaaDoor.SadM Go.Proofs.YtppnkkpjfjhfkaaDoor.SadR1 Go.Proofs.YtppnkkpjfjhfkaaDoor.SadR2 Go.Proofs.YtppnkkpjfjhfkaaDoor.SadR3 Go.Proofs.YtppnkkpjfjhfkaaDoor.SadR4 Go.Proofs.YtppnkkpjfjhfkaaDoor.SadR5 Go.Proofs.YtppnkkpjfjhfkaaDoor.SadR6 Go.Proofs.YtppnkkpjfjhfkaaDoor.SadR7 Go.Proofs.YtppnkkpjfjhfkaaDoor.SadR8 Go.Proofs.YtppnkkpjfjhfkaaDoor.SadMay Go.Proofs.YtppnkkpjfjhfkaaDoor.SadR10

/-- What holds all along a script, behind k calls. -/
structure Good (k : Nat) (es : List Ent) : Prop where
  few : es.length ≤ 32
  all : ∀ e ∈ es, 0 ≤ e.born ∧ e.born ≤ 1000000000 ∧ 0 ≤ e.bytes ∧ e.bytes ≤ (k : Int) * 1000000000 ∧ e.acc.length ≤ k ∧ mayL e.life = true
  one : ∀ (i j : Nat) d e, es[i]? = some d → es[j]? = some e → d.life.x0 = e.life.x0 → d.life.x7 = e.life.x7 → i = j
section
variable {k : Nat} {es : List Ent}
theorem Good.nil (k : Nat) : Good k [] := ⟨by simp, by simp, by simp⟩
theorem Good.up (h : Good k es) : Good (k + 1) es := ⟨h.few, fun e he => by
  obtain ⟨a, b, c, d, f, g⟩ := h.all e he
  exact ⟨a, b, c, by omega, by omega, g⟩, h.one⟩
theorem Good.now (h : Good k es) {now : Int} (h1 : -1 ≤ now) (h2 : now ≤ 1000000000) : NowOk now es := fun e he => by
  obtain ⟨a, b, _⟩ := h.all e he
  omega
theorem Good.room (h : Good k es) (hk : k ≤ 1000) {n : Int} (h1 : -9223372036854775808 ≤ n) (h2 : n ≤ 1000000000) : RoomOk n es := fun e he => by
  obtain ⟨a, b, c, d, f, _⟩ := h.all e he
  omega
theorem mayL_sa {r : LifeR} (h : mayL r = true) : 256 ≤ r.x0 ∧ r.x0 ≤ 4294967295 ∧ (r.x1.size = 16 ∨ r.x1.size = 32) ∧ r.x2.size = 4 ∧ r.x3.size = 32 := by
  unfold mayL at h
  rw [Bool.and_eq_true] at h
  have := may_facts h.1
  exact ⟨this.1, this.2.1, this.2.2.1, this.2.2.2.1, this.2.2.2.2.1⟩
theorem mayL_ok {r : LifeR} (h : mayL r = true) (W : World) : r.ok W := by
  obtain ⟨_, _, a, b, c⟩ := mayL_sa h
  exact ⟨by omega, by omega, by omega⟩
theorem not_hit {spi : Int} {out : Bool} (h : findI spi out es = none) : ∀ e ∈ es, ¬ (e.life.x0 = spi ∧ e.life.x7 = out) := fun e he ⟨a, b⟩ => by
  unfold findI at h
  have := (List.findIdx?_eq_none_iff.1 h) e he
  simp [hitE, a, b] at this
theorem hit_is {spi : Int} {out : Bool} {e : Ent} : hitE spi out e = true ↔ e.life.x0 = spi ∧ e.life.x7 = out := by simp [hitE]
theorem Good.add (h : Good k es) (now : Int) (hn : now ≤ 1000000000) (r : LifeR) : Good (k + 1) (addS now r es).2 := by
  unfold addS
  by_cases a : mayL r = false ∨ now < 0
  · rw [if_pos a]; exact h.up
  · rw [if_neg a]
    cases hf : findI r.x0 r.x7 es with
    | some i => exact h.up
    | none =>
      have nh := not_hit hf
      show Good (k + 1) (if 32 ≤ es.length then (7, es) else (0, es ++ [newE r now])).2
      by_cases q : 32 ≤ es.length
      · rw [if_pos q]; exact h.up
      · rw [if_neg q]
        refine ⟨by simp; omega, fun e he => ?_, fun i j d e hd he e0 e7 => ?_⟩
        · rcases List.mem_append.1 he with z | z
          · exact h.up.all e z
          · obtain rfl := List.mem_singleton.1 z
            refine ⟨by show 0 ≤ now; omega, hn, Int.le_refl 0, by show (0 : Int) ≤ _; omega, Nat.zero_le _, ?_⟩
            show mayL r = true
            simpa using fun z => a (.inl z)
        · rw [List.getElem?_append] at hd he
          have last : ∀ (i : Nat) (d : Ent), ¬ i < es.length → ([newE r now])[i - es.length]? = some d → i = es.length ∧ d = newE r now := fun i d hi hd => by
            have := (List.getElem?_eq_some_iff.1 hd).1
            simp at this
            have z : i - es.length = 0 := by omega
            rw [z] at hd
            exact ⟨by omega, (Option.some.inj hd).symm⟩
          by_cases p : i < es.length
          · rw [if_pos p] at hd
            by_cases q : j < es.length
            · rw [if_pos q] at he
              exact h.one i j d e hd he e0 e7
            · rw [if_neg q] at he
              obtain ⟨_, rfl⟩ := last j e q he
              exact absurd ⟨e0, e7⟩ (nh d (List.mem_of_getElem? hd))
          · rw [if_neg p] at hd
            obtain ⟨rfl, rfl⟩ := last i d p hd
            by_cases q : j < es.length
            · rw [if_pos q] at he
              exact absurd ⟨e0.symm, e7.symm⟩ (nh e (List.mem_of_getElem? he))
            · rw [if_neg q] at he
              exact (last j e q he).1.symm
theorem Good.remove (h : Good k es) (spi : Int) (out : Bool) : Good (k + 1) (removeS spi out es).2 := by
  unfold removeS
  cases hf : findI spi out es with
  | none => exact h.up
  | some i =>
    refine ⟨Nat.le_trans (List.eraseIdx_sublist es i).length_le h.few, fun e he => h.up.all e ((List.eraseIdx_sublist es i).subset he), fun a b d e hd he e0 e7 => ?_⟩
    have at_ : ∀ (a : Nat) (d : Ent), (es.eraseIdx i)[a]? = some d → es[if a < i then a else a + 1]? = some d := fun a d hd => by
      rw [List.getElem?_eraseIdx] at hd
      split at hd <;> rename_i q
      · rw [if_pos q]; exact hd
      · rw [if_neg q]; exact hd
    have := h.one _ _ d e (at_ a d hd) (at_ b e he) e0 e7
    split at this <;> split at this <;> omega
theorem Good.set (h : Good k es) {i : Nat} {e e' : Ent} (he : es[i]? = some e) (h1 : e'.life = e.life) (h2 : e'.born = e.born) (h3 : 0 ≤ e'.bytes) (h4 : e'.bytes ≤ e.bytes + 1000000000) (h5 : e'.acc.length ≤ e.acc.length + 1) : Good (k + 1) (es.set i e') := by
  have hm := List.mem_of_getElem? he
  have hlt := (List.getElem?_eq_some_iff.1 he).1
  have at_ : ∀ (a : Nat) (d : Ent), (es.set i e')[a]? = some d → ∃ d0, es[a]? = some d0 ∧ d0.life = d.life := fun a d hd => by
    rw [List.getElem?_set] at hd
    by_cases q : i = a
    · subst q
      rw [if_pos rfl, if_pos hlt] at hd
      obtain rfl := Option.some.inj hd
      exact ⟨e, he, h1.symm⟩
    · rw [if_neg q] at hd
      exact ⟨d, hd, rfl⟩
  refine ⟨by simpa using h.few, fun d hd => ?_, fun a b d f hd hf e0 e7 => ?_⟩
  · rcases List.mem_or_eq_of_mem_set hd with q | rfl
    · exact h.up.all d q
    · obtain ⟨a1, a2, a3, a4, a5, a6⟩ := h.all e hm
      exact ⟨by omega, by omega, h3, by omega, by omega, by rw [h1]; exact a6⟩
  · obtain ⟨d0, g1, g2⟩ := at_ a d hd
    obtain ⟨f0, g3, g4⟩ := at_ b f hf
    exact h.one a b d0 f0 g1 g3 (by rw [g2, g4]; exact e0) (by rw [g2, g4]; exact e7)
theorem Good.send (h : Good k es) (now spi : Int) (n : Int) (hn : n ≤ 1000000000) : Good (k + 1) (sendS now spi n es).2.2.2 := by
  unfold sendS
  split
  · exact h.up
  · split
    · exact h.up
    · split
      · exact h.up
      · rename_i q _ i hf _ e he
        split
        · exact h.up
        · split
          · exact h.up
          · have b0 := (h.all e (List.mem_of_getElem? he)).2.2.1
            exact h.set he rfl rfl (by show 0 ≤ e.bytes + n; omega) (by show e.bytes + n ≤ _; omega) (by show e.acc.length ≤ _; omega)
theorem took_bytes (e : Ent) (seq : Nat) (n : Int) : (took e seq n).bytes = e.bytes + n ∨ (took e seq n).bytes = e.bytes := by
  unfold took
  by_cases q : chk e.life.x5.toNat e.life.x4 e.acc seq = 0
  · exact .inl (if_pos q)
  · exact .inr (if_neg q)
theorem Good.take (h : Good k es) (now spi : Int) (seq : Nat) (n : Int) (hn : n ≤ 1000000000) : Good (k + 1) (takeS now spi seq n es).2 := by
  unfold takeS
  split
  · exact h.up
  · split
    · exact h.up
    · split
      · exact h.up
      · rename_i q _ i hf _ e he
        split
        · exact h.up
        · have b0 := (h.all e (List.mem_of_getElem? he)).2.2.1
          have tb := took_bytes e seq n
          exact h.set he rfl rfl (by omega) (by omega) (acc_len _ _ _ _)
/-- Ages do not fall. -/
def Up (es es' : List Ent) : Prop := ∀ now spi out, (ageS now spi out es).2 = 0 → (ageS now spi out es').2 = 0 ∧ (ageS now spi out es).1 ≤ (ageS now spi out es').1
theorem Up.refl (es : List Ent) : Up es es := fun _ _ _ h => ⟨h, Nat.le_refl _⟩
theorem findI_get {spi : Int} {out : Bool} {i : Nat} (h : findI spi out es = some i) : ∃ e, es[i]? = some e := by
  obtain ⟨e, he, _⟩ := findI_is h
  exact ⟨e, he⟩
theorem ageS_of {now spi : Int} {out : Bool} {i : Nat} {e : Ent} (h : findI spi out es = some i) (he : es[i]? = some e) : ageS now spi out es = (ageN e now, 0) := by
  simp only [ageS, h, he]
theorem ageS_found {now spi : Int} {out : Bool} (h : (ageS now spi out es).2 = 0) : ∃ i e, findI spi out es = some i ∧ es[i]? = some e ∧ ageS now spi out es = (ageN e now, 0) := by
  cases hf : findI spi out es with
  | none => simp [ageS, hf] at h
  | some i =>
    obtain ⟨e, he⟩ := findI_get hf
    exact ⟨i, e, rfl, he, ageS_of hf he⟩
theorem findI_push {spi : Int} {out : Bool} {i : Nat} (h : findI spi out es = some i) (e : Ent) : findI spi out (es ++ [e]) = some i := by
  unfold findI at h ⊢
  rw [List.findIdx?_append, h]
  rfl
theorem findI_set (spi : Int) (out : Bool) : ∀ (es : List Ent) (i : Nat) (e e' : Ent), es[i]? = some e → e'.life = e.life → findI spi out (es.set i e') = findI spi out es
  | [], i, e, e', h, _ => by simp at h
  | a :: t, 0, e, e', h, hl => by
    obtain rfl : a = e := by simpa using h
    unfold findI
    rw [List.set_cons_zero, List.findIdx?_cons, List.findIdx?_cons, show hitE spi out e' = hitE spi out a by unfold hitE; rw [hl]]
  | a :: t, i + 1, e, e', h, hl => by
    have := findI_set spi out t i e e' (by simpa using h) hl
    unfold findI at this ⊢
    rw [List.set_cons_succ, List.findIdx?_cons, List.findIdx?_cons, this]
theorem over_up {b b' most time long : Int} (h : b ≤ b') (ho : overB b most time long = true) : overB b' most time long = true := by
  simp only [overB, Bool.or_eq_true, Bool.and_eq_true, decide_eq_true_eq] at ho ⊢
  omega
theorem ageN_up {e e' : Ent} (h1 : e'.life = e.life) (h2 : e'.born = e.born) (h3 : e.bytes ≤ e'.bytes) (now : Int) : ageN e now ≤ ageN e' now := by
  unfold ageN
  rw [h1, h2]
  by_cases q : overB e.bytes e.life.x9 (now - e.born) e.life.x11 = true
  · rw [if_pos q, if_pos (over_up h3 q)]
    exact Nat.le_refl _
  · rw [if_neg q]
    by_cases p : overB e.bytes e.life.x8 (now - e.born) e.life.x10 = true
    · rw [if_pos p, if_pos (over_up h3 p)]
      split
      · exact Nat.le_succ 1
      · exact Nat.le_refl 1
    · rw [if_neg p]
      exact Nat.zero_le _
theorem Up.push (e : Ent) : Up es (es ++ [e]) := fun now spi out h => by
  obtain ⟨i, d, hf, hd, ha⟩ := ageS_found h
  have := ageS_of (now := now) (findI_push hf e) (show (es ++ [e])[i]? = some d by rw [List.getElem?_append, if_pos (List.getElem?_eq_some_iff.1 hd).1]; exact hd)
  rw [ha, this]
  exact ⟨rfl, Nat.le_refl _⟩
theorem Up.set {i : Nat} {e e' : Ent} (he : es[i]? = some e) (h1 : e'.life = e.life) (h2 : e'.born = e.born) (h3 : e.bytes ≤ e'.bytes) : Up es (es.set i e') := fun now spi out h => by
  obtain ⟨j, d, hf, hd, ha⟩ := ageS_found h
  have hf' := (findI_set spi out es i e e' he h1).trans hf
  have hlt := (List.getElem?_eq_some_iff.1 he).1
  by_cases q : i = j
  · subst q
    obtain rfl := Option.some.inj (he.symm.trans hd)
    rw [ha, ageS_of hf' (show (es.set i e')[i]? = some e' by rw [List.getElem?_set, if_pos rfl, if_pos hlt])]
    exact ⟨rfl, ageN_up h1 h2 h3 now⟩
  · rw [ha, ageS_of hf' (show (es.set i e')[j]? = some d by rw [List.getElem?_set, if_neg q]; exact hd)]
    exact ⟨rfl, Nat.le_refl _⟩
theorem add_up (now : Int) (r : LifeR) : Up es (addS now r es).2 := by
  unfold addS
  split
  · exact Up.refl _
  · split
    · exact Up.refl _
    · split
      · exact Up.refl _
      · exact Up.push _
theorem send_up (now spi n : Int) : Up es (sendS now spi n es).2.2.2 := by
  unfold sendS
  split
  · exact Up.refl _
  · split
    · exact Up.refl _
    · split
      · exact Up.refl _
      · rename_i q _ i hf _ e he
        split
        · exact Up.refl _
        · split
          · exact Up.refl _
          · exact Up.set he rfl rfl (by show e.bytes ≤ e.bytes + n; omega)
theorem take_up (now spi : Int) (seq : Nat) (n : Int) : Up es (takeS now spi seq n es).2 := by
  unfold takeS
  split
  · exact Up.refl _
  · split
    · exact Up.refl _
    · split
      · exact Up.refl _
      · rename_i q _ i hf _ e he
        split
        · exact Up.refl _
        · have tb := took_bytes e seq n
          exact Up.set he rfl rfl (by omega)
/-- By one whose lifetime is over nothing is sent, found or taken. -/
theorem send_hard {now spi n : Int} (h : ageS now spi true es = (2, 0)) : (sendS now spi n es).2.2.1 ≠ 0 := by
  obtain ⟨i, e, hf, he, ha⟩ := ageS_found (show (ageS now spi true es).2 = 0 by rw [h])
  have h2 : ageN e now = 2 := by rw [h] at ha; exact ((Prod.mk.inj ha).1).symm
  unfold sendS
  split
  · simp
  · simp only [hf, he, h2, if_true]
    simp
theorem look_hard {now spi low : Int} (h : ageS now spi false es = (2, 0)) : (lookS now spi low es).2.2 = 171 := by
  obtain ⟨i, e, hf, he, ha⟩ := ageS_found (show (ageS now spi false es).2 = 0 by rw [h])
  have h2 : ageN e now = 2 := by rw [h] at ha; exact ((Prod.mk.inj ha).1).symm
  simp only [lookS, hf, he, h2, if_true]
theorem take_hard {now spi : Int} {seq : Nat} {n : Int} (h : ageS now spi false es = (2, 0)) : (takeS now spi seq n es).1 ≠ 0 := by
  obtain ⟨i, e, hf, he, ha⟩ := ageS_found (show (ageS now spi false es).2 = 0 by rw [h])
  have h2 : ageN e now = 2 := by rw [h] at ha; exact ((Prod.mk.inj ha).1).symm
  unfold takeS
  split
  · simp
  · simp only [hf, he, h2, if_true]
    simp
/-- The one that is picked. -/
theorem pickGo_is (now rule : Int) : ∀ (t : List Ent) (old : Int), (∀ e ∈ t, e ∈ es ∧ 0 ≤ e.life.x0) → (old < 0 ∨ ∃ e ∈ es, e.life.x7 = true ∧ e.life.x6 = rule ∧ e.life.x0 = old ∧ ageN e now ≤ 1) →
    (pickGo now rule old t = (0, 161)) ∨ ((pickGo now rule old t).2 = 0 ∧ ∃ e ∈ es, e.life.x7 = true ∧ e.life.x6 = rule ∧ e.life.x0 = (pickGo now rule old t).1 ∧ ageN e now ≤ 1)
  | [], old, _, ho => by
    unfold pickGo
    split
    · exact .inl rfl
    · rcases ho with q | q
      · contradiction
      · exact .inr ⟨rfl, q⟩
  | e :: t, old, ht, ho => by
    have ht' : ∀ e ∈ t, e ∈ es ∧ 0 ≤ e.life.x0 := fun d hd => ht d (List.mem_cons_of_mem _ hd)
    have he := ht e (List.mem_cons_self ..)
    unfold pickGo
    split
    · exact pickGo_is now rule t old ht' ho
    · rename_i q
      have q7 : e.life.x7 = true := by
        cases z : e.life.x7
        · exact absurd (.inl z) q
        · rfl
      have q6 : e.life.x6 = rule := Decidable.of_not_not fun z => q (.inr z)
      split
      · rename_i a
        exact .inr ⟨rfl, e, he.1, q7, q6, rfl, by omega⟩
      · split
        · rename_i a
          exact pickGo_is now rule t _ ht' (.inr ⟨e, he.1, q7, q6, rfl, by omega⟩)
        · exact pickGo_is now rule t old ht' ho
theorem pick_is (h : Good k es) (now rule : Int) : pickS now rule es = (0, 161) ∨ ((pickS now rule es).2 = 0 ∧ (ageS now (pickS now rule es).1 true es).2 = 0 ∧ (ageS now (pickS now rule es).1 true es).1 ≤ 1) := by
  unfold pickS
  rcases pickGo_is (es := es) now rule es (-1) (fun e he => ⟨he, by have := mayL_sa (h.all e he).2.2.2.2.2; omega⟩) (.inl (by omega)) with q | ⟨q, e, he, e7, e6, e0, ea⟩
  · exact .inl q
  · refine .inr ⟨q, ?_⟩
    obtain ⟨j, hj⟩ := List.mem_iff_getElem?.1 he
    cases hf : findI (pickGo now rule (-1) es).1 true es with
    | none => exact absurd ⟨e0, e7⟩ (not_hit hf e he)
    | some i =>
      obtain ⟨d, hd, hh⟩ := findI_is hf
      rw [hit_is] at hh
      have := h.one i j d e hd hj (hh.1.trans e0.symm) (hh.2.trans e7.symm)
      subst this
      obtain rfl := Option.some.inj (hd.symm.trans hj)
      rw [ageS_of hf hd]
      exact ⟨rfl, ea⟩
end
section
variable {A B : Ent} {x y : Int}
/-- Two associations: one outwards, one inwards. -/
theorem find_fst (h0 : A.life.x0 = x) (h7 : A.life.x7 = true) : findI x true [A, B] = some 0 := by
  unfold findI
  rw [List.findIdx?_cons, (hit_is (e := A)).2 ⟨h0, h7⟩]
  rfl
theorem find_snd (a7 : A.life.x7 = true) (h0 : B.life.x0 = y) (h7 : B.life.x7 = false) : findI y false [A, B] = some 1 := by
  unfold findI
  rw [List.findIdx?_cons, List.findIdx?_cons, (hit_is (e := B)).2 ⟨h0, h7⟩, show hitE y false A = false by simp [hitE, a7]]
  rfl
theorem send_two (h0 : A.life.x0 = x) (h7 : A.life.x7 = true) (now n : Int) :
    ((sendS now x n [A, B]).2.2.1 = 0 ∧ (sendS now x n [A, B]).2.1 = A.last + 1 ∧ (sendS now x n [A, B]).2.2.2 = [sent A n, B]) ∨ ((sendS now x n [A, B]).2.2.1 ≠ 0 ∧ (sendS now x n [A, B]).2.2.2 = [A, B]) := by
  unfold sendS
  split
  · exact .inr ⟨by simp, rfl⟩
  · simp only [find_fst (B := B) h0 h7, List.getElem?_cons_zero]
    split
    · exact .inr ⟨by simp, rfl⟩
    · split
      · exact .inr ⟨by simp, rfl⟩
      · exact .inl ⟨rfl, rfl, rfl⟩
theorem take_two (a7 : A.life.x7 = true) (h0 : B.life.x0 = y) (h7 : B.life.x7 = false) (now : Int) (seq : Nat) (n : Int) :
    ((takeS now y seq n [A, B]).1 = 0 ∧ seq ∉ B.acc ∧ (takeS now y seq n [A, B]).2 = [A, { B with bytes := B.bytes + n, acc := B.acc ++ [seq] }]) ∨ ((takeS now y seq n [A, B]).1 ≠ 0 ∧ (takeS now y seq n [A, B]).2 = [A, B]) := by
  unfold takeS
  split
  · exact .inr ⟨by simp, rfl⟩
  · simp only [find_snd a7 h0 h7, List.getElem?_cons_succ, List.getElem?_cons_zero]
    split
    · exact .inr ⟨by simp, rfl⟩
    · by_cases q : chk B.life.x5.toNat B.life.x4 B.acc seq = 0
      · refine .inl ⟨q, fun hm => ?_, ?_⟩
        · unfold chk at q
          split at q
          · cases q
          · rw [if_pos (.inr (by rw [old, was_iff.2 hm, Bool.or_true]))] at q
            cases q
        · show [A, took B seq n] = _
          simp only [took, WinD.acc, if_pos q]
      · refine .inr ⟨q, ?_⟩
        show [A, took B seq n] = _
        simp only [took, WinD.acc, if_neg q]
theorem remove_two (a0 : A.life.x0 = x) (b0 : B.life.x0 = y) {spi : Int} (h1 : spi ≠ x) (h2 : spi ≠ y) (out : Bool) : removeS spi out [A, B] = (6, [A, B]) := by
  have : findI spi out [A, B] = none := findI_none fun k e _ he => by
    match k, he with
    | 0, he =>
      obtain rfl : A = e := by simpa using he
      simp [hitE, a0, Ne.symm h1]
    | 1, he =>
      obtain rfl : B = e := by simpa using he
      simp [hitE, b0, Ne.symm h2]
  simp only [removeS, this]
/-- One follows another one. -/
theorem pick_two {now soft most later : Int} (hs : 1 ≤ soft) (hm : soft < most) (hl : 0 ≤ later) (hn : 0 ≤ now) (r : LifeR) (h6 : r.x6 = 1) (h7 : r.x7 = true) (h8 : r.x8 = 0) (h9 : r.x9 = 0) (h10 : r.x10 = soft) (h11 : r.x11 = most) (h0 : r.x0 = 300) :
    pickS now 1 [newE r 0, newE { r with x0 := 301 } later] = if now < soft then (300, 0) else if now - later < most then (301, 0) else if now < most then (300, 0) else (0, 161) := by
  have age : ∀ (q : LifeR) (t : Int), q.x8 = 0 → q.x9 = 0 → q.x10 = soft → q.x11 = most → ageN (newE q t) now = if most ≤ now - t then 2 else if soft ≤ now - t then 1 else 0 := fun q t e8 e9 e10 e11 => by
    unfold ageN overB newE
    simp only [e8, e9, e10, e11]
    have p1 : decide ((0 : Int) < most) = true := decide_eq_true (by omega)
    have p2 : decide ((0 : Int) < soft) = true := decide_eq_true (by omega)
    simp [p1, p2]
  have a1 := age r 0 h8 h9 h10 h11
  have a2 := age { r with x0 := 301 } later h8 h9 h10 h11
  unfold pickS pickGo pickGo pickGo
  rw [a1, a2]
  have t1 : ¬ ((newE r 0).life.x7 = false ∨ (newE r 0).life.x6 ≠ 1) := by simp [newE, h6, h7]
  have t2 : ¬ ((newE { r with x0 := 301 } later).life.x7 = false ∨ (newE { r with x0 := 301 } later).life.x6 ≠ 1) := by simp [newE, h6, h7]
  simp only [if_neg t1, if_neg t2]
  simp only [newE, h0]
  have e5 : (now < soft) ↔ ¬ (soft ≤ now) := by omega
  have e6 : (now - later < most) ↔ ¬ (most ≤ now - later) := by omega
  have e7 : (now < most) ↔ ¬ (most ≤ now) := by omega
  simp only [e5, e6, e7, Int.sub_zero]
  by_cases c1 : most ≤ now <;> by_cases c2 : soft ≤ now <;> by_cases c3 : most ≤ now - later <;> by_cases c4 : soft ≤ now - later <;> first | (exfalso; omega) | simp [c1, c2, c3, c4]
end
end Go.Proofs.YtppnkkpjfjhfkaaDoor.SadP

