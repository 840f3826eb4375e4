/- What the code's joiner keeps, against what the document's keeps: plain. No program is named. -/
import Derived.Test.YtnpggkpcadefjaaDoorJoiM
set_option linter.unusedVariables false
namespace Go.Proofs.YtnpggkpcadefjaaDoor.JoiC
open Go.RowKit Go.Proofs.YtnpggkpcadefjaaDoor.Sums Go.Proofs.YtnpggkpcadefjaaDoor.Mem Go.Proofs.YtnpggkpcadefjaaDoor.Pkt Go.Proofs.YtnpggkpcadefjaaDoor.JoiM

structure Nm where
  (src dst : ByteArray) (proto id : Int)
  deriving DecidableEq
def nmOf (p : Pkt) : Nm := ⟨p.src, p.dst, p.proto, p.id⟩
theorem key_nm (a b : Pkt) : keyB a b = decide (nmOf a = nmOf b) := by
  unfold keyB nmOf
  rw [Bool.eq_iff_iff]
  simp only [Bool.and_eq_true, decide_eq_true_eq, Nm.mk.injEq]
/-- What is kept of a piece. -/
def bareP (p : Pkt) : Pkt := ⟨0, 0, 0, 0, false, p.mf, p.off, ⟨#[]⟩, ⟨#[]⟩, ⟨#[]⟩⟩
def bareF (x : Frag) : Frag := if x.1.off = 0 then x else (bareP x.1, x.2)
theorem bare_off (x : Frag) : (bareF x).1.off = x.1.off := by unfold bareF; split <;> rfl
theorem bare_mf (x : Frag) : (bareF x).1.mf = x.1.mf := by unfold bareF; split <;> rfl
theorem bare_dat (x : Frag) : (bareF x).2 = x.2 := by unfold bareF; split <;> rfl
theorem bare_end (x : Frag) : endF (bareF x) = endF x := by unfold endF; rw [bare_off, bare_dat]
/-- Where a piece goes, and the pieces with it. -/
def placeF (l : List Frag) (o : Int) : Nat := (l.takeWhile fun x => decide (x.1.off < o)).length
def insF (l : List Frag) (x : Frag) : List Frag := l.take (placeF l x.1.off) ++ x :: l.drop (placeF l x.1.off)
theorem ins_cons (y : Frag) (l : List Frag) (x : Frag) : insF (y :: l) x = if y.1.off < x.1.off then y :: insF l x else x :: y :: l := by
  unfold insF placeF
  by_cases h : y.1.off < x.1.off
  · simp [h]
  · simp [h]
theorem ins_perm : ∀ (l : List Frag) (x : Frag), (insF l x).Perm (x :: l)
  | [], x => by simp [insF, placeF]
  | y :: l, x => by
    rw [ins_cons]
    split
    · exact ((ins_perm l x).cons y).trans (List.Perm.swap x y l)
    · exact List.Perm.refl _
theorem ins_map : ∀ (l : List Frag) (x : Frag), (insF l x).map bareF = insF (l.map bareF) (bareF x)
  | [], x => by simp [insF, placeF]
  | y :: l, x => by
    rw [ins_cons, List.map_cons, ins_cons, bare_off, bare_off]
    split
    · rw [List.map_cons, ins_map l x]
    · rfl
def sortF (l : List Frag) : List Frag := l.foldl insF []
def keptF (l : List Frag) : List Frag := (sortF l).map bareF
theorem sort_snoc (l : List Frag) (x : Frag) : sortF (l ++ [x]) = insF (sortF l) x := by unfold sortF; rw [List.foldl_append]; rfl
theorem kept_snoc (l : List Frag) (x : Frag) : keptF (l ++ [x]) = insF (keptF l) (bareF x) := by unfold keptF; rw [sort_snoc, ins_map]
theorem kept_one (x : Frag) : keptF [x] = [bareF x] := by simp [keptF, sortF, insF, placeF]
theorem fold_perm : ∀ (l acc : List Frag), (l.foldl insF acc).Perm (acc ++ l)
  | [], acc => by simp
  | x :: l, acc => by
    rw [List.foldl_cons]
    refine (fold_perm l (insF acc x)).trans (((ins_perm acc x).append_right l).trans ?_)
    rw [List.cons_append]
    exact List.perm_middle.symm
theorem sort_perm (l : List Frag) : (sortF l).Perm l := by simpa [sortF] using fold_perm l []
theorem sort_len (l : List Frag) : (sortF l).length = l.length := (sort_perm l).length_eq
theorem kept_len (l : List Frag) : (keptF l).length = l.length := by unfold keptF; rw [List.length_map, sort_len]
theorem kept_mem {l : List Frag} {y : Frag} (h : y ∈ keptF l) : ∃ x ∈ l, y = bareF x := by
  unfold keptF at h
  obtain ⟨x, hx, e⟩ := List.mem_map.1 h
  exact ⟨x, (sort_perm l).mem_iff.1 hx, e.symm⟩
theorem kept_any {f : Frag → Bool} (hf : ∀ x, f (bareF x) = f x) (l : List Frag) : (keptF l).any f = l.any f := by
  rw [Bool.eq_iff_iff, List.any_eq_true, List.any_eq_true]
  constructor
  · rintro ⟨y, hy, e⟩
    obtain ⟨x, hx, rfl⟩ := kept_mem hy
    exact ⟨x, hx, by rw [← hf]; exact e⟩
  · rintro ⟨x, hx, e⟩
    exact ⟨bareF x, List.mem_map.2 ⟨x, (sort_perm l).mem_iff.2 hx, rfl⟩, by rw [hf]; exact e⟩
theorem twin_bare (x y : Frag) : twinB (bareF y) x = twinB y x := by unfold twinB; rw [bare_off, bare_mf, bare_dat]
theorem bad_bare (x y : Frag) : badB (bareF y) x = badB y x := by unfold badB; rw [bare_off, bare_mf, bare_end]
/-! Pieces in their order. -/
structure OkF (x : Frag) : Prop where
  off : 0 ≤ x.1.off
  some : x.1.mf = true → 0 < x.2.length
  first : x.1.off = 0 → x.1.mf = true
def Sep (a b : Frag) : Prop := a.1.off < b.1.off ∧ endF a ≤ b.1.off
theorem two_apart {a b : Frag} (ha : OkF a) (hb : OkF b) (h1 : badB a b = false) (h2 : twinB a b = false) : (Sep a b ∨ Sep b a) ∧ (a.1.mf = false → endF b ≤ endF a) ∧ (b.1.mf = false → endF a ≤ endF b) := by
  have a1 := ha.some
  have b1 := hb.some
  unfold badB at h1
  unfold twinB at h2
  unfold Sep
  by_cases c : a.1.off < endF b ∧ b.1.off < endF a
  · rw [if_pos c] at h1; cases h1
  rw [if_neg c] at h1
  have ea : endF a = a.1.off + (a.2.length : Int) := rfl
  have eb : endF b = b.1.off + (b.2.length : Int) := rfl
  cases ma : a.1.mf <;> cases mb : b.1.mf
  · rw [if_pos ⟨ma, mb⟩] at h1
    have e : endF a = endF b := by simpa using h1
    have ne : a.1.off ≠ b.1.off := fun o => by
      have l : a.2.length = b.2.length := by omega
      have : a.2 ≠ b.2 := fun z => by simp [o, ma, mb, z] at h2
      by_cases z : 0 < a.2.length
      · omega
      · exact this (by rw [List.eq_nil_of_length_eq_zero (show a.2.length = 0 by omega), List.eq_nil_of_length_eq_zero (show b.2.length = 0 by omega)])
    omega
  · rw [if_neg (by simp [mb])] at h1
    simp [ma, mb] at h1
    have := b1 mb
    refine ⟨?_, fun _ => by omega, fun z => (by cases z)⟩
    omega
  · rw [if_neg (by simp [ma])] at h1
    simp [ma, mb] at h1
    have := a1 ma
    refine ⟨?_, fun z => (by cases z), fun _ => by omega⟩
    omega
  · have := a1 ma
    have := b1 mb
    refine ⟨?_, fun z => (by cases z), fun z => (by cases z)⟩
    omega
/-- Pieces of one packet: none clashes with another, none is there twice. -/
structure OkL (l : List Frag) : Prop where
  each : ∀ x ∈ l, OkF x
  pair : l.Pairwise fun a b => badB a b = false ∧ twinB a b = false
theorem ins_sorted : ∀ (l : List Frag) (x : Frag), l.Pairwise Sep → (∀ y ∈ l, Sep x y ∨ Sep y x) → (insF l x).Pairwise Sep
  | [], x, _, _ => by simp [insF, placeF]
  | y :: l, x, h, hx => by
    rw [ins_cons]
    rw [List.pairwise_cons] at h
    split
    · rename_i lt
      refine List.pairwise_cons.2 ⟨fun z hz => ?_, ins_sorted l x h.2 fun z hz => hx z (List.mem_cons_of_mem _ hz)⟩
      rcases List.mem_cons.1 ((ins_perm l x).mem_iff.1 hz) with rfl | hz
      · rcases hx y List.mem_cons_self with q | q
        · have := q.1; omega
        · exact q
      · exact h.1 z hz
    · rename_i nlt
      have xy : Sep x y := by
        rcases hx y List.mem_cons_self with q | q
        · exact q
        · exact absurd q.1 nlt
      refine List.pairwise_cons.2 ⟨fun z hz => ?_, List.pairwise_cons.2 h⟩
      rcases List.mem_cons.1 hz with rfl | hz
      · exact xy
      · have q := h.1 z hz
        have q1 := q.1
        have x1 := xy.1
        have x2 := xy.2
        exact ⟨by omega, by omega⟩
theorem fold_sorted : ∀ (l acc : List Frag), acc.Pairwise Sep → l.Pairwise (fun a b => Sep a b ∨ Sep b a) → (∀ a ∈ acc, ∀ x ∈ l, Sep x a ∨ Sep a x) → (l.foldl insF acc).Pairwise Sep
  | [], acc, h, _, _ => h
  | x :: l, acc, h, hl, ha => by
    rw [List.pairwise_cons] at hl
    rw [List.foldl_cons]
    refine fold_sorted l _ (ins_sorted acc x h fun y hy => ha y hy x List.mem_cons_self) hl.2 fun a hm z hz => ?_
    rcases List.mem_cons.1 ((ins_perm acc x).mem_iff.1 hm) with rfl | hm
    · exact (hl.1 z hz).symm
    · exact ha a hm z (List.mem_cons_of_mem _ hz)
theorem sort_sorted {l : List Frag} (h : OkL l) : (sortF l).Pairwise Sep := by
  refine fold_sorted l [] List.Pairwise.nil ?_ fun a ha => by cases ha
  have := h.pair
  refine List.Pairwise.imp_of_mem (fun {a b} ha hb q => ?_) this
  exact (two_apart (h.each a ha) (h.each b hb) q.1 q.2).1
theorem ends_le {l : List Frag} (h : OkL l) {x y : Frag} (hx : x ∈ l) (hy : y ∈ l) (m : x.1.mf = false) : endF y ≤ endF x := by
  by_cases e : x = y
  · subst e; exact Int.le_refl _
  obtain ⟨i, hi⟩ := List.mem_iff_getElem.1 hx
  obtain ⟨j, hj⟩ := List.mem_iff_getElem.1 hy
  obtain ⟨hi', ei⟩ := hi
  obtain ⟨hj', ej⟩ := hj
  have P := List.pairwise_iff_getElem.1 h.pair
  rcases Nat.lt_trichotomy i j with q | q | q
  · have z := P i j hi' hj' q
    rw [ei, ej] at z
    exact (two_apart (h.each x hx) (h.each y hy) z.1 z.2).2.1 m
  · subst q
    exact absurd (ei.symm.trans ej) e
  · have z := P j i hj' hi' q
    rw [ei, ej] at z
    exact (two_apart (h.each y hy) (h.each x hx) z.1 z.2).2.2 m
/-! Is a packet whole? -/
def contF : Int → List Frag → Bool
  | _, [] => true
  | a, x :: r => decide (x.1.off = a) && contF (endF x) r
def lastMf (l : List Frag) : Bool := match l.getLast? with
  | some x => x.1.mf
  | none => true
def wholeC (l : List Frag) : Bool := contF 0 l && !lastMf l
def dataC (l : List Frag) : List Int := l.flatMap (·.2)
theorem cont_bare : ∀ (l : List Frag) (a : Int), contF a (l.map bareF) = contF a l
  | [], _ => rfl
  | x :: r, a => by rw [List.map_cons, contF, contF, bare_off, bare_end, cont_bare r]
theorem last_bare (l : List Frag) : lastMf (l.map bareF) = lastMf l := by
  unfold lastMf
  rw [List.getLast?_map]
  cases l.getLast? with
  | none => rfl
  | some x => exact bare_mf x
theorem whole_bare (l : List Frag) : wholeC (l.map bareF) = wholeC l := by unfold wholeC; rw [cont_bare, last_bare]
theorem data_bare (l : List Frag) : dataC (l.map bareF) = dataC l := by
  unfold dataC
  rw [List.flatMap_map]
  congr 1
  funext x
  exact bare_dat x
def preF : Int → List Frag → List Int
  | _, [] => []
  | a, x :: r => if x.1.off = a then x.2 ++ preF (endF x) r else []
theorem pre_cont : ∀ (s : List Frag) (a : Int), contF a s = true → preF a s = dataC s
  | [], _, _ => rfl
  | x :: r, a, h => by
    rw [contF, Bool.and_eq_true, decide_eq_true_eq] at h
    rw [preF, if_pos h.1, pre_cont r _ h.2]
    rfl
theorem cont_len : ∀ (s : List Frag) (a : Int) (z : Frag), contF a s = true → s.getLast? = some z → a + ((dataC s).length : Int) = endF z
  | [], _, _, _, h => by cases h
  | [x], a, z, h, e => by
    rw [contF, Bool.and_eq_true, decide_eq_true_eq] at h
    have e : x = z := by simpa using e
    subst e
    have : dataC [x] = x.2 := by simp [dataC]
    rw [this, ← h.1]
    rfl
  | x :: y :: r, a, z, h, e => by
    rw [contF, Bool.and_eq_true, decide_eq_true_eq] at h
    have := cont_len (y :: r) (endF x) z h.2 (by rw [List.getLast?_cons_cons] at e; exact e)
    have d : dataC (x :: y :: r) = x.2 ++ dataC (y :: r) := rfl
    have ex : endF x = x.1.off + (x.2.length : Int) := rfl
    rw [d, List.length_append]
    omega
theorem pre_gap : ∀ (s : List Frag) (a : Int), s.Pairwise Sep → (∀ x ∈ s, a ≤ x.1.off) → contF a s = false → ∃ z ∈ s, a + ((preF a s).length : Int) < z.1.off
  | [], _, _, _, h => by cases h
  | x :: r, a, hs, ha, h => by
    rw [List.pairwise_cons] at hs
    have x0 := ha x List.mem_cons_self
    by_cases e : x.1.off = a
    · rw [contF, decide_eq_true e, Bool.true_and] at h
      obtain ⟨z, hz, q⟩ := pre_gap r (endF x) hs.2 (fun y hy => (hs.1 y hy).2) h
      refine ⟨z, List.mem_cons_of_mem _ hz, ?_⟩
      rw [preF, if_pos e, List.length_append]
      have ex : endF x = x.1.off + (x.2.length : Int) := rfl
      omega
    · refine ⟨x, List.mem_cons_self, ?_⟩
      rw [preF, if_neg e]
      simp
      omega
theorem grow_stop {l : List Frag} {o : List Int} (h : nextF l o.length = none) : ∀ k, growF l k o = o
  | 0 => rfl
  | k + 1 => by
    have : stepF l o = o := by unfold stepF; rw [h]
    rw [growF, this]
    exact grow_stop h k
theorem grow_pre {l : List Frag} (hok : ∀ x ∈ l, OkF x) (hend : ∀ x ∈ l, ∀ y ∈ l, x.1.mf = false → endF y ≤ endF x) : ∀ (rest done : List Frag) (o : List Int) (k : Nat), (done ++ rest).Pairwise Sep → (∀ x, x ∈ l ↔ x ∈ done ++ rest) → (∀ x ∈ done, 0 < x.2.length → x.1.off < (o.length : Int)) → (∀ x ∈ rest, (o.length : Int) ≤ x.1.off) → rest.length ≤ k → growF l k o = o ++ preF (o.length : Int) rest
  | [], done, o, k, _, hm, hd, _, _ => by
    have : nextF l o.length = none := List.find?_eq_none.2 fun x hx z => by
      simp only [Bool.and_eq_true, decide_eq_true_eq] at z
      have := (hm x).1 hx
      rw [List.append_nil] at this
      have := hd x this z.2
      omega
    rw [grow_stop this, preF, List.append_nil]
  | y :: r, done, o, k, hs, hm, hd, hr, hk => by
    have s2 := (List.pairwise_append.1 hs).2.1
    rw [List.pairwise_cons] at s2
    have y0 := hr y List.mem_cons_self
    have hyl : y ∈ l := (hm y).2 (List.mem_append_right _ List.mem_cons_self)
    have only : ∀ z ∈ l, z.1.off = (o.length : Int) → 0 < z.2.length → z = y := fun z hz h1 h2 => by
      rcases List.mem_append.1 ((hm z).1 hz) with q | q
      · have := hd z q h2; omega
      · rcases List.mem_cons.1 q with q | q
        · exact q
        · have := (s2.1 z q).1; omega
    by_cases e : y.1.off = (o.length : Int)
    · by_cases ne : 0 < y.2.length
      · have nx : nextF l o.length = some y := by
          unfold nextF
          cases q : l.find? fun x => decide (x.1.off = (o.length : Int)) && decide (0 < x.2.length) with
          | none =>
            have := List.find?_eq_none.1 q y hyl
            simp [e, ne] at this
          | some z =>
            have p := List.find?_some q
            simp only [Bool.and_eq_true, decide_eq_true_eq] at p
            rw [only z (List.mem_of_find?_eq_some q) p.1 p.2]
        obtain ⟨k, rfl⟩ : ∃ j, k = j + 1 := ⟨k - 1, by simp at hk; omega⟩
        have st : stepF l o = o ++ y.2 := by unfold stepF; rw [nx]
        have ey : endF y = ((o ++ y.2).length : Int) := by rw [List.length_append]; unfold endF; omega
        rw [growF, st, preF, if_pos e, ← List.append_assoc, ey]
        refine grow_pre hok hend r (done ++ [y]) (o ++ y.2) k (by rw [List.append_assoc]; exact hs) (fun x => by rw [hm x, List.append_assoc]; rfl) (fun x hx hl => ?_) (fun x hx => ?_) (by simp at hk; omega)
        · rcases List.mem_append.1 hx with q | q
          · have := hd x q hl
            rw [List.length_append]; omega
          · obtain rfl := List.mem_singleton.1 q
            rw [← ey]; unfold endF; omega
        · rw [← ey]
          exact (s2.1 x hx).2
      · have hr' : r = [] := by
          cases r with
          | nil => rfl
          | cons z r =>
            have q := s2.1 z List.mem_cons_self
            have hz : z ∈ l := (hm z).2 (List.mem_append_right _ (by simp))
            have mf : y.1.mf = false := by
              cases m : y.1.mf with
              | false => rfl
              | true => exact absurd ((hok y hyl).some m) ne
            have := hend y hyl z hz mf
            have q1 := q.1
            have ez : endF z = z.1.off + (z.2.length : Int) := rfl
            have ey : endF y = y.1.off + (y.2.length : Int) := rfl
            omega
        subst hr'
        have nx : nextF l o.length = none := List.find?_eq_none.2 fun x hx z => by
          simp only [Bool.and_eq_true, decide_eq_true_eq] at z
          have := only x hx z.1 z.2
          subst this
          exact ne z.2
        have y2 : y.2 = [] := List.eq_nil_of_length_eq_zero (by omega)
        rw [grow_stop nx, preF, if_pos e, preF, y2]
        simp
    · have nx : nextF l o.length = none := List.find?_eq_none.2 fun x hx z => by
        simp only [Bool.and_eq_true, decide_eq_true_eq] at z
        have := only x hx z.1 z.2
        subst this
        exact e z.1
      rw [grow_stop nx, preF, if_neg e, List.append_nil]
theorem whole_sort {l : List Frag} (h : OkL l) : wholeF l = if wholeC (sortF l) = true then some (dataC (sortF l)) else none := by
  have hs := sort_sorted h
  have hm : ∀ x, x ∈ l ↔ x ∈ sortF l := fun x => (sort_perm l).mem_iff.symm
  have hg : growF l (l.length + 1) [] = preF 0 (sortF l) := by
    have := grow_pre h.each (fun x hx y hy m => ends_le h hx hy m) (sortF l) [] [] (l.length + 1) hs hm (fun x hx => by cases hx) (fun x hx => (h.each x ((hm x).2 hx)).off) (by rw [sort_len]; omega)
    simpa using this
  unfold wholeF
  cases q : lastF l with
  | none =>
    dsimp only
    rw [if_neg]
    intro z
    unfold wholeC lastMf at z
    rw [Bool.and_eq_true] at z
    cases e : (sortF l).getLast? with
    | none => rw [e] at z; exact absurd z.2 (by simp)
    | some x =>
      rw [e] at z
      have hx : x ∈ l := (hm x).2 (List.mem_of_getLast? e)
      have := List.find?_eq_none.1 q x hx
      exact this z.2
  | some x =>
    dsimp only
    have hx : x ∈ l := List.mem_of_find?_eq_some q
    have mx : x.1.mf = false := by simpa using List.find?_some q
    rw [hg]
    by_cases c : contF 0 (sortF l) = true
    · rw [pre_cont _ _ c]
      cases e : (sortF l).getLast? with
      | none =>
        rw [List.getLast?_eq_none_iff] at e
        have := (hm x).1 hx
        rw [e] at this
        cases this
      | some z =>
        have cl := cont_len _ _ z c e
        have hz : z ∈ l := (hm z).2 (List.mem_of_getLast? e)
        have wl : wholeC (sortF l) = !z.1.mf := by unfold wholeC lastMf; rw [c, e]; rfl
        cases mz : z.1.mf with
        | false =>
          have e1 := ends_le h hx hz mx
          have e2 := ends_le h hz hx mz
          rw [if_pos (by omega), if_pos (by rw [wl, mz]; rfl)]
        | true =>
          rw [if_neg, if_neg (by rw [wl, mz]; simp)]
          intro ee
          have hne : x ≠ z := fun w => by rw [w, mz] at mx; cases mx
          obtain ⟨s0, hs0⟩ : ∃ s0, sortF l = s0 ++ [z] := List.getLast?_eq_some_iff.1 e
          have x0 : x ∈ s0 := by
            have := (hm x).1 hx
            rw [hs0] at this
            rcases List.mem_append.1 this with k | k
            · exact k
            · exact absurd (List.mem_singleton.1 k) hne
          rw [hs0] at hs
          have sp := (List.pairwise_append.1 hs).2.2 x x0 z (by simp)
          have := (h.each z hz).some mz
          have s2 := sp.2
          have ez : endF z = z.1.off + (z.2.length : Int) := rfl
          omega
    · have c : contF 0 (sortF l) = false := by simpa using c
      obtain ⟨z, hz, q⟩ := pre_gap _ 0 hs (fun x hx => (h.each x ((hm x).2 hx)).off) c
      have := ends_le h hx ((hm z).2 hz) mx
      have ez : endF z = z.1.off + (z.2.length : Int) := rfl
      rw [if_neg (by omega), if_neg]
      intro w
      unfold wholeC at w
      rw [c] at w
      cases w
theorem whole_eq {l : List Frag} (h : OkL l) : wholeF l = if wholeC (keptF l) = true then some (dataC (keptF l)) else none := by
  unfold keptF
  rw [whole_bare, data_bare]
  exact whole_sort h
/-- The first piece, if it is there. -/
theorem head_at {l : List Frag} (h : OkL l) {y : Frag} (hy : y ∈ l) (y0 : y.1.off = 0) : (∃ t, keptF l = y :: t) ∧ headF l = some y ∧ l.filter (fun x => decide (x.1.off = 0)) = [y] := by
  have hs := sort_sorted h
  have hm : ∀ x, x ∈ l ↔ x ∈ sortF l := fun x => (sort_perm l).mem_iff.symm
  cases e : sortF l with
  | nil =>
    have := (hm y).1 hy
    rw [e] at this
    cases this
  | cons x t =>
    rw [e, List.pairwise_cons] at hs
    have x0 := (h.each x ((hm x).2 (by rw [e]; simp))).off
    have off1 : ∀ z ∈ l, z.1.off = 0 → z = x := fun z hz z0 => by
      have := (hm z).1 hz
      rw [e] at this
      rcases List.mem_cons.1 this with q | q
      · exact q
      · have := (hs.1 z q).1; omega
    obtain rfl := off1 y hy y0
    have ny := (h.each y hy).some ((h.each y hy).first y0)
    refine ⟨⟨t.map bareF, ?_⟩, ?_, ?_⟩
    · unfold keptF
      rw [e, List.map_cons]
      unfold bareF
      rw [if_pos y0]
    · unfold headF
      cases q : l.find? fun x => decide (x.1.off = 0) && decide (0 < x.2.length) with
      | none =>
        have := List.find?_eq_none.1 q y hy
        simp [y0, ny] at this
      | some z =>
        have p := List.find?_some q
        simp only [Bool.and_eq_true, decide_eq_true_eq] at p
        rw [off1 z (List.mem_of_find?_eq_some q) p.1]
    · have ft : (sortF l).filter (fun x => decide (x.1.off = 0)) = [y] := by
        rw [e, List.filter_cons_of_pos (by simpa using y0)]
        congr 1
        refine List.filter_eq_nil_iff.2 fun x hx => ?_
        have := (hs.1 x hx).1
        simp
        omega
      have pm := (sort_perm l).filter fun x => decide (x.1.off = 0)
      rw [ft] at pm
      exact List.perm_singleton.1 pm.symm
theorem head_no {l : List Frag} (h : ∀ y ∈ l, y.1.off ≠ 0) : headF l = none ∧ l.filter (fun x => decide (x.1.off = 0)) = [] := by
  constructor
  · exact List.find?_eq_none.2 fun x hx z => by
      simp only [Bool.and_eq_true, decide_eq_true_eq] at z
      exact h x hx z.1
  · exact List.filter_eq_nil_iff.2 fun x hx => by simpa using h x hx
/-! What the code keeps: a name, a time, the pieces in their order. -/
abbrev CEnt := Nm × Int × List Frag
def nmE (e : Ent) : Nm := match e.2 with
  | y :: _ => nmOf y.1
  | [] => ⟨⟨#[]⟩, ⟨#[]⟩, 0, 0⟩
def entC (e : Ent) : CEnt := (nmE e, e.1, keptF e.2)
def atC (cs : List CEnt) (n : Nm) : Option Nat := cs.findIdx? fun e => decide (e.1 = n)
def keepC (now : Int) (x : Frag) (cs : List CEnt) : Int × List CEnt := match atC cs (nmOf x.1) with
  | none => if 16 ≤ cs.length then (7, cs) else (0, cs ++ [(nmOf x.1, now, [bareF x])])
  | some i => match cs[i]? with
    | none => (0, cs)
    | some e => if e.2.2.any (twinB · x) = true then (0, cs) else if 64 ≤ e.2.2.length then (7, cs) else if e.2.2.any (badB · x) = true then (4, cs.eraseIdx i) else (0, cs.set i (e.1, e.2.1, insF e.2.2 (bareF x)))
/-- The packet that the pieces make. -/
def packC (l : List Frag) : Frag := match l with
  | y :: _ => ({ y.1 with mf := false }, dataC l)
  | [] => (Pkt.zero, [])
def finC (n : Nm) (cs : List CEnt) : (Option Frag × Int) × List CEnt := match atC cs n with
  | none => ((none, 0), cs)
  | some i => match cs[i]? with
    | none => ((none, 0), cs)
    | some e => if wholeC e.2.2 = true then (if (packC e.2.2).1.chk (packC e.2.2).2.length ≠ 0 then ((none, 2), cs.eraseIdx i) else ((some (packC e.2.2), 0), cs.eraseIdx i)) else ((none, 0), cs)
/-- What always holds of what waits, beside GoodJ. -/
structure GoodX (e : Ent) : Prop where
  ok : OkL e.2
  part : wholeF e.2 = none
structure GoodS (s : JSt) : Prop where
  good : GoodJ s
  each : ∀ e ∈ s, GoodX e
  names : (s.map nmE).Nodup
end Go.Proofs.YtnpggkpcadefjaaDoor.JoiC

/- The document's Put is the code's keep and finish: plain. No program is named. -/
set_option linter.unusedVariables false
namespace Go.Proofs.YtnpggkpcadefjaaDoor.JoiC2
open Go.RowKit Go.Proofs.YtnpggkpcadefjaaDoor.Sums Go.Proofs.YtnpggkpcadefjaaDoor.Mem Go.Proofs.YtnpggkpcadefjaaDoor.Pkt Go.Proofs.YtnpggkpcadefjaaDoor.JoiM Go.Proofs.YtnpggkpcadefjaaDoor.JoiC

theorem is_nm {p : Pkt} {e : Ent} (h : e.2 ≠ []) : isOf p e = decide ((entC e).1 = nmOf p) := by
  obtain ⟨b, l⟩ := e
  cases l with
  | nil => exact absurd rfl h
  | cons y l => exact key_nm y.1 p
theorem erase_map {α β : Type} (f : α → β) : ∀ (l : List α) (i : Nat), (l.eraseIdx i).map f = (l.map f).eraseIdx i
  | [], _ => rfl
  | _ :: _, 0 => rfl
  | a :: l, i + 1 => by simp [erase_map f l i]
theorem at_map {p : Pkt} : ∀ (s : JSt), (∀ e ∈ s, e.2 ≠ []) → atC (s.map entC) (nmOf p) = atJ s p
  | [], _ => rfl
  | e :: s, h => by
    have ih := at_map (p := p) s fun e he => h e (List.mem_cons_of_mem _ he)
    unfold atC atJ at ih ⊢
    rw [List.map_cons, List.findIdx?_cons, List.findIdx?_cons, ih, is_nm (h e List.mem_cons_self)]
theorem at_some {cs : List CEnt} {n : Nm} {i : Nat} (h : atC cs n = some i) : ∃ e, cs[i]? = some e ∧ e.1 = n := by
  unfold atC at h
  obtain ⟨h1, h2, _⟩ := List.findIdx?_eq_some_iff_getElem.1 h
  exact ⟨cs[i], List.getElem?_eq_getElem h1, by simpa using h2⟩
theorem at_first {cs : List CEnt} {n : Nm} {i : Nat} (h : atC cs n = some i) {j : Nat} {e : CEnt} (hj : j < i) (he : cs[j]? = some e) : e.1 ≠ n := by
  unfold atC at h
  obtain ⟨h1, h2, h3⟩ := List.findIdx?_eq_some_iff_getElem.1 h
  have := h3 j hj
  have e' : cs[j] = e := by
    have := List.getElem?_eq_getElem (l := cs) (i := j) (by omega)
    rw [this] at he
    exact Option.some.inj he
  rw [e'] at this
  simpa using this
theorem at_none {cs : List CEnt} {n : Nm} (h : atC cs n = none) {e : CEnt} (he : e ∈ cs) : e.1 ≠ n := by
  unfold atC at h
  have := List.findIdx?_eq_none_iff.1 h e he
  simpa using this
theorem at_of {cs : List CEnt} {n : Nm} {i : Nat} {e : CEnt} (hi : cs[i]? = some e) (he : e.1 = n) (hf : ∀ j e', j < i → cs[j]? = some e' → e'.1 ≠ n) : atC cs n = some i := by
  unfold atC
  obtain ⟨h1, h2⟩ := List.getElem?_eq_some_iff.1 hi
  refine List.findIdx?_eq_some_iff_getElem.2 ⟨h1, by rw [h2]; simpa using he, fun j hj => ?_⟩
  have := hf j cs[j] hj (List.getElem?_eq_getElem _)
  simpa using this
theorem fin_eq {s : JSt} {i : Nat} {e : Ent} {n : Nm} (hi : s[i]? = some e) (ha : atC (s.map entC) n = some i) (ok : OkL e.2) : finJ s i e.2 = ((finC n (s.map entC)).1, (finJ s i e.2).2) ∧ (finJ s i e.2).2.map entC = (finC n (s.map entC)).2 := by
  have hc : (s.map entC)[i]? = some (entC e) := by rw [List.getElem?_map, hi]; rfl
  have he : (entC e).2.2 = keptF e.2 := rfl
  unfold finJ finC
  rw [ha]
  dsimp only
  rw [hc, whole_eq ok]
  dsimp only
  rw [he]
  by_cases w : wholeC (keptF e.2) = true
  · rw [if_pos w, if_pos w]
    dsimp only
    obtain ⟨y, hy, y0⟩ : ∃ y ∈ e.2, y.1.off = 0 := by
      cases q : keptF e.2 with
      | nil => rw [q] at w; simp [wholeC, lastMf] at w
      | cons z t =>
        obtain ⟨y, hy, e1⟩ := kept_mem (show z ∈ keptF e.2 by rw [q]; exact List.mem_cons_self)
        rw [q] at w
        unfold wholeC contF at w
        simp only [Bool.and_eq_true, decide_eq_true_eq] at w
        exact ⟨y, hy, by rw [← bare_off, ← e1]; exact w.1.1⟩
    obtain ⟨⟨t, h1⟩, h2, _⟩ := head_at ok hy y0
    have pk : packC (keptF e.2) = ({ y.1 with mf := false }, dataC (keptF e.2)) := by rw [h1]; rfl
    rw [h2, pk]
    dsimp only
    split
    · exact ⟨rfl, erase_map _ _ _⟩
    · exact ⟨rfl, erase_map _ _ _⟩
  · rw [if_neg w, if_neg w]
    exact ⟨rfl, rfl⟩
theorem map_set (s : JSt) (i : Nat) (e : Ent) : (s.set i e).map entC = (s.map entC).set i (entC e) := List.map_set ..
theorem good_sub {s t : JSt} (G : GoodS s) (h : t.Sublist s) (g : GoodJ t) : GoodS t := ⟨g, fun e he => G.each e (h.mem he), List.Nodup.sublist (h.map nmE) G.names⟩
/-- Behind a new piece. -/
theorem good_fin2 {s : JSt} {i : Nat} {e : Ent} (hi : s[i]? = some e) (g : GoodJ s) (hx : ∀ j e', j ≠ i → s[j]? = some e' → GoodX e') (ok : OkL e.2) (nn : (s.map nmE).Nodup) : GoodS (finJ s i e.2).2 := by
  have gf := good_fin g i e.2
  have hdrop : ∀ e' ∈ s.eraseIdx i, GoodX e' := fun e' he' => by
    obtain ⟨j, hj⟩ := List.mem_iff_getElem?.1 he'
    rw [List.getElem?_eraseIdx] at hj
    split at hj
    · exact hx j e' (by omega) hj
    · exact hx (j + 1) e' (by omega) hj
  unfold finJ at gf ⊢
  cases w : wholeF e.2 with
  | none =>
    rw [w] at gf
    refine ⟨gf, fun e' he' => ?_, nn⟩
    obtain ⟨j, hj⟩ := List.mem_iff_getElem?.1 he'
    by_cases z : j = i
    · subst z
      rw [hi] at hj
      cases hj
      exact ⟨ok, w⟩
    · exact hx j e' z hj
  | some b =>
    rw [w] at gf
    dsimp only at gf ⊢
    have sub : ((s.eraseIdx i).map nmE).Nodup := List.Nodup.sublist ((List.eraseIdx_sublist s i).map nmE) nn
    split
    · rename_i h0
      rw [h0] at gf
      exact ⟨gf, hdrop, sub⟩
    · rename_i y h0
      rw [h0] at gf
      dsimp only at gf ⊢
      split
      · rename_i c
        rw [if_pos c] at gf
        exact ⟨gf, hdrop, sub⟩
      · rename_i c
        rw [if_neg c] at gf
        exact ⟨gf, hdrop, sub⟩
theorem okf_of {x : Frag} (c : x.1.chk x.2.length = 0) (q1 : ¬ (x.1.off = 0 ∧ x.1.mf = false)) (q2 : ¬ (x.1.mf = true ∧ (x.2.length = 0 ∨ x.2.length % 8 ≠ 0))) : OkF x := by
  have V : Valid x.1 := by
    unfold Pkt.chk at c
    split at c
    · rename_i o
      exact Pkt.ok_valid o
    · cases c
  refine ⟨V.o0, fun m => ?_, fun o => ?_⟩
  · have : ¬ (x.2.length = 0 ∨ x.2.length % 8 ≠ 0) := fun z => q2 ⟨m, z⟩
    omega
  · cases m : x.1.mf with
    | true => rfl
    | false => exact absurd ⟨o, m⟩ q1
theorem put_code {now : Int} {x : Frag} {s : JSt} (G : GoodS s) (hb : Bytes x.2) (h0 : -1099511627776 ≤ now) (h1 : now ≤ 1099511627776) (c : x.1.chk x.2.length = 0) (q1 : ¬ (x.1.off = 0 ∧ x.1.mf = false)) (q2 : ¬ (x.1.mf = true ∧ (x.2.length = 0 ∨ x.2.length % 8 ≠ 0))) (q3 : ¬ 65515 < endF x) :
    (putJ now x s).1 = (if (keepC now x (s.map entC)).1 ≠ 0 then (none, (keepC now x (s.map entC)).1) else (finC (nmOf x.1) (keepC now x (s.map entC)).2).1) ∧
    (putJ now x s).2.map entC = (if (keepC now x (s.map entC)).1 ≠ 0 then (keepC now x (s.map entC)).2 else (finC (nmOf x.1) (keepC now x (s.map entC)).2).2) ∧ GoodS (putJ now x s).2 := by
  have gp : GoodJ (putJ now x s).2 := good_put G.good hb h0 h1
  have ok := okf_of c q1 q2
  have ne : ∀ e ∈ s, e.2 ≠ [] := fun e he => (G.good.ent e he).some
  have am := at_map (p := x.1) s ne
  have P : putJ now x s = match atJ s x.1 with
    | none => if 16 ≤ s.length then ((none, 7), s) else finJ (s ++ [(now, [x])]) s.length [x]
    | some i => match s[i]? with
      | none => ((none, 0), s)
      | some e => if e.2.any (twinB · x) = true then ((none, 0), s) else if 64 ≤ e.2.length then ((none, 7), s) else if e.2.any (badB · x) = true then ((none, 4), s.eraseIdx i)
        else finJ (s.set i (e.1, e.2 ++ [x])) i (e.2 ++ [x]) := by
    unfold putJ
    rw [if_neg (fun z => z c), if_neg q1, if_neg q2, if_neg q3]
    rfl
  unfold keepC
  rw [am]
  rw [P] at gp ⊢
  cases ha : atJ s x.1 with
  | none =>
    rw [ha] at gp am
    dsimp only at gp ⊢
    rw [List.length_map]
    by_cases r : 16 ≤ s.length
    · rw [if_pos r, if_pos r]
      exact ⟨rfl, rfl, G⟩
    · rw [if_neg r] at gp
      rw [if_neg r, if_neg r]
      have e1 : s.map entC ++ [(nmOf x.1, now, [bareF x])] = (s ++ [(now, [x])]).map entC := by
        rw [List.map_append, List.map_singleton]
        unfold entC
        rw [kept_one]
        rfl
      have hi : (s ++ [(now, [x])])[s.length]? = some (now, [x]) := by simp
      have ok1 : OkL [x] := ⟨fun y hy => by obtain rfl := List.mem_singleton.1 hy; exact ok, by simp⟩
      have hat : atC ((s ++ [(now, [x])]).map entC) (nmOf x.1) = some s.length := by
        refine at_of (e := entC (now, [x])) (by rw [List.getElem?_map, hi]; rfl) rfl fun j e' hj he' => ?_
        rw [List.map_append, List.getElem?_append_left (by simpa using hj)] at he'
        exact at_none am (List.mem_of_getElem? he')
      have F := fin_eq hi hat ok1
      have g2 : GoodJ (s ++ [(now, [x])]) := by
        have V : Valid x.1 ∧ 20 + x.1.opt.size + x.2.length ≤ 65535 := by
          have c0 := c
          unfold Pkt.chk at c0
          split at c0
          · rename_i o
            split at c0
            · cases c0
            · exact ⟨Pkt.ok_valid o, by omega⟩
          · cases c0
        refine ⟨fun e he => ?_, by rw [List.length_append]; simp; omega⟩
        rcases List.mem_append.1 he with he | he
        · exact G.good.ent e he
        · obtain rfl := List.mem_singleton.1 he
          refine ⟨by simp, by simp, fun y hy => ?_, h0, h1⟩
          obtain rfl := List.mem_singleton.1 hy
          refine ⟨V.1, V.2, hb, by omega, fun m => ?_, ok.first⟩
          have : ¬ (y.2.length = 0 ∨ y.2.length % 8 ≠ 0) := fun z => q2 ⟨m, z⟩
          omega
      have nn : ((s ++ [(now, [x])]).map nmE).Nodup := by
        rw [List.map_append, List.nodup_append]
        refine ⟨G.names, by simp, fun a ha' b hb' z => ?_⟩
        obtain ⟨e, he, rfl⟩ := List.mem_map.1 ha'
        obtain rfl := List.mem_singleton.1 hb'
        exact at_none am (List.mem_map.2 ⟨e, he, rfl⟩) z
      have G2 := good_fin2 hi g2 (fun j e' hj he' => by
        refine G.each e' ?_
        rcases Nat.lt_or_ge j s.length with q | q
        · rw [List.getElem?_append_left q] at he'
          exact List.mem_of_getElem? he'
        · rw [List.getElem?_eq_none (by simp; omega)] at he'
          cases he') ok1 nn
      dsimp only at F G2 ⊢
      rw [e1, F.1, if_neg (fun z => z rfl), if_neg (fun z => z rfl)]
      exact ⟨rfl, F.2, G2⟩
  | some i =>
    rw [ha] at gp am
    dsimp only at gp ⊢
    obtain ⟨ec, hec, hen⟩ := at_some am
    rw [List.getElem?_map] at hec
    obtain ⟨e, hi, rfl⟩ := Option.map_eq_some_iff.1 hec
    rw [hi] at gp
    have hc : (s.map entC)[i]? = some (entC e) := by rw [List.getElem?_map, hi]; rfl
    simp only [hi, hc]
    dsimp only at gp
    have k1 : (entC e).2.2.any (twinB · x) = e.2.any (twinB · x) := kept_any (fun y => twin_bare x y) e.2
    have k2 : (entC e).2.2.any (badB · x) = e.2.any (badB · x) := kept_any (fun y => bad_bare x y) e.2
    have k3 : (entC e).2.2.length = e.2.length := kept_len e.2
    rw [k1, k2, k3]
    have E := G.good.ent e (List.mem_of_getElem? hi)
    have X := G.each e (List.mem_of_getElem? hi)
    by_cases r1 : e.2.any (twinB · x) = true
    · rw [if_pos r1, if_pos r1, if_neg (fun z => z rfl), if_neg (fun z => z rfl)]
      have F := fin_eq hi am X.ok
      have : finJ s i e.2 = ((none, 0), s) := by unfold finJ; rw [X.part]
      rw [this] at F
      have F1 := F.1
      simp only [Prod.mk.injEq, and_true] at F1
      exact ⟨F1, F.2, G⟩
    rw [if_neg r1] at gp
    rw [if_neg r1, if_neg r1]
    by_cases r2 : 64 ≤ e.2.length
    · rw [if_pos r2, if_pos r2]
      exact ⟨rfl, rfl, G⟩
    rw [if_neg r2] at gp
    rw [if_neg r2, if_neg r2]
    by_cases r3 : e.2.any (badB · x) = true
    · rw [if_pos r3, if_pos r3]
      exact ⟨rfl, erase_map _ _ _, good_sub G (List.eraseIdx_sublist s i) (good_erase G.good i)⟩
    rw [if_neg r3] at gp
    rw [if_neg r3, if_neg r3]
    have ilt : i < s.length := (List.getElem?_eq_some_iff.1 hi).1
    have nE : nmE (e.1, e.2 ++ [x]) = nmE e := by
      have := E.some
      obtain ⟨b, l⟩ := e
      cases l with
      | nil => exact absurd rfl this
      | cons y l => rfl
    have e1 : (s.map entC).set i ((entC e).1, (entC e).2.1, insF (entC e).2.2 (bareF x)) = (s.set i (e.1, e.2 ++ [x])).map entC := by
      rw [map_set]
      congr 1
      unfold entC
      rw [nE, kept_snoc]
    have hi2 : (s.set i (e.1, e.2 ++ [x]))[i]? = some (e.1, e.2 ++ [x]) := by rw [List.getElem?_set]; simp [ilt]
    have okl : OkL (e.2 ++ [x]) := by
      refine ⟨fun y hy => ?_, ?_⟩
      · rcases List.mem_append.1 hy with hy | hy
        · exact X.ok.each y hy
        · obtain rfl := List.mem_singleton.1 hy
          exact ok
      · rw [List.pairwise_append]
        refine ⟨X.ok.pair, by simp, fun a ha' b hb' => ?_⟩
        obtain rfl := List.mem_singleton.1 hb'
        constructor
        · cases z : badB a b with
          | false => rfl
          | true => exact absurd (List.any_eq_true.2 ⟨a, ha', z⟩) r3
        · cases z : twinB a b with
          | false => rfl
          | true => exact absurd (List.any_eq_true.2 ⟨a, ha', z⟩) r1
    have nmap : (s.set i (e.1, e.2 ++ [x])).map nmE = s.map nmE := by
      rw [List.map_set, nE]
      apply List.ext_getElem?
      intro j
      rw [List.getElem?_set]
      split
      · rename_i z
        subst z
        rw [if_pos (by simpa using ilt), List.getElem?_map, hi]
        rfl
      · rfl
    have hat : atC ((s.set i (e.1, e.2 ++ [x])).map entC) (nmOf x.1) = some i := by
      refine at_of (e := entC (e.1, e.2 ++ [x])) (by rw [List.getElem?_map, hi2]; rfl) (nE.trans hen) fun j e' hj he' => ?_
      rw [map_set, List.getElem?_set, if_neg (by omega)] at he'
      exact at_first am hj he'
    have F := fin_eq hi2 hat okl
    have g2 : GoodJ (s.set i (e.1, e.2 ++ [x])) := by
      refine ⟨fun e' he => ?_, by rw [List.length_set]; exact G.good.few⟩
      rcases List.mem_or_eq_of_mem_set he with he | rfl
      · exact G.good.ent e' he
      · refine ⟨by simp, by simp; omega, fun y hy => ?_, E.now⟩
        rcases List.mem_append.1 hy with hy | hy
        · exact E.ok y hy
        · obtain rfl := List.mem_singleton.1 hy
          have V : Valid y.1 ∧ 20 + y.1.opt.size + y.2.length ≤ 65535 := by
            have c0 := c
            unfold Pkt.chk at c0
            split at c0
            · rename_i o
              split at c0
              · cases c0
              · exact ⟨Pkt.ok_valid o, by omega⟩
            · cases c0
          refine ⟨V.1, V.2, hb, by omega, fun m => ?_, ok.first⟩
          have : ¬ (y.2.length = 0 ∨ y.2.length % 8 ≠ 0) := fun z => q2 ⟨m, z⟩
          omega
    have G2 := good_fin2 hi2 g2 (fun j e' hj he' => by
      rw [List.getElem?_set, if_neg (by omega)] at he'
      exact G.each e' (List.mem_of_getElem? he')) okl (by rw [nmap]; exact G.names)
    dsimp only at F G2 ⊢
    rw [e1, F.1, if_neg (fun z => z rfl), if_neg (fun z => z rfl)]
    exact ⟨rfl, F.2, G2⟩
/-- What is kept behind keep, when nothing was refused: the packet's entry. -/
theorem keep_there {now : Int} {x : Frag} {cs : List CEnt} (h : (keepC now x cs).1 = 0) (hs : ∀ e ∈ cs, e.2.2 ≠ []) : ∃ i e, atC (keepC now x cs).2 (nmOf x.1) = some i ∧ (keepC now x cs).2[i]? = some e ∧ e.2.2 ≠ [] := by
  unfold keepC at h ⊢
  cases ha : atC cs (nmOf x.1) with
  | none =>
    rw [ha] at h
    dsimp only at h ⊢
    split at h
    · cases h
    · rename_i r
      rw [if_neg r]
      refine ⟨cs.length, (nmOf x.1, now, [bareF x]), at_of (e := (nmOf x.1, now, [bareF x])) (by simp) rfl fun j e' hj he' => ?_, by simp, by simp⟩
      rw [List.getElem?_append_left hj] at he'
      exact at_none ha (List.mem_of_getElem? he')
  | some i =>
    rw [ha] at h
    obtain ⟨e, hi, hn⟩ := at_some ha
    dsimp only at h ⊢
    rw [hi] at h ⊢
    dsimp only at h ⊢
    split at h
    · rename_i r
      rw [if_pos r]
      exact ⟨i, e, ha, hi, hs e (List.mem_of_getElem? hi)⟩
    · rename_i r
      rw [if_neg r]
      split at h
      · cases h
      · rename_i r2
        rw [if_neg r2]
        split at h
        · cases h
        · rename_i r3
          rw [if_neg r3]
          have ilt : i < cs.length := (List.getElem?_eq_some_iff.1 hi).1
          refine ⟨i, (e.1, e.2.1, insF e.2.2 (bareF x)), at_of (e := (e.1, e.2.1, insF e.2.2 (bareF x))) (by rw [List.getElem?_set]; simp [ilt]) hn fun j e' hj he' => ?_, by rw [List.getElem?_set]; simp [ilt], ?_⟩
          · rw [List.getElem?_set, if_neg (by omega)] at he'
            exact at_first ha hj he'
          · intro z
            have := (ins_perm e.2.2 (bareF x)).length_eq
            dsimp only at z
            rw [z] at this
            simp at this
end Go.Proofs.YtnpggkpcadefjaaDoor.JoiC2

