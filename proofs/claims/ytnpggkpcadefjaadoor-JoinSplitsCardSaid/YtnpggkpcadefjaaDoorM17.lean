/- Pieces in whatever order: plain. No program is named. -/
import Derived.Test.YtnpggkpcadefjaaDoorJoiM
import Derived.Test.YtnpggkpcadefjaaDoorM12
set_option linter.unusedVariables false
namespace Go.Proofs.YtnpggkpcadefjaaDoor.JoiS
open Go.RowKit Go.Proofs.YtnpggkpcadefjaaDoor.Sums Go.Proofs.YtnpggkpcadefjaaDoor.Mem Go.Proofs.YtnpggkpcadefjaaDoor.Pkt Go.Proofs.YtnpggkpcadefjaaDoor.JoiM

/-- The bytes ahead of piece i. -/
def pl (fs : List Frag) (i : Nat) : List Int := (fs.take i).flatMap (·.2)
def bn (fs : List Frag) (i : Nat) : Nat := (pl fs i).length
/-- The pieces of a packet. -/
structure Run (p : Pkt) (l : List Int) (fs : List Frag) : Prop where
  two : 2 ≤ fs.length
  few : fs.length ≤ 60
  data : fs.flatMap (·.2) = l
  off : ∀ i x, fs[i]? = some x → x.1.off = (bn fs i : Int)
  pos : ∀ x ∈ fs, 0 < x.2.length
  mf : ∀ i x, fs[i]? = some x → x.1.mf = decide (i + 1 < fs.length)
  eight : ∀ i x, fs[i]? = some x → i + 1 < fs.length → x.2.length % 8 = 0
  key : ∀ x ∈ fs, x.1.src = p.src ∧ x.1.dst = p.dst ∧ x.1.proto = p.proto ∧ x.1.id = p.id
  ok : ∀ x ∈ fs, x.1.chk x.2.length = 0
  first : ∀ x, fs[0]? = some x → ({ x.1 with mf := false } : Pkt) = p
  chk : p.chk l.length = 0
  top : l.length ≤ 65515
section
variable {p : Pkt} {l : List Int} {fs : List Frag}
theorem pl_succ {i : Nat} {x : Frag} (h : fs[i]? = some x) : pl fs (i + 1) = pl fs i ++ x.2 := by
  unfold pl
  rw [List.take_add_one, h, List.flatMap_append]
  simp
theorem bn_succ {i : Nat} {x : Frag} (h : fs[i]? = some x) : bn fs (i + 1) = bn fs i + x.2.length := by
  unfold bn
  rw [pl_succ h, List.length_append]
theorem get_lt {i : Nat} (h : i < fs.length) : ∃ x, fs[i]? = some x := ⟨_, List.getElem?_eq_getElem h⟩
theorem Run.lt (r : Run p l fs) : ∀ {i j : Nat}, i < j → j ≤ fs.length → bn fs i < bn fs j := by
  intro i j
  induction j with
  | zero => intro h; omega
  | succ j ih =>
    intro h hj
    obtain ⟨x, hx⟩ := get_lt (fs := fs) (show j < fs.length by omega)
    have hp := r.pos x (List.mem_of_getElem? hx)
    rw [bn_succ hx]
    rcases Nat.lt_or_ge i j with q | q
    · have := ih q (by omega); omega
    · obtain rfl : i = j := by omega
      omega
theorem Run.le (r : Run p l fs) {i j : Nat} (h : i ≤ j) (hj : j ≤ fs.length) : bn fs i ≤ bn fs j := by
  rcases Nat.lt_or_ge i j with q | q
  · exact Nat.le_of_lt (r.lt q hj)
  · obtain rfl : i = j := by omega
    exact Nat.le_refl _
theorem bn_zero : bn fs 0 = 0 := rfl
theorem Run.all (r : Run p l fs) : pl fs fs.length = l := by
  unfold pl
  rw [List.take_length]
  exact r.data
theorem Run.top' (r : Run p l fs) : bn fs fs.length = l.length := by
  unfold bn
  rw [r.all]
theorem Run.end_ (r : Run p l fs) {i : Nat} {x : Frag} (h : fs[i]? = some x) : endF x = (bn fs (i + 1) : Int) := by
  unfold endF
  rw [r.off i x h, bn_succ h]
  omega
theorem Run.idx (r : Run p l fs) {i j : Nat} {x y : Frag} (hi : fs[i]? = some x) (hj : fs[j]? = some y) (h : x.1.off = y.1.off) : i = j := by
  rw [r.off i x hi, r.off j y hj] at h
  have li := (List.getElem?_eq_some_iff.1 hi).1
  have lj := (List.getElem?_eq_some_iff.1 hj).1
  rcases Nat.lt_trichotomy i j with q | q | q
  · have := r.lt q (by omega); omega
  · exact q
  · have := r.lt q (by omega); omega
theorem twin_self (x : Frag) : twinB x x = true := by simp [twinB]
theorem Run.twin (r : Run p l fs) {i j : Nat} {x y : Frag} (hi : fs[i]? = some x) (hj : fs[j]? = some y) (h : i ≠ j) : twinB x y = false := by
  unfold twinB
  rw [decide_eq_false (fun q => h (r.idx hi hj q)), Bool.false_and]
theorem Run.bad (r : Run p l fs) {i j : Nat} {x y : Frag} (hi : fs[i]? = some x) (hj : fs[j]? = some y) (h : i ≠ j) : badB x y = false := by
  have li := (List.getElem?_eq_some_iff.1 hi).1
  have lj := (List.getElem?_eq_some_iff.1 hj).1
  have ei := r.end_ hi
  have ej := r.end_ hj
  have oi := r.off i x hi
  have oj := r.off j y hj
  have mi := r.mf i x hi
  have mj := r.mf j y hj
  unfold badB
  rw [if_neg, if_neg]
  · rw [mi, mj, ei, ej]
    by_cases q : i + 1 < fs.length
    · rw [decide_eq_true q]
      by_cases q2 : j + 1 < fs.length
      · rw [decide_eq_true q2]; rfl
      · rw [decide_eq_false q2, decide_eq_false (show ¬ (bn fs (j + 1) : Int) < (bn fs (i + 1) : Int) by have := r.le (show i + 1 ≤ j + 1 by omega) (by omega); omega)]
        rfl
    · rw [decide_eq_false q, decide_eq_false (show ¬ (bn fs (i + 1) : Int) < (bn fs (j + 1) : Int) by have := r.le (show j + 1 ≤ i + 1 by omega) (by omega); omega), decide_eq_true (show j + 1 < fs.length by omega)]
      rfl
  · rintro ⟨a, b⟩
    rw [mi] at a
    rw [mj] at b
    have := of_decide_eq_false a
    have := of_decide_eq_false b
    omega
  · rintro ⟨a, b⟩
    rw [oi, ej] at a
    rw [oj, ei] at b
    rcases Nat.lt_trichotomy i j with q | q | q
    · have := r.le (show i + 1 ≤ j by omega) (by omega); omega
    · exact h q
    · have := r.le (show j + 1 ≤ i by omega) (by omega); omega
/-- Some of the pieces, by their places. -/
def some_ (fs : List Frag) (seen : List Nat) : List Frag := seen.filterMap (fs[·]?)
theorem mem_some {seen : List Nat} {x : Frag} : x ∈ some_ fs seen ↔ ∃ i ∈ seen, fs[i]? = some x := by
  unfold some_
  rw [List.mem_filterMap]
theorem Run.next (r : Run p l fs) {seen : List Nat} {c : Nat} (hc : c ≤ fs.length) : (c ∈ seen → ∀ x, fs[c]? = some x → nextF (some_ fs seen) (bn fs c) = some x) ∧ (c ∉ seen → nextF (some_ fs seen) (bn fs c) = none) := by
  have only : ∀ y ∈ some_ fs seen, (decide (y.1.off = (bn fs c : Int)) && decide (0 < y.2.length)) = true → c ∈ seen ∧ fs[c]? = some y := by
    intro y hy hq
    rw [Bool.and_eq_true, decide_eq_true_eq] at hq
    obtain ⟨i, his, hi⟩ := mem_some.1 hy
    have li := (List.getElem?_eq_some_iff.1 hi).1
    have := r.off i y hi
    have e : bn fs i = bn fs c := by omega
    obtain rfl : i = c := by
      rcases Nat.lt_trichotomy i c with q | q | q
      · have := r.lt q hc; omega
      · exact q
      · have := r.lt q (by omega); omega
    exact ⟨his, hi⟩
  refine ⟨fun hs x hx => ?_, fun hs => ?_⟩
  · unfold nextF
    cases hf : (some_ fs seen).find? fun x => decide (x.1.off = (bn fs c : Int)) && decide (0 < x.2.length) with
    | none =>
      rw [List.find?_eq_none] at hf
      have := hf x (mem_some.2 ⟨c, hs, hx⟩)
      rw [r.off c x hx] at this
      exact absurd (by simp [r.pos x (List.mem_of_getElem? hx)]) this
    | some y =>
      have h1 := List.find?_some hf
      have h2 := List.mem_of_find?_eq_some hf
      have := (only y h2 h1).2
      rw [hx] at this
      rw [← Option.some.inj this]
  · unfold nextF
    rw [List.find?_eq_none]
    intro y hy hq
    exact hs (only y hy hq).1
theorem Run.step (r : Run p l fs) {seen : List Nat} {c : Nat} (hc : c ≤ fs.length) : stepF (some_ fs seen) (pl fs c) = if c ∈ seen ∧ c < fs.length then pl fs (c + 1) else pl fs c := by
  unfold stepF
  have e : (pl fs c).length = bn fs c := rfl
  rw [e]
  by_cases q : c ∈ seen
  · by_cases q2 : c < fs.length
    · obtain ⟨x, hx⟩ := get_lt q2
      rw [(r.next hc).1 q x hx, if_pos ⟨q, q2⟩, pl_succ hx]
    · rw [if_neg (fun z => q2 z.2)]
      have : nextF (some_ fs seen) (bn fs c) = none := by
        unfold nextF
        rw [List.find?_eq_none]
        intro y hy hq
        rw [Bool.and_eq_true, decide_eq_true_eq] at hq
        obtain ⟨i, his, hi⟩ := mem_some.1 hy
        have li := (List.getElem?_eq_some_iff.1 hi).1
        have := r.off i y hi
        have := r.lt (show i < c by omega) hc
        omega
      rw [this]
  · rw [if_neg (fun z => q z.1), (r.next hc).2 q]
theorem Run.grow_all (r : Run p l fs) {seen : List Nat} (hs : ∀ i, i < fs.length → i ∈ seen) : ∀ (k c : Nat), c ≤ fs.length → fs.length ≤ c + k → growF (some_ fs seen) k (pl fs c) = l := by
  intro k
  induction k with
  | zero =>
    intro c hc hk
    obtain rfl : c = fs.length := by omega
    exact r.all
  | succ k ih =>
    intro c hc hk
    show growF (some_ fs seen) k (stepF (some_ fs seen) (pl fs c)) = l
    rw [r.step hc]
    by_cases q : c < fs.length
    · rw [if_pos ⟨hs c q, q⟩]
      exact ih (c + 1) (by omega) (by omega)
    · rw [if_neg (fun z => q z.2)]
      exact ih c hc (by omega)
theorem Run.grow_some (r : Run p l fs) {seen : List Nat} {j : Nat} (hj : j < fs.length) (hs : j ∉ seen) : ∀ (k c : Nat), c ≤ j → ∃ c', c' ≤ j ∧ growF (some_ fs seen) k (pl fs c) = pl fs c' := by
  intro k
  induction k with
  | zero => intro c hc; exact ⟨c, hc, rfl⟩
  | succ k ih =>
    intro c hc
    show ∃ c', c' ≤ j ∧ growF (some_ fs seen) k (stepF (some_ fs seen) (pl fs c)) = pl fs c'
    rw [r.step (by omega)]
    by_cases q : c ∈ seen ∧ c < fs.length
    · rw [if_pos q]
      have : c ≠ j := fun e => hs (e ▸ q.1)
      exact ih (c + 1) (by omega)
    · rw [if_neg q]
      exact ih c hc
theorem Run.last (r : Run p l fs) {seen : List Nat} {x : Frag} (h : lastF (some_ fs seen) = some x) : endF x = (l.length : Int) := by
  obtain ⟨i, his, hi⟩ := mem_some.1 (List.mem_of_find?_eq_some h)
  have hm := List.find?_some h
  have li := (List.getElem?_eq_some_iff.1 hi).1
  rw [r.mf i x hi] at hm
  simp only [Bool.not_eq_eq_eq_not, Bool.not_true, decide_eq_false_iff_not] at hm
  rw [r.end_ hi, show i + 1 = fs.length by omega, r.top']
theorem Run.whole_all (r : Run p l fs) {seen : List Nat} (hs : ∀ i, i < fs.length → i ∈ seen) (hn : fs.length ≤ (some_ fs seen).length + 1) : wholeF (some_ fs seen) = some l := by
  unfold wholeF
  have two := r.two
  obtain ⟨x, hx⟩ := get_lt (fs := fs) (show fs.length - 1 < fs.length by omega)
  cases hl : lastF (some_ fs seen) with
  | none =>
    unfold lastF at hl
    rw [List.find?_eq_none] at hl
    have := hl x (mem_some.2 ⟨_, hs _ (by omega), hx⟩)
    rw [r.mf _ x hx, decide_eq_false (by omega)] at this
    exact absurd rfl this
  | some y =>
    have e : growF (some_ fs seen) ((some_ fs seen).length + 1) [] = l := r.grow_all hs _ 0 (by omega) (by omega)
    dsimp only
    rw [e, if_pos (r.last hl)]
theorem Run.whole_some (r : Run p l fs) {seen : List Nat} {j : Nat} (hj : j < fs.length) (hs : j ∉ seen) : wholeF (some_ fs seen) = none := by
  unfold wholeF
  cases hl : lastF (some_ fs seen) with
  | none => rfl
  | some y =>
    obtain ⟨c, hc, e⟩ := r.grow_some hj hs ((some_ fs seen).length + 1) 0 (Nat.zero_le _)
    have e' : growF (some_ fs seen) ((some_ fs seen).length + 1) [] = pl fs c := e
    dsimp only
    rw [e', if_neg]
    rw [r.last hl, ← r.top']
    have := r.lt (show c < fs.length by omega) (Nat.le_refl _)
    show ¬ ((bn fs fs.length : Nat) : Int) = ((bn fs c : Nat) : Int)
    omega
end
end Go.Proofs.YtnpggkpcadefjaaDoor.JoiS

/- A joiner that is put a packet's pieces in whatever order, and another packet's piece between them: plain. -/
set_option linter.unusedVariables false
namespace Go.Proofs.YtnpggkpcadefjaaDoor.JoiS
open Go.RowKit Go.Proofs.YtnpggkpcadefjaaDoor.Sums Go.Proofs.YtnpggkpcadefjaaDoor.Mem Go.Proofs.YtnpggkpcadefjaaDoor.Pkt Go.Proofs.YtnpggkpcadefjaaDoor.JoiM Go.Proofs.YtnpggkpcadefjaaDoor.JoiS

theorem pig : ∀ (n : Nat) (s : List Nat), s.Nodup → (∀ x ∈ s, x < n) → s.length ≤ n := by
  intro n
  induction n with
  | zero =>
    intro s _ h
    cases s with
    | nil => exact Nat.le_refl _
    | cons x s => exact absurd (h x (by simp)) (Nat.not_lt_zero _)
  | succ n ih =>
    intro s hd h
    by_cases q : n ∈ s
    · have h1 := ih (s.erase n) (hd.erase n) (fun x hx => by
        have h2 := hd.mem_erase_iff.1 hx
        have := h x h2.2
        omega)
      rw [List.length_erase_of_mem q] at h1
      omega
    · have := ih s hd (fun x hx => by
        have := h x hx
        have : x ≠ n := fun e => q (e ▸ hx)
        omega)
      omega
theorem pig2 : ∀ (n : Nat) (s : List Nat), (∀ i, i < n → i ∈ s) → n ≤ s.length := by
  intro n
  induction n with
  | zero => intro s _; exact Nat.zero_le _
  | succ n ih =>
    intro s h
    have q := h n (by omega)
    have h1 := ih (s.erase n) (fun i hi => (List.mem_erase_of_ne (by omega)).2 (h i (by omega)))
    rw [List.length_erase_of_mem q] at h1
    have := List.length_pos_of_mem q
    omega
section
variable {p : Pkt} {l : List Int} {fs : List Frag} {o : Frag}
theorem some_snoc {seen : List Nat} {a : Nat} {x : Frag} (h : fs[a]? = some x) : some_ fs (seen ++ [a]) = some_ fs seen ++ [x] := by
  unfold some_
  rw [List.filterMap_append]
  simp [h]
theorem some_len : ∀ (seen : List Nat), (∀ i ∈ seen, i < fs.length) → (some_ fs seen).length = seen.length := by
  intro seen
  induction seen with
  | nil => intro _; rfl
  | cons i s ih =>
    intro h
    obtain ⟨x, hx⟩ := get_lt (fs := fs) (h i (by simp))
    have e : some_ fs (i :: s) = x :: some_ fs s := by simp [some_, hx]
    rw [e, List.length_cons, List.length_cons, ih (fun j hj => h j (by simp [hj]))]
theorem key_self (a : Pkt) : keyB a a = true := by simp [keyB]
theorem Run.keyT (r : Run p l fs) {x y : Frag} (hx : x ∈ fs) (hy : y ∈ fs) : keyB x.1 y.1 = true := by
  obtain ⟨a1, a2, a3, a4⟩ := r.key x hx
  obtain ⟨b1, b2, b3, b4⟩ := r.key y hy
  simp [keyB, a1, a2, a3, a4, b1, b2, b3, b4]
theorem Run.keyF (r : Run p l fs) {x : Frag} (hx : x ∈ fs) {q : Pkt} (h : q.id ≠ p.id) : keyB q x.1 = false ∧ keyB x.1 q = false := by
  obtain ⟨a1, a2, a3, a4⟩ := r.key x hx
  constructor
  · simp [keyB, a4, h]
  · simp [keyB, a4]
    intro _ _ _ e
    exact h e.symm
/-- What waits: the pieces that have come, and beside it perhaps the other packet's one. -/
def mid (fs : List Frag) (seen : List Nat) : JSt := if seen = [] then [] else [(0, some_ fs seen)]
def FormJ (fs : List Frag) (o : Frag) (seen : List Nat) (st : JSt) : Prop := ∃ pre post : JSt, st = pre ++ (mid fs seen ++ post) ∧ (pre ++ post = [] ∨ pre ++ post = [(0, [o])])
theorem form_nil : FormJ fs o [] [] := ⟨[], [], rfl, .inl rfl⟩
theorem mid_len (seen : List Nat) : (mid fs seen).length ≤ 1 := by
  unfold mid
  split <;> simp
theorem FormJ.len {seen : List Nat} {st : JSt} (h : FormJ fs o seen st) : st.length ≤ 2 := by
  obtain ⟨pre, post, rfl, h⟩ := h
  have := mid_len (fs := fs) seen
  have e : (pre ++ post).length ≤ 1 := by rcases h with h | h <;> rw [h] <;> simp
  rw [List.length_append] at e
  rw [List.length_append, List.length_append]
  omega
/-- The rest of a Put, for a piece of the packet. -/
theorem Run.put (r : Run p l fs) {a : Nat} {x : Frag} (hx : fs[a]? = some x) (s : JSt) : putJ 0 x s = match atJ s x.1 with
    | none => if 16 ≤ s.length then ((none, 7), s) else finJ (s ++ [(0, [x])]) s.length [x]
    | some i => match s[i]? with
      | none => ((none, 0), s)
      | some e => if e.2.any (twinB · x) = true then ((none, 0), s) else if 64 ≤ e.2.length then ((none, 7), s) else if e.2.any (badB · x) = true then ((none, 4), s.eraseIdx i)
        else finJ (s.set i (e.1, e.2 ++ [x])) i (e.2 ++ [x]) := by
  have hm := List.mem_of_getElem? hx
  have la := (List.getElem?_eq_some_iff.1 hx).1
  have two := r.two
  unfold putJ
  rw [if_neg (by rw [r.ok x hm]; exact fun z => z rfl), if_neg (by
      rintro ⟨z1, z2⟩
      rw [r.off a x hx] at z1
      rw [r.mf a x hx] at z2
      have z2 := of_decide_eq_false z2
      have := r.lt (show 0 < a by omega) (by omega)
      have := bn_zero (fs := fs)
      omega), if_neg (by
      rintro ⟨z1, z2⟩
      rw [r.mf a x hx] at z1
      have := r.eight a x hx (of_decide_eq_true z1)
      have := r.pos x hm
      omega), if_neg (by
      rw [r.end_ hx]
      have := r.le (show a + 1 ≤ fs.length by omega) (Nat.le_refl _)
      rw [r.top'] at this
      have := r.top
      omega)]
  cases atJ s x.1 with
  | none => rfl
  | some i => cases s[i]? <;> rfl
theorem at_skip {pre rest : JSt} {q : Pkt} (h : ∀ e ∈ pre, isOf q e = false) : atJ (pre ++ rest) q = (atJ rest q).map (· + pre.length) := by
  unfold atJ
  rw [List.findIdx?_append, List.findIdx?_eq_none_iff.2 h]
  simp
theorem Run.heads (r : Run p l fs) {seen : List Nat} (hs : ∀ i ∈ seen, i < fs.length) (hn : seen ≠ []) : ∃ y ys, some_ fs seen = y :: ys ∧ y ∈ fs := by
  cases seen with
  | nil => exact absurd rfl hn
  | cons i s =>
    obtain ⟨x, hx⟩ := get_lt (fs := fs) (hs i (by simp))
    exact ⟨x, some_ fs s, by simp [some_, hx], List.mem_of_getElem? hx⟩
theorem other_off {st : JSt} (h : st = [] ∨ st = [(0, [o])]) {q : Pkt} (hk : keyB o.1 q = false) : ∀ e ∈ st, isOf q e = false := by
  intro e he
  rcases h with rfl | rfl
  · cases he
  · obtain rfl := List.mem_singleton.1 he
    exact hk
theorem sub_off {pre post : JSt} (h : pre ++ post = [] ∨ pre ++ post = [(0, [o])]) {q : Pkt} (hk : keyB o.1 q = false) : (∀ e ∈ pre, isOf q e = false) ∧ ∀ e ∈ post, isOf q e = false :=
  ⟨fun e he => other_off h hk e (List.mem_append_left _ he), fun e he => other_off h hk e (List.mem_append_right _ he)⟩
/-- Where the packet waits. -/
theorem Run.at_some (r : Run p l fs) (ho : o.1.id ≠ p.id) {seen : List Nat} {pre post : JSt} (h : pre ++ post = [] ∨ pre ++ post = [(0, [o])]) (hs : ∀ i ∈ seen, i < fs.length) (hn : seen ≠ []) {x : Frag} (hx : x ∈ fs) : atJ (pre ++ (mid fs seen ++ post)) x.1 = some pre.length ∧ (pre ++ (mid fs seen ++ post))[pre.length]? = some (0, some_ fs seen) := by
  obtain ⟨y, ys, e, hy⟩ := r.heads hs hn
  have em : mid fs seen = [(0, some_ fs seen)] := if_neg hn
  rw [em, at_skip (sub_off h (r.keyF hx ho).1).1]
  constructor
  · unfold atJ
    rw [List.singleton_append, List.findIdx?_cons]
    have : isOf x.1 (0, some_ fs seen) = true := by unfold isOf; dsimp only; rw [e]; exact r.keyT hy hx
    simp only [this, if_true]
    simp
  · rw [List.getElem?_append_right (Nat.le_refl _), Nat.sub_self]
    rfl
theorem Run.at_no (r : Run p l fs) (ho : o.1.id ≠ p.id) {pre post : JSt} (h : pre ++ post = [] ∨ pre ++ post = [(0, [o])]) {x : Frag} (hx : x ∈ fs) : atJ (pre ++ post) x.1 = none := by
  unfold atJ
  rw [List.findIdx?_eq_none_iff]
  exact other_off h (r.keyF hx ho).1
theorem Run.any_twin (r : Run p l fs) {seen : List Nat} {a : Nat} {x : Frag} (hx : fs[a]? = some x) : (some_ fs seen).any (twinB · x) = decide (a ∈ seen) := by
  by_cases q : a ∈ seen
  · rw [decide_eq_true q]
    exact List.any_eq_true.2 ⟨x, mem_some.2 ⟨a, q, hx⟩, twin_self x⟩
  · rw [decide_eq_false q]
    rw [List.any_eq_false]
    intro y hy
    obtain ⟨i, his, hi⟩ := mem_some.1 hy
    rw [r.twin hi hx (fun e => q (e ▸ his))]
    exact fun z => by cases z
theorem Run.any_bad (r : Run p l fs) {seen : List Nat} {a : Nat} {x : Frag} (hx : fs[a]? = some x) (q : a ∉ seen) : (some_ fs seen).any (badB · x) = false := by
  rw [List.any_eq_false]
  intro y hy
  obtain ⟨i, his, hi⟩ := mem_some.1 hy
  rw [r.bad hi hx (fun e => q (e ▸ his))]
  exact fun z => by cases z
/-- A piece that has come already. -/
theorem Run.put_again (r : Run p l fs) (ho : o.1.id ≠ p.id) {seen : List Nat} {st : JSt} (h : FormJ fs o seen st) (hs : ∀ i ∈ seen, i < fs.length) {a : Nat} {x : Frag} (hx : fs[a]? = some x) (q : a ∈ seen) : putJ 0 x st = ((none, 0), st) := by
  obtain ⟨pre, post, rfl, h⟩ := h
  have hn : seen ≠ [] := fun e => by rw [e] at q; cases q
  obtain ⟨h1, h2⟩ := r.at_some ho h hs hn (List.mem_of_getElem? hx)
  rw [r.put hx, h1]
  dsimp only
  rw [h2]
  dsimp only
  rw [r.any_twin hx, decide_eq_true q, if_pos rfl]
/-- A new piece: behind it the packet is whole, or it waits. -/
theorem Run.put_fresh (r : Run p l fs) (ho : o.1.id ≠ p.id) {seen : List Nat} {st : JSt} (h : FormJ fs o seen st) (hd : seen.Nodup) (hs : ∀ i ∈ seen, i < fs.length) {a : Nat} {x : Frag} (hx : fs[a]? = some x) (q : a ∉ seen) :
    ∃ st' i, putJ 0 x st = finJ st' i (some_ fs (seen ++ [a])) ∧ FormJ fs o (seen ++ [a]) st' := by
  obtain ⟨pre, post, rfl, h⟩ := h
  have hm := List.mem_of_getElem? hx
  have nn : seen ++ [a] ≠ [] := by simp
  by_cases hn : seen = []
  · subst hn
    have e0 : mid fs [] = [] := if_pos rfl
    rw [e0, List.nil_append]
    refine ⟨pre ++ post ++ [(0, [x])], (pre ++ post).length, ?_, pre ++ post, [], ?_, by rw [List.append_nil]; exact h⟩
    · rw [r.put hx, r.at_no ho h hm]
      dsimp only
      have : (pre ++ post).length ≤ 1 := by rcases h with h | h <;> rw [h] <;> simp
      rw [if_neg (by omega)]
      congr 1
      rw [some_snoc hx]
      rfl
    · rw [List.append_nil]
      unfold mid
      rw [if_neg nn, some_snoc hx]
      rfl
  · obtain ⟨h1, h2⟩ := r.at_some ho h hs hn hm
    have em : mid fs seen = [(0, some_ fs seen)] := if_neg hn
    have l60 := pig fs.length seen hd hs
    have few := r.few
    refine ⟨pre ++ (mid fs (seen ++ [a]) ++ post), pre.length, ?_, pre, post, rfl, h⟩
    rw [r.put hx, h1]
    dsimp only
    rw [h2]
    dsimp only
    rw [r.any_twin hx, decide_eq_false q, if_neg (by simp), if_neg (by rw [some_len seen hs]; omega), r.any_bad hx q, if_neg (by simp), some_snoc hx]
    congr 1
    rw [em, List.set_append_right _ _ (Nat.le_refl _), Nat.sub_self]
    unfold mid
    rw [if_neg nn, some_snoc hx]
    rfl
theorem Run.put_wait (r : Run p l fs) (ho : o.1.id ≠ p.id) {seen : List Nat} {st : JSt} (h : FormJ fs o seen st) (hd : seen.Nodup) (hs : ∀ i ∈ seen, i < fs.length) {a : Nat} {x : Frag} (hx : fs[a]? = some x) (q : a ∉ seen) {j : Nat} (hj : j < fs.length) (hjs : j ∉ seen ++ [a]) :
    ∃ st', putJ 0 x st = ((none, 0), st') ∧ FormJ fs o (seen ++ [a]) st' := by
  obtain ⟨st', i, e, h'⟩ := r.put_fresh ho h hd hs hx q
  refine ⟨st', ?_, h'⟩
  rw [e]
  unfold finJ
  rw [r.whole_some hj hjs]
theorem Run.head (r : Run p l fs) {seen : List Nat} (h0 : 0 ∈ seen) : ∃ y, headF (some_ fs seen) = some y ∧ fs[0]? = some y := by
  obtain ⟨x, hx⟩ := get_lt (fs := fs) (show 0 < fs.length by have := r.two; omega)
  unfold headF
  cases hf : (some_ fs seen).find? fun x => decide (x.1.off = 0) && decide (0 < x.2.length) with
  | none =>
    rw [List.find?_eq_none] at hf
    have := hf x (mem_some.2 ⟨0, h0, hx⟩)
    rw [r.off 0 x hx] at this
    exact absurd (by simp [bn_zero, r.pos x (List.mem_of_getElem? hx)]) this
  | some y =>
    have h1 := List.find?_some hf
    obtain ⟨i, his, hi⟩ := mem_some.1 (List.mem_of_find?_eq_some hf)
    rw [Bool.and_eq_true, decide_eq_true_eq] at h1
    obtain rfl := r.idx hi hx (by rw [h1.1, r.off 0 x hx, bn_zero]; rfl)
    exact ⟨y, rfl, hi⟩
theorem Run.put_done (r : Run p l fs) (ho : o.1.id ≠ p.id) {seen : List Nat} {st : JSt} (h : FormJ fs o seen st) (hd : seen.Nodup) (hs : ∀ i ∈ seen, i < fs.length) {a : Nat} {x : Frag} (hx : fs[a]? = some x) (q : a ∉ seen) (hall : ∀ i, i < fs.length → i ∈ seen ++ [a]) :
    ∃ st', putJ 0 x st = ((some (p, l), 0), st') := by
  obtain ⟨st', i, e, h'⟩ := r.put_fresh ho h hd hs hx q
  have hs' : ∀ i ∈ seen ++ [a], i < fs.length := fun i hi => by
    rcases List.mem_append.1 hi with hi | hi
    · exact hs i hi
    · obtain rfl := List.mem_singleton.1 hi
      exact (List.getElem?_eq_some_iff.1 hx).1
  have two := r.two
  obtain ⟨y, hy, h0⟩ := r.head (hall 0 (by omega))
  refine ⟨st'.eraseIdx i, ?_⟩
  rw [e]
  unfold finJ
  rw [r.whole_all hall (by rw [some_len _ hs']; have := pig2 fs.length _ hall; omega)]
  dsimp only
  rw [hy]
  dsimp only
  rw [r.first y h0, if_neg (by rw [r.chk]; exact fun z => z rfl)]
/-- A piece comes: what is answered, and which have come then. -/
theorem Run.out (r : Run p l fs) (ho : o.1.id ≠ p.id) {seen : List Nat} {st : JSt} (h : FormJ fs o seen st) (hd : seen.Nodup) (hs : ∀ i ∈ seen, i < fs.length) (hj : ∃ j, j < fs.length ∧ j ∉ seen) {a : Nat} {x : Frag} (hx : fs[a]? = some x) :
    ∃ (d : Bool) (st' : JSt) (seen' : List Nat), a ∈ seen' ∧ (∀ i, i ∈ seen' ↔ i ∈ seen ∨ i = a) ∧ (∀ i ∈ seen', i < fs.length) ∧ seen'.Nodup ∧ putJ 0 x st = ((if d = true then some (p, l) else none, 0), st') ∧ (d = true ↔ ∀ i, i < fs.length → i ∈ seen') ∧ (d = false → FormJ fs o seen' st' ∧ ∃ j, j < fs.length ∧ j ∉ seen') := by
  have la := (List.getElem?_eq_some_iff.1 hx).1
  by_cases q : a ∈ seen
  · refine ⟨false, st, seen, q, fun i => ⟨.inl, fun z => z.elim id fun e => e ▸ q⟩, hs, hd, r.put_again ho h hs hx q, ⟨fun z => (by cases z), fun z => ?_⟩, fun _ => ⟨h, hj⟩⟩
    obtain ⟨j, j1, j2⟩ := hj
    exact absurd (z j j1) j2
  · have hs' : ∀ i ∈ seen ++ [a], i < fs.length := fun i hi => by
      rcases List.mem_append.1 hi with hi | hi
      · exact hs i hi
      · obtain rfl := List.mem_singleton.1 hi
        exact la
    have hd' : (seen ++ [a]).Nodup := by
      rw [List.nodup_append]
      exact ⟨hd, by simp, fun u hu v hv e => by obtain rfl := List.mem_singleton.1 hv; subst e; exact q hu⟩
    have iff_ : ∀ i, i ∈ seen ++ [a] ↔ i ∈ seen ∨ i = a := fun i => by simp
    by_cases all : ∃ j, j < fs.length ∧ j ∉ seen ++ [a]
    · have all' := all
      obtain ⟨j, j1, j2⟩ := all
      obtain ⟨st', e, f⟩ := r.put_wait ho h hd hs hx q j1 j2
      exact ⟨false, st', seen ++ [a], by simp, iff_, hs', hd', e, ⟨fun z => (by cases z), fun z => absurd (z j j1) j2⟩, fun _ => ⟨f, all'⟩⟩
    · have hall : ∀ i, i < fs.length → i ∈ seen ++ [a] := fun i hi => Classical.byContradiction fun z => all ⟨i, hi, z⟩
      obtain ⟨st', e⟩ := r.put_done ho h hd hs hx q hall
      exact ⟨true, st', seen ++ [a], by simp, iff_, hs', hd', e, ⟨fun _ => hall, fun _ => rfl⟩, fun z => by cases z⟩
/-- The other packet's piece turns nothing. -/
theorem Run.put_other (r : Run p l fs) (ho : o.1.id ≠ p.id) {seen : List Nat} {st : JSt} (h : FormJ fs o seen st) (hs : ∀ i ∈ seen, i < fs.length) : FormJ fs o seen (putJ 0 o st).2 := by
  have h' := h
  have len := h.len
  obtain ⟨pre, post, rfl, h⟩ := h
  have offM : ∀ e ∈ mid fs seen, isOf o.1 e = false := by
    intro e he
    unfold mid at he
    by_cases hn : seen = []
    · rw [if_pos hn] at he; cases he
    · rw [if_neg hn] at he
      obtain rfl := List.mem_singleton.1 he
      obtain ⟨y, ys, e, hy⟩ := r.heads hs hn
      unfold isOf
      dsimp only
      rw [e]
      exact (r.keyF hy ho).2
  unfold putJ
  by_cases c1 : o.1.chk o.2.length ≠ 0
  · rw [if_pos c1]; exact h'
  rw [if_neg c1]
  by_cases c2 : o.1.off = 0 ∧ o.1.mf = false
  · rw [if_pos c2]; exact h'
  rw [if_neg c2]
  by_cases c3 : o.1.mf = true ∧ (o.2.length = 0 ∨ o.2.length % 8 ≠ 0)
  · rw [if_pos c3]; exact h'
  rw [if_neg c3]
  by_cases c4 : 65515 < endF o
  · rw [if_pos c4]; exact h'
  rw [if_neg c4]
  rcases h with h | h
  · obtain ⟨rfl, rfl⟩ := List.append_eq_nil_iff.1 h
    rw [List.nil_append, List.append_nil] at h' len ⊢
    have e : atJ (mid fs seen) o.1 = none := by
      unfold atJ
      rw [List.findIdx?_eq_none_iff]
      exact offM
    rw [e]
    dsimp only
    rw [if_neg (by omega)]
    have F2 : FormJ fs o seen (mid fs seen ++ [(0, [o])]) := ⟨[], [(0, [o])], rfl, .inr rfl⟩
    have F3 : FormJ fs o seen ((mid fs seen ++ [(0, [o])]).eraseIdx (mid fs seen).length) := by
      rw [List.eraseIdx_append_of_length_le (Nat.le_refl _), Nat.sub_self]
      exact ⟨[], [], by simp, .inl rfl⟩
    unfold finJ
    split
    · exact F2
    · split
      · exact F3
      · split
        · exact F3
        · exact F3
  · have key : ∃ i, atJ (pre ++ (mid fs seen ++ post)) o.1 = some i ∧ (pre ++ (mid fs seen ++ post))[i]? = some (0, [o]) := by
      have one : atJ [(0, [o])] o.1 = some 0 := by
        unfold atJ
        rw [List.findIdx?_cons]
        have : isOf o.1 (0, [o]) = true := key_self o.1
        simp only [this, if_true]
      cases pre with
      | nil =>
        rw [List.nil_append] at h
        subst h
        refine ⟨(mid fs seen).length, ?_, ?_⟩
        · rw [List.nil_append, at_skip offM, one]
          simp
        · rw [List.nil_append, List.getElem?_append_right (Nat.le_refl _), Nat.sub_self]
          rfl
      | cons e pre =>
        rw [List.cons_append] at h
        injection h with h1 h2
        obtain ⟨rfl, rfl⟩ := List.append_eq_nil_iff.1 h2
        subst h1
        refine ⟨0, ?_, rfl⟩
        unfold atJ
        rw [List.cons_append, List.findIdx?_cons]
        have : isOf o.1 (0, [o]) = true := key_self o.1
        simp only [this, if_true]
    obtain ⟨i, k1, k2⟩ := key
    rw [k1]
    dsimp only
    rw [k2]
    dsimp only
    have tw : ([o].any fun x => twinB x o) = true := List.any_eq_true.2 ⟨o, by simp, twin_self o⟩
    rw [if_pos tw]
    exact h'
end
end Go.Proofs.YtnpggkpcadefjaaDoor.JoiS

/- What Split gives is such a run of pieces: plain. -/
set_option linter.unusedVariables false
namespace Go.Proofs.YtnpggkpcadefjaaDoor.JoiR
open Go.RowKit Go.Proofs.YtnpggkpcadefjaaDoor.Sums Go.Proofs.YtnpggkpcadefjaaDoor.Mem Go.Proofs.YtnpggkpcadefjaaDoor.Pkt Go.Proofs.YtnpggkpcadefjaaDoor.Check Go.Proofs.YtnpggkpcadefjaaDoor.SplD Go.Proofs.YtnpggkpcadefjaaDoor.SplM Go.Proofs.YtnpggkpcadefjaaDoor.SplN Go.Proofs.YtnpggkpcadefjaaDoor.JoiM Go.Proofs.YtnpggkpcadefjaaDoor.JoiS

theorem run_of {p : Pkt} {l : List Int} {mtu : Int} {fs : List Frag} (h : splitR p l mtu = (0, fs)) (h0 : p.off = 0) (h1 : p.mf = false) (h2 : 2 ≤ fs.length) (h3 : fs.length ≤ 60) : Run p l fs := by
  have z : (splitR p l mtu).1 = 0 := by rw [h]
  have e2 : (splitR p l mtu).2 = fs := by rw [h]
  have at_ : ∀ i x, fs[i]? = some x → _ := fun i x hx => split_at z (i := i) (x := x) (by rw [e2]; exact hx)
  rw [e2] at at_
  obtain ⟨hv, hn, hm, lat, l1, l4, e, off⟩ := split_zero z
  rw [e2] at e
  have hw := wide_of hv hm lat.size l1
  have offs : ∀ i x, fs[i]? = some x → x.1.off = (bn fs i : Int) := by
    intro i
    induction i with
    | zero =>
      intro x hx
      obtain ⟨b, k, _, _, _, ho, _, _, _, _, _, _, _, _, _, _, hf, _⟩ := at_ 0 x hx
      rw [ho, (hf rfl).1, h0]
      rfl
    | succ i ih =>
      intro y hy
      have hi : i < fs.length := by have := (List.getElem?_eq_some_iff.1 hy).1; omega
      obtain ⟨x, hx⟩ := get_lt hi
      obtain ⟨b, k, _, _, hk, ho, _, _, _, _, _, _, _, _, _, _, _, way⟩ := at_ i x hx
      have hb := ih x hx
      rcases way with ⟨_, _, _, _, y', hy', ho'⟩ | ⟨hl, _⟩
      · rw [hy] at hy'
        obtain rfl := Option.some.inj hy'
        rw [ho', bn_succ hx, hk, h0]
        rw [h0] at ho
        omega
      · have := (List.getElem?_eq_some_iff.1 hy).1
        omega
  have len : fs.length = (cuts mtu.toNat p.opt.size lat.size l.length (l.length + 1) 0).length := by rw [e, List.length_map]
  refine ⟨h2, h3, ?_, offs, ?_, ?_, ?_, ?_, ?_, ?_, chk_ok hv hn, by omega⟩
  · rw [e, List.flatMap_map]
    exact cuts_all l rfl hw (l.length + 1) 0 (Nat.zero_le _) (by omega)
  · intro x hx
    obtain ⟨i, hi⟩ := List.mem_iff_getElem?.1 hx
    have hi' := hi
    rw [e, List.getElem?_map] at hi'
    obtain ⟨⟨b, k⟩, hq, rfl⟩ := Option.map_eq_some_iff.1 hi'
    obtain ⟨_, c2, _, _, _, _, c6⟩ := cuts_each hw (l.length + 1) 0 (Nat.zero_le _) (by omega) i b k hq
    have zl : (piece p lat l (b, k)).2.length = k := by
      show ((l.drop b).take k).length = k
      rw [List.length_take, List.length_drop]; omega
    rw [zl]
    rcases c6 with ⟨q1, q2, _, _⟩ | ⟨q1, q2⟩
    · have := room_lo hw b
      omega
    · have li := (List.getElem?_eq_some_iff.1 hi).1
      obtain ⟨j, rfl⟩ : ∃ j, i = j + 1 := ⟨i - 1, by omega⟩
      have hj : j < (cuts mtu.toNat p.opt.size lat.size l.length (l.length + 1) 0).length := by omega
      have hc : (cuts mtu.toNat p.opt.size lat.size l.length (l.length + 1) 0)[j]? = some ((cuts mtu.toNat p.opt.size lat.size l.length (l.length + 1) 0)[j]'hj) := List.getElem?_eq_getElem hj
      generalize (cuts mtu.toNat p.opt.size lat.size l.length (l.length + 1) 0)[j]'hj = c at hc
      obtain ⟨b', k'⟩ := c
      obtain ⟨_, _, _, _, _, _, d6⟩ := cuts_each hw (l.length + 1) 0 (Nat.zero_le _) (by omega) j b' k' hc
      rcases d6 with ⟨_, _, d3, k2, d4⟩ | ⟨d1, _⟩
      · rw [hq] at d4
        injection d4 with d4
        injection d4 with d4 d5
        omega
      · omega
  · intro i x hx
    obtain ⟨b, k, _, _, _, _, _, _, _, _, _, _, _, _, _, _, _, way⟩ := at_ i x hx
    rcases way with ⟨hl, _, _, hmf, _⟩ | ⟨hl, _, hmf⟩
    · rw [hmf, decide_eq_true hl]
    · rw [hmf, h1, decide_eq_false (by omega)]
  · intro i x hx hl
    obtain ⟨b, k, _, _, hk, _, _, _, _, _, _, _, _, _, _, _, _, way⟩ := at_ i x hx
    rcases way with ⟨_, h8, _⟩ | ⟨hl', _⟩
    · rw [hk]; exact h8
    · omega
  · intro x hx
    obtain ⟨i, hi⟩ := List.mem_iff_getElem?.1 hx
    obtain ⟨b, k, _, _, _, _, _, _, _, _, eid, _, epr, _, es, ed, _⟩ := at_ i x hi
    exact ⟨es, ed, epr, eid⟩
  · intro x hx
    obtain ⟨i, hi⟩ := List.mem_iff_getElem?.1 hx
    obtain ⟨b, k, _, _, hk, _, _, hv', hn', _⟩ := at_ i x hi
    exact chk_ok hv' (by rw [hk]; exact hn')
  · intro x hx
    obtain ⟨b, k, _, _, _, ho, _, _, _, e1, e2, e3, e4, e5, e6, e7, hf, _⟩ := at_ 0 x hx
    obtain ⟨hb, eo⟩ := hf rfl
    subst hb
    obtain ⟨⟨x1, x2, x3, x4, x5, x6, x7, x8, x9, x10⟩, xd⟩ := x
    obtain ⟨p1, p2, p3, p4, p5, p6, p7, p8, p9, p10⟩ := p
    simp only at e1 e2 e3 e4 e5 e6 e7 eo ho h0 h1
    subst e1 e2 e3 e4 e5 e6 e7 eo h0 h1
    simp only [Pkt.mk.injEq, true_and, and_true]
    omega
end Go.Proofs.YtnpggkpcadefjaaDoor.JoiR

