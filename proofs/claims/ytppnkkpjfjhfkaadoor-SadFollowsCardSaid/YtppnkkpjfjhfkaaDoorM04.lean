/- Rows of u64 that the call owns: nil, literals, appends. No function is named. -/
import Derived.Test.YtppnkkpjfjhfkaaDoorM01
import Derived.Laws.MakeOwn
import Derived.OwnWalk
set_option linter.unusedVariables false
namespace Go.Proofs.YtppnkkpjfjhfkaaDoor.Longs
open Go.RowKit Go.Proofs.YtppnkkpjfjhfkaaDoor.Sums Go.Proofs.YtppnkkpjfjhfkaaDoor.Mem Go.Proofs.YtppnkkpjfjhfkaaDoor.Blk

def Q64 : Nat := 18446744073709551616
theorem long_info : (Tryd.prog.info? 30).map (fun i => (i.zero, i.size, i.bytes)) = some (some (.int .u64 0), 1, 8) := by kernel_rfl
def qvals (l : List Nat) : List Value := l.map fun n : Nat => Value.int .u64 (n : Int)
theorem qvals_len (l : List Nat) : (qvals l).length = l.length := by simp [qvals]
theorem qvals_app (a b : List Nat) : qvals (a ++ b) = qvals a ++ qvals b := by simp [qvals]
theorem qvals_get {l : List Nat} {i : Nat} (h : i < l.length) : (qvals l)[i]? = some (.int .u64 ((l.getD i 0 : Nat) : Int)) := by
  unfold qvals
  rw [List.getElem?_map, List.getD_eq_getElem?_getD, List.getElem?_eq_getElem h]
  rfl
theorem qvals_one (l : List Nat) : ∀ u ∈ qvals l, u.oneCell' = true := by
  intro u hu
  obtain ⟨n, _, rfl⟩ := List.mem_map.1 hu
  rfl
/-- A row of u64 that the call owns. -/
def QOwn (w : World) (base : Nat) (v : Value) (l : List Nat) : Prop := w.ownsRow base 30 1 v l.length (qvals l)
section
variable {w w' : World} {base : Nat} {v : Value} {l : List Nat}
theorem QOwn.nil (w : World) (base : Nat) : QOwn w base (.slice none 0 0) [] := ⟨rfl, .inl ⟨rfl, rfl⟩⟩
theorem QOwn.kept {row : Option Nat} (h : QOwn w base v l) (hg : w.grownBy w' row) (hne : v.ownBlock = none ∨ v.ownBlock ≠ row) : QOwn w' base v l := World.ownsRow.kept h hg hne
theorem QOwn.below {B : Nat} (h : QOwn w base v l) (hb : Below B w w') (hB : w.heap.size ≤ B) : QOwn w' base v l :=
  h.kept (row := none) ⟨hb.os, hb.tape, hb.output, hb.size, fun k hk _ => hb.block k (by omega)⟩ (by cases hv : v.ownBlock <;> simp)
theorem QOwn.up (h : QOwn w base v l) (hb : Below w.heap.size w w') : QOwn w' base v l := h.below hb (Nat.le_refl _)
theorem QOwn.alloc (h : QOwn w base v l) (o : Obj) : QOwn (w.alloc o) base v l := World.ownsRow.alloc h o
theorem QOwn.drew (h : QOwn w base v l) : QOwn w.drew base v l := h
theorem QOwn.mono {b2 : Nat} (h : QOwn w base v l) (hb : b2 ≤ base) : QOwn w b2 v l := by
  refine ⟨h.1, ?_⟩
  rcases h.2 with hn | ⟨g, cap, cur, rfl, hb', rest⟩
  · exact .inl hn
  · exact .inr ⟨g, cap, cur, rfl, by omega, rest⟩
theorem QOwn.form (h : QOwn w base v l) (hn : 0 < l.length) : ∃ g cap, v = .slice (some ⟨g, 0, none⟩) l.length cap ∧ base ≤ g ∧ g < w.heap.size ∧ l.length ≤ cap ∧ cap ≤ maxLen := by
  rcases h.2 with ⟨_, h0⟩ | ⟨g, cap, cur, rfl, hb, hgg, h1, h2, _⟩
  · omega
  · refine ⟨g, cap, rfl, hb, ?_, h1, h2⟩
    rcases Nat.lt_or_ge g w.heap.size with q | q
    · exact q
    · rw [Array.getElem?_eq_none q] at hgg; cases hgg
theorem QOwn.shape (h : QOwn w base v l) : ∃ A cap, v = .slice A l.length cap := by
  rcases h.2 with ⟨rfl, h0⟩ | ⟨g, cap, cur, rfl, _⟩
  · exact ⟨none, 0, by rw [h0]⟩
  · exact ⟨_, cap, rfl⟩
theorem QOwn.lt (h : QOwn w base v l) : ∀ k, v.ownBlock = some k → base ≤ k ∧ k < w.heap.size := World.ownsRow.lt h
theorem QOwn.cell {g cap : Nat} (h : QOwn w base (.slice (some ⟨g, 0, none⟩) l.length cap) l) {i : Nat} (hi : i < l.length) : w.cell? ⟨g, i, none⟩ = some (.int .u64 ((l.getD i 0 : Nat) : Int)) := by
  have := World.ownsRow.cellAt h i (by omega)
  rw [this]
  exact qvals_get hi
end
/-- A number put behind a row of u64. -/
theorem wpList_append_long {w : World} {ops : Array Oper} {rest : List Oper} {o : Oper} {a : Act} {Q : Exit → Act → World → Prop} (hgd : o.guard = none) (s x : Operand)
    (ho : o.op = .call { callee := .builtin .append, args := #[s, x], argTypes := #[45, 45] })
    (base : Nat) (v : Value) (l : List Nat) (hs : a.eval s = v) (h : QOwn w base v l) (g c : Nat) (ks : List Nat) (hx : a.eval x = .slice (some ⟨g, 0, none⟩) ks.length c)
    (hk : ∀ i, i < ks.length → w.cell? ⟨g, i, none⟩ = some (.int .u64 ((ks.getD i 0 : Nat) : Int))) (h0 : 0 < ks.length)
    (hsm : l.length + ks.length ≤ 1048576) (hbase : base ≤ w.heap.size)
    (hK : ∀ g' cap w', QOwn w' base (.slice (some ⟨g', 0, none⟩) (l ++ ks).length cap) (l ++ ks) → w.grownBy w' v.ownBlock → (v.ownBlock = some g' ∨ g' = w.heap.size) → g' < w'.heap.size → wpList Tryd.prog ops Q rest (a.put o.dst (.slice (some ⟨g', 0, none⟩) (l ++ ks).length cap)) w') : wpList Tryd.prog ops Q (o :: rest) a w := by
  refine wpList_plain hgd fun K' hK' => ?_
  obtain ⟨i, hi, hz, hsz, hby⟩ := info_parts long_info
  rw [List.length_append] at hK
  refine Go.wp_append_lies w s x 45 ho base 30 i (.int .u64 0) 1 8 Tryd.underlying45 hi hz hsz hby rfl (by decide) v l.length (qvals l) hs h ⟨g, 0, none⟩ ks.length c (qvals ks) hx (by rw [qvals_len]; omega)
    (fun j u hu => ?_) (qvals_one ks) h0 (by simp only [maxLen]; omega) (by omega) hbase _ rfl fun g' cap w' ow gr hat hnew => ?_
  · have hj : j < ks.length := by
      rw [← qvals_len]
      exact (List.getElem?_eq_some_iff.1 hu).1
    rw [add_plain, Nat.zero_add, hk j hj, ← qvals_get hj, hu]
  · refine hK' _ _ (hK g' cap w' ?_ gr hat hnew)
    unfold QOwn
    rw [List.length_append, qvals_app]
    exact ow
end Go.Proofs.YtppnkkpjfjhfkaaDoor.Longs

/- The document's window: plain facts. A size, and the numbers that were accepted. -/
set_option linter.unusedVariables false
namespace Go.Proofs.YtppnkkpjfjhfkaaDoor.WinD
open Go.RowKit Go.Proofs.YtppnkkpjfjhfkaaDoor.Longs

/-- The greatest one. -/
def top (l : List Nat) : Nat := l.foldl max 0
theorem top_snoc (l : List Nat) (n : Nat) : top (l ++ [n]) = max (top l) n := by simp [top, List.foldl_append]
theorem top_lt {l : List Nat} (h : ∀ x ∈ l, x < Q64) : top l < Q64 := by
  have : ∀ (l : List Nat) (a : Nat), a < Q64 → (∀ x ∈ l, x < Q64) → l.foldl max a < Q64 := by
    intro l
    induction l with
    | nil => intro a ha _; exact ha
    | cons b l ih =>
      intro a ha hl
      refine ih _ ?_ fun x hx => hl x (List.mem_cons_of_mem _ hx)
      have := hl b (List.mem_cons_self ..)
      rcases Nat.le_total a b with q | q
      · rw [Nat.max_eq_right q]; exact this
      · rw [Nat.max_eq_left q]; exact ha
  exact this l 0 (by decide) h
theorem top_take {l : List Nat} {k : Nat} (h : k < l.length) : top (l.take (k + 1)) = max (top (l.take k)) (l.getD k 0) := by
  rw [List.take_add_one, List.getElem?_eq_getElem h, List.getD_eq_getElem?_getD, List.getElem?_eq_getElem h]
  exact top_snoc _ _
theorem le_top {l : List Nat} {x : Nat} (h : x ∈ l) : x ≤ top l := by
  have : ∀ (l : List Nat) (a : Nat), a ≤ l.foldl max a ∧ ∀ x ∈ l, x ≤ l.foldl max a := by
    intro l
    induction l with
    | nil => intro a; exact ⟨Nat.le_refl _, fun x hx => by cases hx⟩
    | cons b l ih =>
      intro a
      have q := ih (max a b)
      refine ⟨Nat.le_trans (Nat.le_max_left _ _) q.1, fun x hx => ?_⟩
      rcases List.mem_cons.1 hx with rfl | hx
      · exact Nat.le_trans (Nat.le_max_right _ _) q.1
      · exact q.2 x hx
  exact (this l 0).2 x h
theorem top_mem {l : List Nat} (h : top l ≠ 0) : top l ∈ l := by
  have : ∀ (l : List Nat) (a : Nat), l.foldl max a = a ∨ l.foldl max a ∈ l := by
    intro l
    induction l with
    | nil => intro a; exact .inl rfl
    | cons b l ih =>
      intro a
      rcases ih (max a b) with q | q
      · rw [List.foldl_cons, q]
        rcases Nat.le_total a b with z | z
        · rw [Nat.max_eq_right z]; exact .inr (List.mem_cons_self ..)
        · rw [Nat.max_eq_left z]; exact .inl rfl
      · exact .inr (List.mem_cons_of_mem _ q)
  rcases this l 0 with q | q
  · exact absurd q h
  · exact q
/-- Is it left of the window? Was it there? -/
def left (S : Nat) (l : List Nat) (n : Nat) : Bool := decide (S ≤ top l) && decide (n ≤ top l - S)
def was (l : List Nat) (n : Nat) : Bool := l.any fun x => x == n
def old (S : Nat) (l : List Nat) (n : Nat) : Bool := left S l n || was l n
theorem was_iff {l : List Nat} {n : Nat} : was l n = true ↔ n ∈ l := by simp [was, List.any_eq_true]
theorem was_take {l : List Nat} {k n : Nat} (h : k < l.length) : was (l.take (k + 1)) n = (was (l.take k) n || (l.getD k 0 == n)) := by
  rw [List.take_add_one, List.getElem?_eq_getElem h, List.getD_eq_getElem?_getD, List.getElem?_eq_getElem h]
  simp only [Option.toList_some, Option.getD_some]
  rw [was, List.any_append]
  simp only [List.any_cons, List.any_nil, Bool.or_false]
  rfl
/-- What Check answers; what is there after Accept. -/
def chk (S : Nat) (wd : Bool) (l : List Nat) (n : Nat) : Nat := if wd = false ∧ 4294967295 < n then 1 else if n = 0 ∨ old S l n = true then 120 else 0
def acc (S : Nat) (wd : Bool) (l : List Nat) (n : Nat) : List Nat := if chk S wd l n = 0 then l ++ [n] else l
theorem acc_lt {S n : Nat} {wd : Bool} {l : List Nat} (h : ∀ x ∈ l, x < Q64) (hn : n < Q64) : ∀ x ∈ acc S wd l n, x < Q64 := by
  intro x hx
  unfold acc at hx
  split at hx
  · rcases List.mem_append.1 hx with q | q
    · exact h x q
    · simp only [List.mem_singleton] at q
      rw [q]; exact hn
  · exact h x hx
theorem acc_len (S : Nat) (wd : Bool) (l : List Nat) (n : Nat) : (acc S wd l n).length ≤ l.length + 1 := by
  unfold acc
  split
  · simp
  · omega
/-- What the high half is, as an int: t the top. -/
def hi (S t low : Nat) : Int :=
  if (S : Int) - 1 ≤ ((t % 4294967296 : Nat) : Int) then (if (low : Int) < ((t % 4294967296 : Nat) : Int) - S + 1 then ((t / 4294967296 : Nat) : Int) + 1 else ((t / 4294967296 : Nat) : Int))
  else if 4294967296 + ((t % 4294967296 : Nat) : Int) - S + 1 ≤ (low : Int) then ((t / 4294967296 : Nat) : Int) - 1 else ((t / 4294967296 : Nat) : Int)
/-- What Infer answers: the number and the errno. -/
def inf (S : Nat) (wd : Bool) (l : List Nat) (low : Int) : Nat × Nat :=
  if low < 0 ∨ 4294967295 < low then (0, 1) else if wd = false then (low.toNat, 0)
  else if hi S (top l) low.toNat < 0 ∨ 4294967295 < hi S (top l) low.toNat then (0, 120) else (4294967296 * (hi S (top l) low.toNat).toNat + low.toNat, 0)
end Go.Proofs.YtppnkkpjfjhfkaaDoor.WinD

