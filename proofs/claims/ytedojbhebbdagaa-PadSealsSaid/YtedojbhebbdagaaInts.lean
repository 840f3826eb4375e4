/- Rows of ints and of bytes in blocks that are known whole, as lists of Nat; made of zeros, stored into, filled place by place. No function is named. -/
import Derived.Test.YtedojbhebbdagaaAppend
import Derived.Test.YtedojbhebbdagaaBlk
import Derived.Test.YtedojbhebbdagaaBits3
import Derived.Laws.MakeOwn
import Derived.OwnWalk
set_option linter.unusedVariables false
namespace Go.Proofs.Ytedojbhebbdagaa.Ints
open Go.RowKit Go.Proofs.Ytedojbhebbdagaa.Sums Go.Proofs.Ytedojbhebbdagaa.Mem Go.Proofs.Ytedojbhebbdagaa.Blk Go.Proofs.Ytedojbhebbdagaa.Bits3

def icells (l : List Nat) : Array Value := (l.map fun n : Nat => Value.int .i64 (n : Int)).toArray
def bcells (l : List Nat) : Array Value := (l.map fun n : Nat => Value.int .u8 (n : Int)).toArray
/-- A block of ints, of bytes. -/
def IRow (w : World) (g : Nat) (l : List Nat) : Prop := Blk w g 3 (icells l)
def BRow (w : World) (g : Nat) (l : List Nat) : Prop := Blk w g 5 (bcells l)
theorem icells_get (l : List Nat) (i : Nat) (h : i < l.length) : (icells l)[i]? = some (.int .i64 ((l.getD i 0 : Nat) : Int)) := by
  unfold icells
  rw [List.getElem?_toArray, List.getElem?_map, List.getD_eq_getElem?_getD, List.getElem?_eq_getElem h]
  rfl
theorem bcells_get (l : List Nat) (i : Nat) (h : i < l.length) : (bcells l)[i]? = some (.int .u8 ((l.getD i 0 : Nat) : Int)) := by
  unfold bcells
  rw [List.getElem?_toArray, List.getElem?_map, List.getD_eq_getElem?_getD, List.getElem?_eq_getElem h]
  rfl
theorem icells_set (l : List Nat) (i z : Nat) : (icells l).setIfInBounds i (.int .i64 (z : Int)) = icells (l.set i z) := by
  unfold icells
  rw [List.setIfInBounds_toArray, List.map_set]
theorem bcells_set (l : List Nat) (i z : Nat) : (bcells l).setIfInBounds i (.int .u8 (z : Int)) = bcells (l.set i z) := by
  unfold bcells
  rw [List.setIfInBounds_toArray, List.map_set]
section
variable {w w' : World} {g : Nat} {l : List Nat}
theorem IRow.cell (h : IRow w g l) (i : Nat) (hi : i < l.length) : w.cell? ⟨g, i, none⟩ = some (.int .i64 ((l.getD i 0 : Nat) : Int)) := (Blk.cell h i).trans (icells_get l i hi)
theorem BRow.cell (h : BRow w g l) (i : Nat) (hi : i < l.length) : w.cell? ⟨g, i, none⟩ = some (.int .u8 ((l.getD i 0 : Nat) : Int)) := (Blk.cell h i).trans (bcells_get l i hi)
theorem IRow.put (h : IRow w g l) (i z : Nat) : IRow (w.setCell ⟨g, i, none⟩ (.int .i64 (z : Int))) g (l.set i z) := by
  have := Blk.put h i (.int .i64 (z : Int))
  rw [icells_set] at this
  exact this
theorem BRow.put (h : BRow w g l) (i z : Nat) : BRow (w.setCell ⟨g, i, none⟩ (.int .u8 (z : Int))) g (l.set i z) := by
  have := Blk.put h i (.int .u8 (z : Int))
  rw [bcells_set] at this
  exact this
theorem IRow.lt (h : IRow w g l) : g < w.heap.size := Blk.lt h
theorem BRow.lt (h : BRow w g l) : g < w.heap.size := Blk.lt h
theorem IRow.below {B : Nat} (h : IRow w g l) (hb : Below B w w') (hg : g < B) : IRow w' g l := Blk.below h hb hg
theorem BRow.below {B : Nat} (h : BRow w g l) (hb : Below B w w') (hg : g < B) : BRow w' g l := Blk.below h hb hg
theorem IRow.up (h : IRow w g l) (hb : Below w.heap.size w w') : IRow w' g l := Blk.below h hb h.lt
theorem BRow.up (h : BRow w g l) (hb : Below w.heap.size w w') : BRow w' g l := Blk.below h hb h.lt
theorem IRow.alloc (h : IRow w g l) (o : Obj) : IRow (w.alloc o) g l := Blk.alloc h o
theorem BRow.alloc (h : BRow w g l) (o : Obj) : BRow (w.alloc o) g l := Blk.alloc h o
theorem IRow.far (h : IRow w g l) {p : Addr} (hp : g ≠ p.block) (u : Value) : IRow (w.setCell p u) g l := Blk.far h hp u
theorem BRow.far (h : BRow w g l) {p : Addr} (hp : g ≠ p.block) (u : Value) : BRow (w.setCell p u) g l := Blk.far h hp u
theorem IRow.free (h : IRow w g l) (i : Nat) : w.frozen? ⟨g, i, none⟩ = false := Blk.frozen h i
theorem BRow.free (h : BRow w g l) (i : Nat) : w.frozen? ⟨g, i, none⟩ = false := Blk.frozen h i
/-- A block of bytes is a row that the call owns. -/
theorem BRow.owns (h : BRow w g l) (hl : ∀ x ∈ l, x < 256) (hm : l.length ≤ 1048576) {base : Nat} (hg : base ≤ g) : Owns w base (.slice (some ⟨g, 0, none⟩) l.length l.length) l.length (ints l) := by
  refine ⟨by simp [ints], fun z hz => ints_in hl z hz, .inr ⟨g, l.length, bcells l, (0, 0), rfl, hg, h, .inl rfl, Nat.le_refl _, by simp only [maxLen]; omega, by simp [bcells], ?_⟩⟩
  rw [List.take_of_length_le (by simp [bcells])]
  simp only [bcells, ints, List.map_map]
  rfl
end

theorem int_info : (Try.prog.info? 3).map (fun i => (i.zero, i.size, i.bytes)) = some (some (.int .i64 0), 1, 8) := by kernel_rfl
theorem made_i (n : Nat) : madeCells #[.int .i64 0] n = icells (List.replicate n 0) := by
  apply Array.toList_inj.1
  simp only [madeCells, icells, List.map_replicate]
  apply List.ext_getElem
  · simp
  · intro i h1 h2
    simp [Nat.mod_one]
theorem made_b (n : Nat) : madeCells #[.int .u8 0] n = bcells (List.replicate n 0) := by
  apply Array.toList_inj.1
  simp only [madeCells, bcells, List.map_replicate]
  apply List.ext_getElem
  · simp
  · intro i h1 h2
    simp [Nat.mod_one]
theorem make_b (n : Nat) (hn : n ≤ 1048576) (w : World) :
    (Instr.makeSlice 22 (.int .i64 (n : Int)) (.int .i64 (n : Int))).run Try.prog w = .ok (.slice (some ⟨w.heap.size, 0, none⟩) n n) (w.alloc (.cells (bcells (List.replicate n 0)) 5)) := by
  obtain ⟨i, hi, hz, hsz, hby⟩ := info_parts byte_info
  have hr := run_make (P := Try.prog) w 22 5 i (.int .u8 0) Try.underlying22 hi hz .i64 .i64 (n : Int) (n : Int) (by omega) (by omega) (by rw [hby]; omega) (by omega)
  rw [Int.toNat_natCast, hsz, Nat.mul_one] at hr
  rw [← made_b]
  exact hr
theorem IRow.new (w : World) (l : List Nat) : IRow (w.alloc (.cells (icells l) 3)) w.heap.size l := Blk.new w _ _
theorem BRow.new (w : World) (l : List Nat) : BRow (w.alloc (.cells (bcells l) 5)) w.heap.size l := Blk.new w _ _

theorem cell_getD {w : World} {B b p n c : Nat} {l : List Int} (h : Holds w B (some ⟨b, p, none⟩) n c l) (i : Nat) (hi : i < n) : w.cell? ⟨b, p + i, none⟩ = some (.int .u8 (l.getD i 0)) := by
  obtain ⟨b', o', e, _, hc⟩ := h.2.2.2.2 (by omega)
  injection e with e
  injection e with e1 e2
  subst e1 e2
  have hz : l[i]? = some (l[i]'(by rw [h.1]; exact hi)) := List.getElem?_eq_getElem _
  rw [List.getD_eq_getElem?_getD, hz]
  exact hc i _ hz
theorem nats_len (l : List Int) : (nats l).length = l.length := by simp [nats]
theorem nats_getD {l : List Int} (h : Bytes l) (i : Nat) : l.getD i 0 = (((nats l).getD i 0 : Nat) : Int) := by
  have e := ints_nats (l := l) (fun z hz => h z hz)
  have := ints_getD (nats l) i
  rw [e] at this
  exact this

/-! ### Filled place by place -/
def fil (f : Nat → Nat) (n j : Nat) : List Nat := (List.range n).map fun i => if i < j then f i else 0
theorem fil_len (f : Nat → Nat) (n j : Nat) : (fil f n j).length = n := by simp [fil]
theorem fil_zero (f : Nat → Nat) (n : Nat) : fil f n 0 = List.replicate n 0 := by
  apply List.ext_getElem
  · simp [fil]
  · intro i h1 h2
    simp [fil]
theorem fil_full (f : Nat → Nat) (n : Nat) : fil f n n = (List.range n).map f := by
  apply List.ext_getElem
  · simp [fil]
  · intro i h1 h2
    simp [fil] at h1 ⊢
    intro h; omega
theorem fil_set (f : Nat → Nat) (n j : Nat) : (fil f n j).set j (f j) = fil f n (j + 1) := by
  apply List.ext_getElem
  · simp [fil]
  · intro i h1 h2
    rw [List.getElem_set]
    simp only [fil, List.getElem_map, List.getElem_range]
    by_cases q : j = i
    · subst q
      rw [if_pos rfl, if_pos (by omega)]
    · rw [if_neg q]
      by_cases r : i < j
      · rw [if_pos r, if_pos (by omega)]
      · rw [if_neg r, if_neg (by omega)]
end Go.Proofs.Ytedojbhebbdagaa.Ints
