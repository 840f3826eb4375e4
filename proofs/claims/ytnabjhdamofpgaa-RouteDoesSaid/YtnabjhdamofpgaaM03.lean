/- Slices of rows; a row cloned. -/
import Derived.Test.YtnabjhdamofpgaaSteps
import Derived.Test.YtnabjhdamofpgaaM01
import Derived.Test.YtnabjhdamofpgaaEqR
import Derived.WalkSpells
import Derived.Lib.SliceRun
import Derived.Lib.QuietBelow
import Derived.BigQuiet
import Derived.Laws.Tables
import Derived.MapKept
import Derived.WideKeyRuns
set_option linter.unusedVariables false
namespace Go.Proofs.Ytnabjhdamofpgaa.Cut
open Go.RowKit Go.Proofs.Ytnabjhdamofpgaa.Sums Go.Proofs.Ytnabjhdamofpgaa.Mem Go.Proofs.Ytnabjhdamofpgaa.Blk Go.Proofs.Ytnabjhdamofpgaa.Steps

theorem byte_elem (w : World) : (sizeOf (Try.prog.elem 84)).run Try.prog w = .ok 1 w := by kernel_rfl

theorem cut_lh (b p n c l h : Nat) (w : World) (h1 : l ≤ h) (h2 : h ≤ c) (h3 : l < c) :
    (Instr.sliceAt 84 (.slice (some ⟨b, p, none⟩) n c) (some (.int .i64 (l : Int))) (some (.int .i64 (h : Int))) none).run Try.prog w = .ok (.slice (some ⟨b, p + l, none⟩) (h - l) (c - l)) w := by
  have e := run_slice_lh (P := Try.prog) (w := w) (t := 84) (a := some ⟨b, p, none⟩) (len := n) (cap := c) (ht := (by kernel_rfl)) .i64 .i64 (l : Int) (h : Int) (by omega) (by omega) (by omega)
  have ne : ¬ c = l := by omega
  rw [run_sliceAt_slice (P := Try.prog) (h := (by kernel_rfl)), e, byte_elem]
  simp only [Result.andThen_ok, sliced, Int.toNat_natCast, if_neg ne, Option.map_some, Nat.mul_one, add_plain]

theorem cut_l (b p n c l : Nat) (w : World) (h1 : l ≤ n) (h2 : n ≤ c) (h3 : l < c) :
    (Instr.sliceAt 84 (.slice (some ⟨b, p, none⟩) n c) (some (.int .i64 (l : Int))) none none).run Try.prog w = .ok (.slice (some ⟨b, p + l, none⟩) (n - l) (c - l)) w := by
  have e := run_slice_l (P := Try.prog) (w := w) (t := 84) (a := some ⟨b, p, none⟩) (len := n) (cap := c) (ht := (by kernel_rfl)) .i64 (l : Int) (by omega) (by omega)
  have ne : ¬ c = l := by omega
  rw [run_sliceAt_slice (P := Try.prog) (h := (by kernel_rfl)), e, byte_elem]
  simp only [Result.andThen_ok, sliced, Int.toNat_natCast, if_neg ne, Option.map_some, Nat.mul_one, add_plain]

/-- Where a slice from a place on begins. -/
def adr (b p c lo : Nat) : Addr := if c = lo then ⟨b, p, none⟩ else ⟨b, p + lo, none⟩
theorem cutA_lh (b p n c l h : Nat) (w : World) (h1 : l ≤ h) (h2 : h ≤ c) :
    (Instr.sliceAt 84 (.slice (some ⟨b, p, none⟩) n c) (some (.int .i64 (l : Int))) (some (.int .i64 (h : Int))) none).run Try.prog w = .ok (.slice (some (adr b p c l)) (h - l) (c - l)) w := by
  have e := run_slice_lh (P := Try.prog) (w := w) (t := 84) (a := some ⟨b, p, none⟩) (len := n) (cap := c) (ht := (by kernel_rfl)) .i64 .i64 (l : Int) (h : Int) (by omega) (by omega) (by omega)
  rw [run_sliceAt_slice (P := Try.prog) (h := (by kernel_rfl)), e, byte_elem]
  unfold adr
  by_cases ne : c = l
  · simp only [Result.andThen_ok, sliced, Int.toNat_natCast, if_pos ne]
  · simp only [Result.andThen_ok, sliced, Int.toNat_natCast, if_neg ne, Option.map_some, Nat.mul_one, add_plain]
theorem cutA_l (b p n c l : Nat) (w : World) (h1 : l ≤ n) (h2 : n ≤ c) :
    (Instr.sliceAt 84 (.slice (some ⟨b, p, none⟩) n c) (some (.int .i64 (l : Int))) none none).run Try.prog w = .ok (.slice (some (adr b p c l)) (n - l) (c - l)) w := by
  have e := run_slice_l (P := Try.prog) (w := w) (t := 84) (a := some ⟨b, p, none⟩) (len := n) (cap := c) (ht := (by kernel_rfl)) .i64 (l : Int) (by omega) (by omega)
  rw [run_sliceAt_slice (P := Try.prog) (h := (by kernel_rfl)), e, byte_elem]
  unfold adr
  by_cases ne : c = l
  · simp only [Result.andThen_ok, sliced, Int.toNat_natCast, if_pos ne]
  · simp only [Result.andThen_ok, sliced, Int.toNat_natCast, if_neg ne, Option.map_some, Nat.mul_one, add_plain]
theorem cutA_holds {w : World} {B b p n c lo hi : Nat} {l : List Int} (h : Holds w B (some ⟨b, p, none⟩) n c l) (h1 : lo ≤ hi) (h2 : hi ≤ n) : Holds w B (some (adr b p c lo)) (hi - lo) (c - lo) ((l.drop lo).take (hi - lo)) := by
  have hnc := h.2.1
  by_cases hz : hi = lo
  · subst hz
    have hcm := h.2.2.1
    rw [Nat.sub_self, List.take_zero]
    exact ⟨rfl, Nat.zero_le _, by omega, fun _ h => (by cases h), fun h => absurd h (by omega)⟩
  · obtain ⟨b', o', e, hh⟩ := h.from_ (k := lo) (by omega)
    injection e with e
    injection e with e1 e2
    subst e1 e2
    have ne : ¬ c = lo := by omega
    unfold adr
    rw [if_neg ne]
    exact hh.upto (by omega)
theorem cutA_rest {w : World} {B b p n c lo : Nat} {l : List Int} (h : Holds w B (some ⟨b, p, none⟩) n c l) (h1 : lo ≤ n) : Holds w B (some (adr b p c lo)) (n - lo) (c - lo) (l.drop lo) := by
  have := cutA_holds h h1 (Nat.le_refl n)
  rwa [List.take_of_length_le (by rw [List.length_drop, h.1]; exact Nat.le_refl _)] at this

end Go.Proofs.Ytnabjhdamofpgaa.Cut

/- Results of two, rows in blocks that are known whole. No function is named. -/
set_option linter.unusedVariables false
namespace Go.Proofs.Ytnabjhdamofpgaa.Com
open Go.RowKit Go.Sort Go.Proofs.Ytnabjhdamofpgaa.Sums Go.Proofs.Ytnabjhdamofpgaa.Mem Go.Proofs.Ytnabjhdamofpgaa.Blk Go.Proofs.Ytnabjhdamofpgaa.Steps

def aggB : TypeDesc → Bool
  | .struct _ => true
  | .array _ _ => true
  | _ => false
theorem results_pair {fn : Func} {p q : Tmp} {ty : TypeId} (h : fn.results = #[.cell p ty, .tmp q]) (tmps : Array Value) (w : World) (g : Nat) (t : TypeId) (cs : Array Value) (fr : Nat × Nat) (d : TypeDesc) (v : Value)
    (hp : tmps.getD p undef = .pointer (some ⟨g, 0, none⟩)) (hq : tmps.getD q undef = v) (hg : w.heap[g]? = some (.cells cs t fr))
    (hu : Try.prog.underlying ty = some d) (hd : aggB d = true) (hi : (Try.prog.info? ty).map (·.size) = some cs.size) :
    (results fn tmps).run Try.prog w = .ok (.tuple #[.agg cs, v]) w := by
  have hp' : tmps[p]?.getD undef = .pointer (some ⟨g, 0, none⟩) := by simpa using hp
  have hq' : tmps[q]?.getD undef = v := by simpa using hq
  have e := run_loadVar_row (P := Try.prog) w g t ty cs fr d hg hu (by cases d <;> simp_all [aggB]) hi
  simp [results, h, hp', hq', asAddr, e]
theorem setRow_bel {w W : World} {g B : Nat} (h : Below B w W) (hg : B ≤ g) (cs : Array Value) : Below B w (W.setRow g cs) :=
  ⟨h.os, h.tape, h.output, by simpa [World.setRow] using h.size, fun k hk => (setRow_other W g k cs (by omega)).trans (h.block k hk)⟩
theorem grown_row (w : World) (g : Nat) (cs : Array Value) : w.grownBy (w.setRow g cs) (some g) := ⟨rfl, rfl, rfl, by simp [World.setRow], fun k _ hk => setRow_other w g k cs (fun e => hk (by rw [e]))⟩
theorem owns_ne {w : World} {base n k : Nat} {v : Value} {l : List Int} (h : Owns w base v n l) (hk : k < base) : v.ownBlock = none ∨ v.ownBlock ≠ some k := by
  refine .inr fun q => ?_
  have := (h.lt k q).1
  omega
theorem own_other {w : World} {base n q : Nat} {v : Value} {l : List Int} {t : TypeId} {cs : Array Value} (h : Owns w base v n l) (hq : Blk w q t cs) (ht : t ≠ 5) : v.ownBlock ≠ some q := by
  rcases h.2.2 with ⟨rfl, _⟩ | ⟨g, cap, cur, fz, rfl, _, hg, _⟩
  · simp [Value.ownBlock]
  · intro e
    have : g = q := by simpa [Value.ownBlock] using e
    subst this
    unfold Blk at hq
    rw [hg] at hq
    injection hq with e
    injection e with _ e _
    exact ht e.symm
theorem blk_setRow {w : World} {g k : Nat} {t : TypeId} {cs ds : Array Value} (h : Blk w k t cs) (hk : k ≠ g) : Blk (w.setRow g ds) k t cs := (setRow_other w g k ds hk).trans h
theorem owns_far {w : World} {base n k : Nat} {v : Value} {l : List Int} (h : Owns w base v n l) (hk : k < base) : some k ≠ v.ownBlock := fun q => by
  have := (h.lt k q.symm).1
  omega
theorem owns_made (w : World) (n base : Nat) (hb : base ≤ w.heap.size) (hn : n ≤ 1048576) :
    Owns (w.alloc (.cells (madeCells #[.int .u8 0] n) 5)) base (.slice (some ⟨w.heap.size, 0, none⟩) 0 n) 0 [] :=
  ⟨rfl, fun _ h => (by cases h), .inr ⟨w.heap.size, n, madeCells #[.int .u8 0] n, (0, 0), rfl, hb, heap_alloc_new w _, .inl rfl, Nat.zero_le _, by simp only [maxLen]; omega, by simp [madeCells], rfl⟩⟩
theorem load_row {w : World} {g : Nat} {ty : TypeId} {cs : Array Value} {d : TypeDesc} (h : Blk w g ty cs) (hu : Try.prog.underlying ty = some d) (hd : aggB d = true) (hi : (Try.prog.info? ty).map (·.size) = some cs.size) : (loadVar ty ⟨g, 0, none⟩).run Try.prog w = .ok (.agg cs) w :=
  run_loadVar_row (P := Try.prog) w g ty ty cs (0, 0) d h hu (by cases d <;> simp_all [aggB]) hi
end Go.Proofs.Ytnabjhdamofpgaa.Com

/- Steps for drawn regions 'awake() && ..'. No function is named. -/
set_option linter.unusedVariables false
namespace Go.Proofs.Ytnabjhdamofpgaa.Draw
open Go.RowKit Go.Proofs.Ytnabjhdamofpgaa.Mem Go.Proofs.Ytnabjhdamofpgaa.Blk Go.Proofs.Ytnabjhdamofpgaa.Free Go.Proofs.Ytnabjhdamofpgaa.Steps Go.Proofs.Ytnabjhdamofpgaa.Sums

theorem st_pick {o : Oper} {a : Act} {w : World} {K : Act → World → Prop} {Q : Exit → Act → World → Prop} (c x y : Operand) (ho : o.op = .pick c x y) (v : Value) (hc : a.eval c = .bool true) (hx : a.eval x = v) (hK : K (a.put o.dst v) w) : Step Try.prog o a w K Q :=
  wp_value v (by simp [execOp, ho, hc, hx, asBool]) hK
theorem st_not {o : Oper} {a : Act} {w : World} {K : Act → World → Prop} {Q : Exit → Act → World → Prop} {t : TypeId} (x : Operand) (ho : o.op = .unOp .not t x) (b : Bool) (hx : a.eval x = .bool b) (hK : K (a.put o.dst (.bool (!b))) w) : Step Try.prog o a w K Q :=
  wp_value (.bool (!b)) (by simp [execOp, ho, hx, Op.unary]) hK
theorem b_eqs (s : ByteArray) (x y : Operand) (w : World) : (do eqGuard .eql 9 x y (.string s) (.string s); binOp .eql 9 (.string s) (.string s) : Sem Value).run Try.prog w = .ok (.bool true) w := by
  simp [go_sem, eqGuard]
theorem b_eqb (a : Bool) (x y : Operand) (w : World) : (do eqGuard .eql 4 x y (.bool a) (.bool a); binOp .eql 4 (.bool a) (.bool a) : Sem Value).run Try.prog w = .ok (.bool true) w := by
  simp [go_sem, eqGuard]
theorem b_eqe (a : Int) (x y : Operand) (w : World) : (do eqGuard .eql 36 x y (.int .i64 a) (.int .i64 a); binOp .eql 36 (.int .i64 a) (.int .i64 a) : Sem Value).run Try.prog w = .ok (.bool true) w := by
  simp [go_sem, eqGuard]
theorem b_eqi (a : Int) (x y : Operand) (w : World) : (do eqGuard .eql 3 x y (.int .i64 a) (.int .i64 a); binOp .eql 3 (.int .i64 a) (.int .i64 a) : Sem Value).run Try.prog w = .ok (.bool true) w := by
  simp [go_sem, eqGuard]
/-- A struct compared with itself. -/
theorem b_agg (t : TypeId) (cs : Array Value) (hg : Try.prog.eqGuardType Try.prog.depth t = false) (r : Bool) (he : ∀ w, (Op.equalIn 10000 t (.agg cs) (.agg cs)).run Try.prog w = .ok r w) (hr : r = true) (x y : Operand) (w : World) :
    (do eqGuard .eql t x y (.agg cs) (.agg cs); binOp .eql t (.agg cs) (.agg cs) : Sem Value).run Try.prog w = .ok (.bool true) w := by
  have h1 : (eqGuard .eql t x y (.agg cs) (.agg cs)).run Try.prog w = .ok () w := run_eqGuard_agg w _ _ _ _ _ _ hg
  rw [Sem.run_bind, h1, Result.andThen_ok, run_eql_struct, he w, hr]
  rfl
theorem list1 {f : Operand → Value} {x : Operand} {u : Value} (h1 : f x = u) : [x].map f = [u] := by simp [h1]
theorem list2 {f : Operand → Value} {x y : Operand} {u v : Value} (h1 : f x = u) (h2 : f y = v) : [x, y].map f = [u, v] := by simp [h1, h2]
theorem below_1 {w w' : World} (h : Below w.drew.heap.size w.drew w') : Below w.heap.size w w' := (below_drewN (Below.refl w.heap.size w) 1).trans h
/-- A literal of bytes lies there. -/
theorem lit_holds (w : World) (l : List Int) (cs : Array Value) (fz : Nat × Nat) (n g : Nat) (hc : cs = (l.map fun z => Value.int .u8 z).toArray) (hb : Bytes l) (hn : l.length = n) (hg : w.heap.size = g) (hm : n ≤ 1048576) : Holds (w.alloc (.cells cs 5 fz)) (g + 1) (some ⟨g, 0, none⟩) n n l := by
  subst hc hn hg
  refine ⟨rfl, Nat.le_refl _, by simp only [maxLen]; omega, hb, fun _ => ⟨w.heap.size, 0, rfl, by omega, fun j z hz => ?_⟩⟩
  rw [Nat.zero_add, cell_of_row _ w.heap.size j _ 5 fz (heap_alloc_new w _)]
  simp [hz]
end Go.Proofs.Ytnabjhdamofpgaa.Draw

/- Parts of a struct that lies in a block: stored by themselves. No function is named. -/
set_option linter.unusedVariables false
namespace Go.Proofs.Ytnabjhdamofpgaa.Store
open Go.RowKit Go.Proofs.Ytnabjhdamofpgaa.Mem Go.Proofs.Ytnabjhdamofpgaa.Blk Go.Proofs.Ytnabjhdamofpgaa.Free

theorem setCell_row {w : World} {g : Nat} {t : TypeId} {cs : Array Value} (h : Blk w g t cs) (p : Nat) (u : Value) : w.setCell ⟨g, p, none⟩ u = w.setRow g (cs.setIfInBounds p u) := by
  have hlt : g < w.heap.size := (Array.getElem?_eq_some_iff.1 h).1
  have hv : w.heap[g] = .cells cs t (0, 0) := (Array.getElem?_eq_some_iff.1 h).2
  unfold World.setCell World.setRow
  congr 1
  apply Array.ext (by simp)
  intro i h1 h2
  rw [Array.getElem_modify, Array.getElem_modify]
  by_cases e : g = i
  · subst e
    simp [hv]
  · simp [e]
theorem setRow_row {w : World} {g : Nat} {t : TypeId} {cs : Array Value} (h : Blk w g t cs) (a b : Array Value) : (w.setRow g a).setRow g b = w.setRow g b := by
  have hlt : g < w.heap.size := (Array.getElem?_eq_some_iff.1 h).1
  have hv : w.heap[g] = .cells cs t (0, 0) := (Array.getElem?_eq_some_iff.1 h).2
  unfold World.setRow
  congr 1
  apply Array.ext (by simp)
  intro i h1 h2
  simp only [Array.getElem_modify]
  by_cases e : g = i
  · subst e
    simp [hv]
  · simp [e]
theorem run_store_one {w : World} {g p : Nat} {t ty : TypeId} {cs : Array Value} {u : Value} (h : Blk w g t cs) (hp : p < cs.size) (hi : (Try.prog.info? ty).map (·.size) = some 1) (h1 : u.oneCell' = true) (new : Array Value) (hn : cs.setIfInBounds p u = new) (hu : u.cells = #[u]) :
    (storeVar ty ⟨g, p, none⟩ u).run Try.prog w = .ok () (w.setRow g new) := by
  subst hn
  obtain ⟨i, hq, hs⟩ : ∃ i, Try.prog.info? ty = some i ∧ i.size = 1 := by
    cases hq : Try.prog.info? ty with
    | none => simp [hq] at hi
    | some i => exact ⟨i, rfl, by simpa [hq] using hi⟩
  have hz : (sizeOf ty).run Try.prog w = .ok 1 w := by simp [sizeOf, typeInfo, hq, hs]
  have hc : w.cell? ⟨g, p, none⟩ = some cs[p] := (h.cell p).trans (Array.getElem?_eq_getElem hp)
  have hf := h.frozen p
  rw [← setCell_row h]
  simp [storeVar, hu, storeCells, Addr.add, hz, Result.andThen]
  rw [run_store Try.prog w _ _ _ h1]
  simp [hc, hf]
theorem run_store_two {w : World} {g p : Nat} {t ty : TypeId} {cs : Array Value} {u v : Value} (h : Blk w g t cs) (hp : p + 1 < cs.size) (hi : (Try.prog.info? ty).map (·.size) = some 2) (h1 : u.oneCell' = true) (h2 : v.oneCell' = true) (new : Array Value) (hn : (cs.setIfInBounds p u).setIfInBounds (p + 1) v = new) :
    (storeVar ty ⟨g, p, none⟩ (.agg #[u, v])).run Try.prog w = .ok () (w.setRow g new) := by
  subst hn
  obtain ⟨i, hq, hs⟩ : ∃ i, Try.prog.info? ty = some i ∧ i.size = 2 := by
    cases hq : Try.prog.info? ty with
    | none => simp [hq] at hi
    | some i => exact ⟨i, rfl, by simpa [hq] using hi⟩
  have hz : (sizeOf ty).run Try.prog w = .ok 2 w := by simp [sizeOf, typeInfo, hq, hs]
  have hc : w.cell? ⟨g, p, none⟩ = some cs[p] := (h.cell p).trans (Array.getElem?_eq_getElem (by omega))
  have hf := h.frozen p
  have k : Blk (w.setCell ⟨g, p, none⟩ u) g t (cs.setIfInBounds p u) := h.put p u
  have hc2 : (w.setCell ⟨g, p, none⟩ u).cell? ⟨g, p + 1, none⟩ = some ((cs.setIfInBounds p u)[p + 1]'(by simpa using hp)) := (k.cell (p + 1)).trans (Array.getElem?_eq_getElem (by simpa using hp))
  have hf2 := k.frozen (p + 1)
  have e : w.setRow g ((cs.setIfInBounds p u).setIfInBounds (p + 1) v) = (w.setCell ⟨g, p, none⟩ u).setCell ⟨g, p + 1, none⟩ v := by
    rw [setCell_row k, setCell_row h, setRow_row h]
  rw [e]
  have r1 : (store ⟨g, p, none⟩ u).run Try.prog w = .ok () (w.setCell ⟨g, p, none⟩ u) := by
    rw [run_store Try.prog w _ _ _ h1]
    simp [hc, hf]
  have r2 : (store ⟨g, p + 1, none⟩ v).run Try.prog (w.setCell ⟨g, p, none⟩ u) = .ok () ((w.setCell ⟨g, p, none⟩ u).setCell ⟨g, p + 1, none⟩ v) := by
    rw [run_store Try.prog _ _ _ _ h2]
    simp [hc2, hf2]
  simp [storeVar, Value.cells, storeCells, Addr.add, hz, Result.andThen, r1, r2]
/-- To look at a list's first operation ahead of a law: what does not fit fails at once. -/
theorem at_store {ops : Array Oper} {rest : List Oper} {o : Oper} {a : Act} {w : World} {Q : Exit → Act → World → Prop} (ty : TypeId) (x y : Operand) (_ : o.op = .store ty x y) (h : wpList Try.prog ops Q (o :: rest) a w) : wpList Try.prog ops Q (o :: rest) a w := h
theorem at_load {ops : Array Oper} {rest : List Oper} {o : Oper} {a : Act} {w : World} {Q : Exit → Act → World → Prop} (ty : TypeId) (x : Operand) (_ : o.op = .load ty x) (h : wpList Try.prog ops Q (o :: rest) a w) : wpList Try.prog ops Q (o :: rest) a w := h
theorem wpList_store_one {ops : Array Oper} {rest : List Oper} {o : Oper} {a : Act} {w : World} {Q : Exit → Act → World → Prop} (hgd : o.guard = none) (ty : TypeId) (x y : Operand) (ho : o.op = .store ty x y)
    (g p : Nat) (u : Value) (hx : a.eval x = .pointer (some ⟨g, p, none⟩)) (hy : a.eval y = u) (t : TypeId) (cs : Array Value) (hg : Blk w g t cs) (hp : p < cs.size) (hi : (Try.prog.info? ty).map (·.size) = some 1) (h1 : u.oneCell' = true) (new : Array Value) (hn : cs.setIfInBounds p u = new) (hu : u.cells = #[u])
    (h : wpList Try.prog ops Q rest (a.put o.dst undef) (w.setRow g new)) : wpList Try.prog ops Q (o :: rest) a w :=
  wpList_plain hgd fun _ hK => by
    unfold Oper.wp execOp
    simp only [ho, hx, hy, Instr.storeAt, Instr.sureAddr, Sem.run_bind, Sem.run_pure, Result.andThen_ok, run_store_one hg hp hi h1 new hn hu]
    exact hK _ _ h
theorem wpList_store_two {ops : Array Oper} {rest : List Oper} {o : Oper} {a : Act} {w : World} {Q : Exit → Act → World → Prop} (hgd : o.guard = none) (ty : TypeId) (x y : Operand) (ho : o.op = .store ty x y)
    (g p : Nat) (u v : Value) (hx : a.eval x = .pointer (some ⟨g, p, none⟩)) (hy : a.eval y = .agg #[u, v]) (t : TypeId) (cs : Array Value) (hg : Blk w g t cs) (hp : p + 1 < cs.size) (hi : (Try.prog.info? ty).map (·.size) = some 2) (h1 : u.oneCell' = true) (h2 : v.oneCell' = true) (new : Array Value) (hn : (cs.setIfInBounds p u).setIfInBounds (p + 1) v = new)
    (h : wpList Try.prog ops Q rest (a.put o.dst undef) (w.setRow g new)) : wpList Try.prog ops Q (o :: rest) a w :=
  wpList_plain hgd fun _ hK => by
    unfold Oper.wp execOp
    simp only [ho, hx, hy, Instr.storeAt, Instr.sureAddr, Sem.run_bind, Sem.run_pure, Result.andThen_ok, run_store_two hg hp hi h1 h2 new hn]
    exact hK _ _ h
end Go.Proofs.Ytnabjhdamofpgaa.Store

/- A cell of a struct read in a walk. No function is named. -/
set_option linter.unusedVariables false
namespace Go.Proofs.Ytnabjhdamofpgaa.Store2
open Go.RowKit Go.Proofs.Ytnabjhdamofpgaa.Mem Go.Proofs.Ytnabjhdamofpgaa.Blk Go.Proofs.Ytnabjhdamofpgaa.Free Go.Proofs.Ytnabjhdamofpgaa.Steps
theorem wpList_load_cell {ops : Array Oper} {rest : List Oper} {o : Oper} {a : Act} {w : World} {Q : Exit → Act → World → Prop} (hw : Region.wanted o (yielded ops a.tmps) = true) (ty : TypeId) (x : Operand) (ho : o.op = .load ty x)
    (g p : Nat) (v : Value) (hx : a.eval x = .pointer (some ⟨g, p, none⟩)) (d : TypeDesc) (hd : Try.prog.underlying ty = some d) (hp : plainB d = true) (t : TypeId) (cs : Array Value) (hg : Blk w g t cs) (hc : cs[p]? = some v)
    (h : wpList Try.prog ops Q rest (a.put o.dst v) w) : wpList Try.prog ops Q (o :: rest) a w :=
  wpList_step fun K hK => by rw [if_pos hw]; exact (wp_load1 x ho _ hx hd hp v ((hg.cell p).trans hc) (hK _ _ h)).1
/-- A block written once more: the world is the one before, with the new cells. -/
theorem wpList_store_one_on {ops : Array Oper} {rest : List Oper} {o : Oper} {a : Act} {w : World} {Q : Exit → Act → World → Prop} (hgd : o.guard = none) (ty : TypeId) (x y : Operand) (ho : o.op = .store ty x y)
    (g p : Nat) (u : Value) (hx : a.eval x = .pointer (some ⟨g, p, none⟩)) (hy : a.eval y = u) (t : TypeId) (cs0 cs : Array Value) (h0 : Blk w g t cs0) (hp : p < cs.size) (hi : (Try.prog.info? ty).map (·.size) = some 1) (h1 : u.oneCell' = true) (new : Array Value) (hn : cs.setIfInBounds p u = new) (hu : u.cells = #[u])
    (h : wpList Try.prog ops Q rest (a.put o.dst undef) (w.setRow g new)) : wpList Try.prog ops Q (o :: rest) a (w.setRow g cs) :=
  Store.wpList_store_one hgd ty x y ho g p u hx hy t cs (setRow_heap _ _ _ _ _ _ h0) hp hi h1 new hn hu (by rw [Store.setRow_row h0]; exact h)
theorem wpList_store_two_on {ops : Array Oper} {rest : List Oper} {o : Oper} {a : Act} {w : World} {Q : Exit → Act → World → Prop} (hgd : o.guard = none) (ty : TypeId) (x y : Operand) (ho : o.op = .store ty x y)
    (g p : Nat) (u v : Value) (hx : a.eval x = .pointer (some ⟨g, p, none⟩)) (hy : a.eval y = .agg #[u, v]) (t : TypeId) (cs0 cs : Array Value) (h0 : Blk w g t cs0) (hp : p + 1 < cs.size) (hi : (Try.prog.info? ty).map (·.size) = some 2) (h1 : u.oneCell' = true) (h2 : v.oneCell' = true) (new : Array Value) (hn : (cs.setIfInBounds p u).setIfInBounds (p + 1) v = new)
    (h : wpList Try.prog ops Q rest (a.put o.dst undef) (w.setRow g new)) : wpList Try.prog ops Q (o :: rest) a (w.setRow g cs) :=
  Store.wpList_store_two hgd ty x y ho g p u v hx hy t cs (setRow_heap _ _ _ _ _ _ h0) hp hi h1 h2 new hn (by rw [Store.setRow_row h0]; exact h)
end Go.Proofs.Ytnabjhdamofpgaa.Store2

/- A map in memory whose keys are structs that can be compared: what it holds, looked up, stored into, cleared. No program is named. -/
set_option linter.unusedVariables false
namespace Go.Proofs.Ytnabjhdamofpgaa.MapK
open Go.RowKit Go.Proofs.Ytnabjhdamofpgaa.Mem

section
variable {P : Program} {κ β : Type} {kt : TypeId} {ek : κ → Value} {ev : β → Value}
/-- The entries of a map, as pairs. -/
def Pairs (ek : κ → Value) (ev : β → Value) (L : List MapEntry) (es : List (κ × β)) : Prop := L.map (fun e => (e.key, e.val)) = es.map (fun q => (ek q.1, ev q.2))
theorem Pairs.nil : Pairs ek ev [] [] := rfl
theorem Pairs.cons {e : MapEntry} {L : List MapEntry} {es : List (κ × β)} (h : Pairs ek ev (e :: L) es) : ∃ k v r, es = (k, v) :: r ∧ e.key = ek k ∧ e.val = ev v ∧ Pairs ek ev L r := by
  unfold Pairs at h
  match es, h with
  | (k, v) :: r, h =>
    simp only [List.map_cons, List.cons.injEq, Prod.mk.injEq] at h
    exact ⟨k, v, r, rfl, h.1.1, h.1.2, h.2⟩
/-- A map lies in a block. -/
def MapAt (ek : κ → Value) (ev : β → Value) (w : World) (g : Nat) (es : List (κ × β)) : Prop := ∃ entries clock, w.heap[g]? = some (.map entries clock) ∧ Pairs ek ev entries.toList es
theorem MapAt.lt {w : World} {g : Nat} {es : List (κ × β)} (h : MapAt ek ev w g es) : g < w.heap.size := by
  obtain ⟨_, _, h, _⟩ := h
  exact (Array.getElem?_eq_some_iff.1 h).1
theorem MapAt.below {w w' : World} {B g : Nat} {es : List (κ × β)} (h : MapAt ek ev w g es) (hb : Below B w w') (hg : g < B) : MapAt ek ev w' g es := by
  obtain ⟨a, c, h1, h2⟩ := h
  exact ⟨a, c, (hb.block g hg).trans h1, h2⟩
theorem MapAt.same {w w' : World} {g : Nat} {es : List (κ × β)} (h : MapAt ek ev w g es) (hb : w'.heap[g]? = w.heap[g]?) : MapAt ek ev w' g es := by
  obtain ⟨a, c, h1, h2⟩ := h
  exact ⟨a, c, hb.trans h1, h2⟩
variable {mt et : TypeId}
theorem gob {w : World} {g : Nat} {a : Array MapEntry} {c : Nat} (h : w.heap[g]? = some (.map a c)) : (getObj g).run P w = .ok (.map a c) w := by
  simp [getObj, Sem.run, h]
theorem sob {w : World} {g : Nat} {a : Array MapEntry} {c : Nat} (o : Obj) (h : w.heap[g]? = some (.map a c)) : (setObj g o).run P w = .ok () { w with heap := w.heap.setIfInBounds g o } := by
  simp [setObj, Sem.run, h]
/-- The world behind a store into a map. -/
def stored (w : World) (g : Nat) (o : Obj) : World := { w with heap := w.heap.setIfInBounds g o }
theorem stored_other (w : World) (g : Nat) (o : Obj) (k : Nat) (h : k ≠ g) : (stored w g o).heap[k]? = w.heap[k]? := by
  unfold stored
  rw [Array.getElem?_setIfInBounds_ne (Ne.symm h)]
theorem stored_bel {w W : World} {B g : Nat} (h : Below B w W) (hg : B ≤ g) (o : Obj) : Below B w (stored W g o) :=
  ⟨h.os, h.tape, h.output, by simpa [stored] using h.size, fun k hk => (stored_other W g o k (by omega)).trans (h.block k hk)⟩
theorem stored_here {w : World} {g : Nat} {o' : Obj} (h : w.heap[g]? = some o') (o : Obj) : (stored w g o).heap[g]? = some o := by
  have hlt : g < w.heap.size := (Array.getElem?_eq_some_iff.1 h).1
  unfold stored
  simp [hlt]
/-- 'clear(m)'. -/
theorem run_clear_map (hm : P.underlying mt = some (.map kt et)) {w : World} {g : Nat} {es : List (κ × β)} (h : MapAt ek ev w g es) :
    ∃ o, (∀ ty, (Builtin.clear_ #[mt] ty #[.map (some g)]).run P w = .ok (.tuple #[]) (stored w g o)) ∧ MapAt ek ev (stored w g o) g [] := by
  obtain ⟨a, c, h1, h2⟩ := h
  refine ⟨.map #[] c, fun ty => ?_, ⟨_, _, stored_here h1 _, Pairs.nil⟩⟩
  unfold Builtin.clear_
  simp [Sem.run_bind, run_underlying hm, gob h1]
  have := sob (P := P) (.map #[] c) h1
  simp [Result.andThen, this, stored]
/-- 'make(map[K]V)'. -/
theorem new_map (w : World) (c : Nat) : MapAt ek ev (w.alloc (.map #[] c)) w.heap.size [] := ⟨_, _, heap_alloc_new w _, Pairs.nil⟩
variable [DecidableEq κ]
/-- What is to be known of a key's type: such a key may be one, two are compared, and the same one has the same bits. -/
structure KeyLaw {κ : Type} [DecidableEq κ] (P : Program) (kt : TypeId) (ek : κ → Value) : Prop where
  wide : (match P.underlying kt with | some (.array _ _) | some (.struct _) => true | _ => false) = true
  check : ∀ k e w, (Instr.checkKey e 10000 kt (ek k)).run P w = .ok () w
  equal : ∀ a b w, (Op.equal kt (ek a) (ek b)).run P w = .ok (decide (a = b)) w
  bits : ∀ k, Instr.sameBits 10000 (ek k) (ek k) = true
/-- Where a key stands, and what it holds. -/
def at_ (k : κ) : List (κ × β) → Nat → Option (Nat × β)
  | [], _ => none
  | q :: r, i => if k = q.1 then some (i, q.2) else at_ k r (i + 1)
/-- What a key holds. -/
def get (k : κ) (es : List (κ × β)) : Option β := (at_ k es 0).map (·.2)
/-- .. and the map behind a store. -/
def put (k : κ) (v : β) (es : List (κ × β)) : List (κ × β) := match at_ k es 0 with | some (i, _) => es.modify i fun q => (k, v) | none => es ++ [(k, v)]
theorem at_mem {k : κ} : ∀ {es : List (κ × β)} {i j : Nat} {v : β}, at_ k es i = some (j, v) → (k, v) ∈ es ∧ i ≤ j ∧ es[j - i]? = some (k, v)
  | [], _, _, _, h => by cases h
  | q :: r, i, j, v, h => by
    unfold at_ at h
    by_cases e : k = q.1
    · rw [if_pos e] at h
      cases h
      subst e
      exact ⟨List.mem_cons_self, Nat.le_refl _, by simp⟩
    · rw [if_neg e] at h
      obtain ⟨h1, h2, h3⟩ := at_mem h
      refine ⟨List.mem_cons_of_mem _ h1, by omega, ?_⟩
      rw [show j - i = (j - (i + 1)) + 1 by omega, List.getElem?_cons_succ]
      exact h3
theorem get_mem {k : κ} {es : List (κ × β)} {v : β} (h : get k es = some v) : (k, v) ∈ es := by
  unfold get at h
  cases e : at_ k es 0 with
  | none => rw [e] at h; cases h
  | some q =>
    obtain ⟨j, u⟩ := q
    rw [e] at h
    cases h
    exact (at_mem e).1
/-- Whatever holds of all entries, and of the new one, holds of all behind a store. -/
theorem put_all {Q : κ → β → Prop} {k : κ} {v : β} {es : List (κ × β)} (h : ∀ q ∈ es, Q q.1 q.2) (hv : Q k v) : ∀ q ∈ put k v es, Q q.1 q.2 := by
  unfold put
  intro q hq
  split at hq
  · rename_i i u e
    obtain ⟨n, hn⟩ := List.mem_iff_getElem?.1 hq
    rw [List.getElem?_modify] at hn
    cases ht : es[n]? with
    | none => rw [ht] at hn; cases hn
    | some t =>
      rw [ht] at hn
      by_cases c : i = n
      · simp [c] at hn
        rw [← hn]
        exact hv
      · simp [c] at hn
        rw [← hn]
        exact h _ (List.mem_of_getElem? ht)
  · rcases List.mem_append.1 hq with k' | k'
    · exact h q k'
    · simp only [List.mem_singleton] at k'
      subst k'
      exact hv
theorem asking (L : KeyLaw P kt ek) (k : κ) (w : World) : ∀ (es : List (κ × β)) (l : List MapEntry) (i : Nat), Pairs ek ev l es → (Instr.findAsking kt (ek k) l i).run P w = .ok ((at_ k es i).map fun q => (q.1, ev q.2)) w
  | es, [], i, h => by
    have : es = [] := by
      unfold Pairs at h
      simpa using h.symm
    subst this
    rfl
  | es, e :: l, i, h => by
    obtain ⟨a, v, r, rfl, h1, h2, h3⟩ := h.cons
    have ih := asking L k w r l (i + 1) h3
    unfold Instr.findAsking at_
    simp only [Sem.run_bind, h1, L.equal, Result.andThen_ok]
    by_cases c : k = a
    · simp [c, h2]
    · simp [c, ih]
/-- 'v, ok := m[k]'. -/
theorem run_lookup (L : KeyLaw P kt ek) (hm : P.underlying mt = some (.map kt et)) {w : World} {g : Nat} {es : List (κ × β)} (h : MapAt ek ev w g es) (z : Value) (hz : (zeroValue et).run P w = .ok z w) (k : κ) :
    (Instr.lookup mt (.map (some g)) (ek k) true).run P w = .ok (.tuple #[match get k es with | some v => ev v | none => z, .bool (get k es).isSome]) w := by
  obtain ⟨a, c, h1, h2⟩ := h
  have f := (run_findKey_eq (w := w) L.wide (ek k) a.toList).trans (asking L k w es a.toList 0 h2)
  unfold Instr.lookup
  simp only [Sem.run_bind, run_underlying hm, Result.andThen_ok, gob h1, Sem.run_pure, L.check, f]
  unfold get
  cases at_ k es 0 with
  | none => simp [Result.andThen, hz]
  | some q => simp
/-- 'm[k] = v'. -/
theorem run_update (L : KeyLaw P kt ek) (hm : P.underlying mt = some (.map kt et)) {w : World} {g : Nat} {es : List (κ × β)} (h : MapAt ek ev w g es) (k : κ) (v : β) :
    ∃ o, (Instr.mapUpdate mt (.map (some g)) (ek k) (ev v)).run P w = .ok () (stored w g o) ∧ MapAt ek ev (stored w g o) g (put k v es) := by
  obtain ⟨a, c, h1, h2⟩ := h
  have f := (run_findKey_eq (w := w) L.wide (ek k) a.toList).trans (asking L k w es a.toList 0 h2)
  unfold put
  cases e : at_ k es 0 with
  | none =>
    rw [e] at f
    refine ⟨.map (a.push { key := ek k, val := ev v, born := c }) (c + 1), ?_, ?_⟩
    · unfold Instr.mapUpdate
      simp only [Sem.run_bind, run_underlying hm, Result.andThen_ok, gob h1, L.check, f, Option.map_none]
      exact sob _ h1
    · refine ⟨_, _, stored_here h1 _, ?_⟩
      unfold Pairs at h2 ⊢
      simp [h2]
  | some q =>
    obtain ⟨i, u⟩ := q
    rw [e] at f
    have hi := (at_mem e).2.2
    rw [Nat.sub_zero] at hi
    have hl : a.toList.length = es.length := by
      have := congrArg List.length h2
      simpa using this
    have hlt : i < a.size := by
      have := (List.getElem?_eq_some_iff.1 hi).1
      simp at hl
      omega
    have hk : (a[i]?.map (·.key)).getD (ek k) = ek k := by
      have hq : (a.toList.map fun e => (e.key, e.val))[i]? = (es.map fun q => (ek q.1, ev q.2))[i]? := by rw [h2]
      rw [List.getElem?_map, List.getElem?_map, hi, Array.getElem?_toList] at hq
      rw [Array.getElem?_eq_getElem hlt] at hq ⊢
      simp at hq
      simp [hq.1]
    have kt' : (Instr.keyThatStays (ek k) (ek k)).run P w = .ok (ek k) w := by
      unfold Instr.keyThatStays
      rw [if_pos (L.bits k)]
      rfl
    refine ⟨.map (a.modify i fun e => { e with key := ek k, val := ev v }) c, ?_, ?_⟩
    · unfold Instr.mapUpdate
      simp only [Sem.run_bind, run_underlying hm, Result.andThen_ok, gob h1, L.check, f, Option.map_some, hk, kt']
      exact sob _ h1
    · refine ⟨_, _, stored_here h1 _, ?_⟩
      unfold Pairs at h2 ⊢
      apply List.ext_getElem?
      intro n
      have hn : (a.toList.map fun e => (e.key, e.val))[n]? = (es.map fun q => (ek q.1, ev q.2))[n]? := by rw [h2]
      simp only [List.getElem?_map, Array.toList_modify, List.getElem?_modify] at hn ⊢
      by_cases c' : i = n
      · subst c'
        rw [hi, Array.getElem?_toList, Array.getElem?_eq_getElem hlt]
        simp
      · simp [c'] at hn ⊢
        exact hn
end
end Go.Proofs.Ytnabjhdamofpgaa.MapK

/- Steps for maps: looked up, stored into, cleared. No function is named. -/
set_option linter.unusedVariables false
namespace Go.Proofs.Ytnabjhdamofpgaa.MapS
open Go.RowKit Go.Proofs.Ytnabjhdamofpgaa.Mem Go.Proofs.Ytnabjhdamofpgaa.Blk Go.Proofs.Ytnabjhdamofpgaa.Free Go.Proofs.Ytnabjhdamofpgaa.Steps Go.Proofs.Ytnabjhdamofpgaa.MapK
section
variable {o : Oper} {a : Act} {w : World} {K : Act → World → Prop} {Q : Exit → Act → World → Prop}
theorem st_lookup (mt : TypeId) (x y : Operand) (ho : o.op = .lookup mt x y true) (vx vy v : Value) (hx : a.eval x = vx) (hy : a.eval y = vy) (hr : (Instr.lookup mt vx vy true).run Try.prog w = .ok v w) (hK : K (a.put o.dst v) w) : Step Try.prog o a w K Q :=
  wp_value v (by simp [execOp, ho, hx, hy, hr, Result.andThen]) hK
theorem st_update (mt : TypeId) (x y z : Operand) (ho : o.op = .mapUpdate mt x y z) (vx vy vz : Value) (hx : a.eval x = vx) (hy : a.eval y = vy) (hz : a.eval z = vz) (w' : World) (hr : (Instr.mapUpdate mt vx vy vz).run Try.prog w = .ok () w') (hK : K (a.put o.dst undef) w') : Step Try.prog o a w K Q := by
  constructor
  unfold Oper.wp execOp
  simp only [ho, hx, hy, hz, Sem.run_bind, hr, Result.andThen_ok]
  exact hK
theorem st_extract (x : Operand) (i : Nat) (ho : o.op = .extract x i) (vs : Array Value) (v : Value) (hx : a.eval x = .tuple vs) (hv : vs[i]? = some v) (hK : K (a.put o.dst v) w) : Step Try.prog o a w K Q :=
  wp_value v (by simp [execOp, ho, hx, Instr.extract, hv]) hK
theorem st_nil (x : Operand) (ho : o.op = .nilCheck x) (ad : Addr) (hx : a.eval x = .pointer (some ad)) (hK : K (a.put o.dst (.pointer (some ad))) w) : Step Try.prog o a w K Q :=
  wp_value _ (by simp [execOp, ho, hx]) hK
end
theorem wpList_clear {ops : Array Oper} {rest : List Oper} {o : Oper} {a : Act} {w : World} {Q : Exit → Act → World → Prop} (hw : Region.wanted o (yielded ops a.tmps) = true) (mt : TypeId) (x : Operand) (ho : o.op = .call { callee := .builtin .clear, args := #[x], argTypes := #[mt] }) (v : Value) (hx : a.eval x = v) (w' : World)
    (hr : ∀ ty, (Builtin.clear_ #[mt] ty #[v]).run Try.prog w = .ok (.tuple #[]) w') (h : wpList Try.prog ops Q rest (a.put o.dst (.tuple #[])) w') : wpList Try.prog ops Q (o :: rest) a w :=
  wpList_step fun K hK => by
    rw [if_pos hw]
    unfold Oper.wp execOp
    simp only [ho]
    simp [resolve, invoke, hx, builtin, hr, Result.andThen]
    exact hK _ _ h
/-- All blocks below S0 stay; the block S0, once it is there, stays or holds X. -/
structure OnlyNew (S0 : Nat) (t : TypeId) (X : Array Value) (w1 w2 : World) : Prop where
  os : w2.os = w1.os
  tape : w2.tape = w1.tape
  output : w2.output = w1.output
  size : w1.heap.size ≤ w2.heap.size
  block : ∀ k, k < S0 → w2.heap[k]? = w1.heap[k]?
  new : S0 < w1.heap.size → w2.heap[S0]? = w1.heap[S0]? ∨ w2.heap[S0]? = some (.cells X t (0, 0))
theorem OnlyNew.refl {S0 : Nat} {t : TypeId} {X : Array Value} (w : World) : OnlyNew S0 t X w w := ⟨rfl, rfl, rfl, Nat.le_refl _, fun _ _ => rfl, fun _ => .inl rfl⟩
theorem OnlyNew.trans {S0 : Nat} {t : TypeId} {X : Array Value} {w1 w2 w3 : World} (h : OnlyNew S0 t X w1 w2) (k : OnlyNew S0 t X w2 w3) : OnlyNew S0 t X w1 w3 :=
  ⟨k.os.trans h.os, k.tape.trans h.tape, k.output.trans h.output, Nat.le_trans h.size k.size, fun i hi => (k.block i hi).trans (h.block i hi), fun hs => by
    rcases k.new (Nat.lt_of_lt_of_le hs h.size) with q | q
    · exact (h.new hs).imp (fun z => q.trans z) (fun z => q.trans z)
    · exact .inr q⟩
theorem OnlyNew.below {S0 : Nat} {t : TypeId} {X : Array Value} {w1 w2 : World} (h : OnlyNew S0 t X w1 w2) : Below S0 w1 w2 := ⟨h.os, h.tape, h.output, h.size, h.block⟩
theorem OnlyNew.alloc {S0 : Nat} {t : TypeId} {X : Array Value} {w : World} (h : w.heap.size = S0) (o : Obj) : OnlyNew S0 t X w (w.alloc o) :=
  ⟨rfl, rfl, rfl, by simp, fun k hk => Below.heap_alloc w o k (by omega), fun hs => by omega⟩
theorem OnlyNew.row {S0 : Nat} {t : TypeId} {X old : Array Value} {w : World} (h : Blk w S0 t old) : OnlyNew S0 t X w (w.setRow S0 X) :=
  ⟨rfl, rfl, rfl, by simp [World.setRow], fun k hk => setRow_other w S0 k X (by omega), fun _ => .inr (setRow_heap _ _ _ _ _ _ h)⟩
/-- A block made in a drawn region. -/
theorem st_alloc {o : Oper} {a : Act} {w : World} {K : Act → World → Prop} {Q : Exit → Act → World → Prop} (ty : TypeId) (ho : o.op = .alloc ty) (Z : Array Value) (hr : ∀ w, (Instr.alloc ty true (.tuple #[])).run Try.prog w = .ok (.pointer (some ⟨w.heap.size, 0, none⟩)) (w.alloc (.cells Z ty)))
    (hK : K (a.put o.dst (.pointer (some ⟨w.heap.size, 0, none⟩))) (w.alloc (.cells Z ty))) : Step Try.prog o a w K Q := by
  have h : (execOp a.eval o).run Try.prog w = .ok (.value (.pointer (some ⟨w.heap.size, 0, none⟩))) (w.alloc (.cells Z ty)) := by
    simp [execOp, ho, hr w, Result.andThen]
  constructor
  unfold Oper.wp
  rw [h]
  exact hK
end Go.Proofs.Ytnabjhdamofpgaa.MapS

