/- The document's Add. -/
import Derived.Test.YtppnkkpjfjhfkaaDoorM14
import Derived.Test.YtppnkkpjfjhfkaaDoorM19
import Derived.Test.YtppnkkpjfjhfkaaDoorM43
import Derived.Laws.Tables
set_option linter.unusedVariables false
namespace Go.Proofs.YtppnkkpjfjhfkaaDoor.SadR10
open Go.RowKit Go.Proofs.YtppnkkpjfjhfkaaDoor.Sums Go.Proofs.YtppnkkpjfjhfkaaDoor.Mem Go.Proofs.YtppnkkpjfjhfkaaDoor.Blk Go.Proofs.YtppnkkpjfjhfkaaDoor.ArgT Go.Proofs.YtppnkkpjfjhfkaaDoor.Longs Go.Proofs.YtppnkkpjfjhfkaaDoor.WinR Go.Proofs.YtppnkkpjfjhfkaaDoor.Free Go.Proofs.YtppnkkpjfjhfkaaDoor.Steps Go.Proofs.YtppnkkpjfjhfkaaDoor.SadM Go.Proofs.YtppnkkpjfjhfkaaDoor.SadR2 Go.Proofs.YtppnkkpjfjhfkaaDoor.SadR3 Go.Proofs.YtppnkkpjfjhfkaaDoor.SadR7 Go.Proofs.YtppnkkpjfjhfkaaDoor.SadR8 Go.Proofs.YtppnkkpjfjhfkaaDoor.SadW Go.Proofs.YtppnkkpjfjhfkaaDoor.SadF Go.Proofs.YtppnkkpjfjhfkaaDoor.SadMay Go.Proofs.YtppnkkpjfjhfkaaDoor.RowN Go.Proofs.YtppnkkpjfjhfkaaDoor.RowA

theorem setCell_row {w : World} {g : Nat} {t : TypeId} {cs : Array Value} (h : Blk w g t cs) (p : Nat) (u : Value) : w.setCell ⟨g, p, none⟩ u = w.setRow g (cs.setIfInBounds p u) := by
  have hlt : g < w.heap.size := (Array.getElem?_eq_some_iff.1 h).1
  have hv : w.heap[g] = .cells cs t (0, 0) := (Array.getElem?_eq_some_iff.1 h).2
  unfold World.setCell World.setRow
  congr 1
  apply Array.ext (by simp)
  intro i h1 h2
  rw [Array.getElem_modify, Array.getElem_modify]
  by_cases e : g = i
  · subst e
    simp [hv]
  · simp [e]
theorem run_store_one {w : World} {g p : Nat} {t ty : TypeId} {cs : Array Value} {u : Value} (h : Blk w g t cs) (hp : p < cs.size) (hi : (Tryd.prog.info? ty).map (·.size) = some 1) (h1 : u.oneCell' = true) (new : Array Value) (hn : cs.setIfInBounds p u = new) (hu : u.cells = #[u]) :
    (storeVar ty ⟨g, p, none⟩ u).run Tryd.prog w = .ok () (w.setRow g new) := by
  subst hn
  obtain ⟨i, hq, hs⟩ : ∃ i, Tryd.prog.info? ty = some i ∧ i.size = 1 := by
    cases hq : Tryd.prog.info? ty with
    | none => simp [hq] at hi
    | some i => exact ⟨i, rfl, by simpa [hq] using hi⟩
  have hz : (sizeOf ty).run Tryd.prog w = .ok 1 w := by simp [sizeOf, typeInfo, hq, hs]
  have hc : w.cell? ⟨g, p, none⟩ = some cs[p] := (h.cell p).trans (Array.getElem?_eq_getElem hp)
  have hf := h.frozen p
  rw [← setCell_row h]
  simp [storeVar, hu, storeCells, Addr.add, hz, Result.andThen]
  rw [run_store Tryd.prog w _ _ _ h1]
  simp [hc, hf]
theorem st_box {o : Oper} {a : Act} {w : World} {K : Act → World → Prop} {Q : Exit → Act → World → Prop} (ty : TypeId) (x : Operand) (ho : o.op = .box ty x) (v : Value) (Z : Array Value) (hx : a.eval x = v)
    (hr : ∀ w, (Instr.box ty v).run Tryd.prog w = .ok (.pointer (some ⟨w.heap.size, 0, none⟩)) (w.alloc (.cells Z ty)))
    (hK : K (a.put o.dst (.pointer (some ⟨w.heap.size, 0, none⟩))) (w.alloc (.cells Z ty))) : Step Tryd.prog o a w K Q := by
  have h : (execOp a.eval o).run Tryd.prog w = .ok (.value (.pointer (some ⟨w.heap.size, 0, none⟩))) (w.alloc (.cells Z ty)) := by
    simp [execOp, ho, hx, hr w, Result.andThen]
  constructor
  unfold Oper.wp
  rw [h]
  exact hK
theorem st_slice_one {o : Oper} {a : Act} {w : World} {K : Act → World → Prop} {Q : Exit → Act → World → Prop} (tS tE : TypeId) (x : Operand) (ho : o.op = .buildSlice tS 1 #[(0, x)]) (v : Value) (Z : Array Value) (hx : a.eval x = v)
    (hr : ∀ w, (Instr.buildSlice tS 1 #[(0, v)]).run Tryd.prog w = .ok (.slice (some ⟨w.heap.size, 0, none⟩) 1 1) (w.alloc (.cells Z tE)))
    (hK : K (a.put o.dst (.slice (some ⟨w.heap.size, 0, none⟩) 1 1)) (w.alloc (.cells Z tE))) : Step Tryd.prog o a w K Q := by
  constructor
  have h : (execOp a.eval o).run Tryd.prog w = .ok (.value (.slice (some ⟨w.heap.size, 0, none⟩) 1 1)) (w.alloc (.cells Z tE)) := by
    simp [execOp, ho, hx, hr w, Result.andThen]
  unfold Oper.wp
  rw [h]
  exact hK
theorem st_append_run {o : Oper} {a : Act} {w w1 : World} {K : Act → World → Prop} {Q : Exit → Act → World → Prop} (s x : Operand) (t : TypeId) (ho : o.op = .call { callee := .builtin .append, args := #[s, x], argTypes := #[t, t] }) (u v y : Value) (hs : a.eval s = u) (hx : a.eval x = v)
    (hr : ∀ ty, (Builtin.append_ #[t, t] ty #[u, v]).run Tryd.prog w = .ok y w1) (hK : K (a.put o.dst y) w1) : Step Tryd.prog o a w K Q :=
  ⟨Lib.wp_append_run w s x t t ho u v hs hx y w1 (hr o.type) hK⟩
theorem st_store_run {o : Oper} {a : Act} {w w1 : World} {K : Act → World → Prop} {Q : Exit → Act → World → Prop} (ty : TypeId) (x y : Operand) (ho : o.op = .store ty x y) (ad : Addr) (hx : a.eval x = .pointer (some ad)) (v : Value) (hy : a.eval y = v)
    (hr : (storeVar ty ad v).run Tryd.prog w = .ok () w1) (hK : K (a.put o.dst undef) w1) : Step Tryd.prog o a w K Q := by
  constructor
  unfold Oper.wp execOp
  simp only [ho, hx, hy, Instr.storeAt, Instr.sureAddr, Sem.run_bind, Sem.run_pure, Result.andThen_ok, hr]
  exact hK
theorem map2 {f : Operand → Value} {x y : Operand} {u v : Value} {i j : Nat} (h1 : f x = u) (h2 : f y = v) : [(i, x), (j, y)].map (fun q => (q.1, f q.2)) = [(i, u), (j, v)] := by simp [h1, h2]
theorem map3 {f : Operand → Value} {x y z : Operand} {u v t : Value} {i j k : Nat} (h1 : f x = u) (h2 : f y = v) (h3 : f z = t) : [(i, x), (j, y), (k, z)].map (fun q => (q.1, f q.2)) = [(i, u), (j, v), (k, t)] := by simp [h1, h2, h3]
/-- What may turn while the association is being added. -/
def Gr (A : Option Addr) (n : Nat) (fin : List Value) (w w' : World) : Prop := Keep (fun k => ¬ own A k) w w' ∧ ∀ A2 c2, RowX 69 1 w A2 (n + 1) c2 fin → RowX 69 1 w' A2 (n + 1) c2 fin
theorem Gr.refl {A : Option Addr} {n : Nat} {fin : List Value} (w : World) : Gr A n fin w w := ⟨Keep.refl _ _, fun _ _ h => h⟩
theorem Gr.trans {A : Option Addr} {n : Nat} {fin : List Value} {w w' w'' : World} (h : Gr A n fin w w') (k : Gr A n fin w' w'') : Gr A n fin w w'' := ⟨h.1.trans k.1, fun A2 c2 z => k.2 A2 c2 (h.2 A2 c2 z)⟩
theorem Gr.of {A : Option Addr} {n : Nat} {fin : List Value} {w w' : World} (h : Below w.heap.size w w') : Gr A n fin w w' := ⟨Keep.of h, fun _ _ z => z.below h⟩
theorem Gr.blk {A : Option Addr} {n : Nat} {fin : List Value} {w w' : World} {g : Nat} {t : TypeId} {cs : Array Value} (h : Gr A n fin w w') (k : Blk w g t cs) (hg : ¬ own A g) : Blk w' g t cs := (h.1.block g hg k.lt).trans k
theorem below_new (w : World) (o : Obj) : Below w.heap.size w (w.alloc o) := (Below.refl w.heap.size w).alloc (Nat.le_refl _) o
def newE (r : LifeR) (now : Int) : Ent := ⟨r, now, 0, 0, []⟩
def addS (now : Int) (r : LifeR) (es : List Ent) : Nat × List Ent := if mayL r = false ∨ now < 0 then (1, es) else match findI r.x0 r.x7 es with
  | some _ => (9, es)
  | none => if 32 ≤ es.length then (7, es) else (0, es ++ [newE r now])
/-- Where the associations lie now: where they lay, or in new blocks. -/
def NwA (w : World) (ls ls' : List Spot) : Prop := ∀ l' ∈ ls', l' ∈ ls ∨ (w.heap.size ≤ l'.g ∧ w.heap.size ≤ l'.gw ∧ ∀ k, l'.v.ownBlock = some k → w.heap.size ≤ k)
theorem NwA.refl (w : World) (ls : List Spot) : NwA w ls ls := fun _ h => .inl h
theorem owned (g n c : Nat) : (Value.slice (some ⟨g, 0, none⟩) n c).ownBlock = some g := rfl
/-- One more is put behind the others. -/
theorem SadAt.push {w w' : World} {base gs : Nat} {vl : Value} {ls : List Spot} {es : List Ent} (h : SadAt w base gs vl ls es) (g' n' c' : Nat) (e : Ent)
    (hb : Blk w' gs 29 #[.slice (some ⟨g', 0, none⟩) n' c']) (ho : POwn w' base (.slice (some ⟨g', 0, none⟩) n' c') (ls.map (·.g) ++ [w.heap.size + 1]))
    (hv : vl.ownBlock = some g' ∨ w.heap.size + 3 ≤ g') (hx : ∀ k, k < w.heap.size → k ≠ gs → some k ≠ vl.ownBlock → w'.heap[k]? = w.heap[k]?)
    (hE : Blk w' (w.heap.size + 1) 68 (ecells e w.heap.size)) (hW : Blk w' w.heap.size 89 (wcells e.life.x5.toNat e.life.x4 (.slice none 0 0))) (he : e.acc = [] ∧ 64 ≤ e.life.x5 ∧ e.life.x5 ≤ 1024 ∧ e.last < Q64) :
    SadAt w' base gs (.slice (some ⟨g', 0, none⟩) n' c') (ls ++ [⟨w.heap.size + 1, w.heap.size, .slice none 0 0⟩]) (es ++ [e]) := by
  obtain ⟨T, t0, t1, tl⟩ := h.tag
  have hB : base ≤ w.heap.size := Nat.le_trans h.ge.1 (Nat.le_of_lt (Blk.lt h.blk))
  have hgs := Blk.lt h.blk
  have ne : ∀ k, T k ≠ (0, 0) → T k ≠ (1, 0) → k ≠ gs ∧ some k ≠ vl.ownBlock := fun k k0 k1 => ⟨fun z => k0 (by rw [z]; exact t0), fun z => k1 (t1 k z.symm)⟩
  refine ⟨hb, by rw [List.map_append]; exact ho, by simp [h.len], ?_, ⟨fun k => if k = w.heap.size then (3, w.heap.size + 1) else if k = w.heap.size + 1 then (2, w.heap.size + 1) else if w.heap.size + 2 ≤ k then (1, 0) else T k, ?_, ?_, ?_⟩, ?_, h.ge.1, ?_⟩
  · intro j l d hl hd
    rw [List.getElem?_append] at hl hd
    by_cases q : j < ls.length
    · rw [if_pos q] at hl
      rw [if_pos (by rw [← h.len]; exact q)] at hd
      have mm := List.mem_of_getElem? hl
      obtain ⟨b2, b3, b4⟩ := tl l mm
      obtain ⟨l1, l2, l3⟩ := SadAt.lts h mm
      obtain ⟨c1, c2, c3⟩ := h.ent j l d hl hd
      have n1 := ne l.g (by rw [b2]; simp) (by rw [b2]; simp)
      have n2 := ne l.gw (by rw [b3]; simp) (by rw [b3]; simp)
      exact ⟨(hx l.g l1 n1.1 n1.2).trans c1, win_same c2 (hx l.gw l2 n2.1 n2.2) fun k hk => (by
        have n3 := ne k (by rw [b4 k hk]; simp) (by rw [b4 k hk]; simp)
        exact hx k (l3 k hk) n3.1 n3.2), c3⟩
    · rw [if_neg q] at hl
      rw [if_neg (by rw [← h.len]; exact q)] at hd
      have q1 : j - ls.length = 0 := by
        have := (List.getElem?_eq_some_iff.1 hl).1
        simp at this
        omega
      rw [q1] at hl
      rw [← h.len, q1] at hd
      obtain rfl := Option.some.inj hl
      obtain rfl := Option.some.inj hd
      exact ⟨hE, ⟨hW, by rw [he.1]; exact QOwn.nil _ _, (by simp [Value.ownBlock]), (by rw [he.1]; simp), (by rw [he.1]; simp), by have := he.2; omega⟩, he.2⟩
  · simp only [t0]
    rw [if_neg (by omega), if_neg (by omega), if_neg (by omega)]
  · intro k hk
    obtain rfl : g' = k := Option.some.inj hk
    rcases hv with hv | hv
    · have lt := (World.ownsRow.lt h.own g' hv).2
      show (if g' = w.heap.size then _ else _) = _
      rw [if_neg (by omega), if_neg (by omega), if_neg (by omega)]
      exact t1 g' hv
    · show (if g' = w.heap.size then _ else _) = _
      rw [if_neg (by omega), if_neg (by omega), if_pos (by omega)]
  · intro l hl
    rcases List.mem_append.1 hl with q | q
    · obtain ⟨b2, b3, b4⟩ := tl l q
      obtain ⟨l1, l2, l3⟩ := SadAt.lts h q
      refine ⟨?_, ?_, fun k hk => ?_⟩
      · show (if l.g = w.heap.size then _ else _) = _
        rw [if_neg (by omega), if_neg (by omega), if_neg (by omega)]
        exact b2
      · show (if l.gw = w.heap.size then _ else _) = _
        rw [if_neg (by omega), if_neg (by omega), if_neg (by omega)]
        exact b3
      · have := l3 k hk
        show (if k = w.heap.size then _ else _) = _
        rw [if_neg (by omega), if_neg (by omega), if_neg (by omega)]
        exact b4 k hk
    · obtain rfl := List.mem_singleton.1 q
      refine ⟨?_, ?_, fun k hk => (by simp [Value.ownBlock] at hk)⟩
      · show (if w.heap.size + 1 = w.heap.size then _ else _) = _
        rw [if_neg (by omega), if_pos rfl]
      · show (if w.heap.size = w.heap.size then _ else _) = _
        rw [if_pos rfl]
  · rw [List.map_append, List.nodup_append]
    refine ⟨h.nodup, by simp, fun x hx y hy e => ?_⟩
    obtain ⟨l, hl, rfl⟩ := List.mem_map.1 hx
    have := (SadAt.lts h hl).1
    simp at hy
    omega
  · intro l hl
    rcases List.mem_append.1 hl with q | q
    · exact h.ge.2 l q
    · obtain rfl := List.mem_singleton.1 q
      exact ⟨by show base ≤ w.heap.size + 1; omega, hB⟩

set_option maxRecDepth 100000 in
set_option maxHeartbeats 8000000 in
theorem add_ref (base gs : Nat) (vl : Value) (ls : List Spot) (es : List Ent) (now : Int) (r : LifeR) (w : World) (h : SadAt w base gs vl ls es) (hn : es.length ≤ 1048576) :
    Calls Tryd.prog 23 #[.pointer (some ⟨gs, 0, none⟩), .int .i64 now, .agg r.cells.toArray] w fun er w' => er = .returned (.int .i64 ((addS now r es).1 : Int)) ∧ Fr base gs vl ls w w' ∧ ∃ vl' ls', (vl'.ownBlock = vl.ownBlock ∨ ∀ k, vl'.ownBlock = some k → w.heap.size ≤ k) ∧ NwA w ls ls' ∧ SadAt w' base gs vl' ls' (addS now r es).2 := by
  have hB : base ≤ w.heap.size := Nat.le_trans h.ge.1 (Nat.le_of_lt (Blk.lt h.blk))
  obtain ⟨A, c, rfl, hrow, hown⟩ := RowX.of h.own (by simp [ptr, Value.oneCell'])
  obtain ⟨n, hn0⟩ : ∃ n, n = es.length := ⟨_, rfl⟩
  have hl : (ls.map (·.g)).length = n := by rw [List.length_map, h.len, hn0]
  rw [hl] at h hrow hown
  rw [hl]
  have HR0 := Lib.hid hrow
  have HO := Lib.hid hown
  have HN := Lib.hid hn0
  have HL := Lib.hid hl
  clear hrow hown hn0 hl
  have H0 := Lib.hid h
  have J0 : Hid (Blk (w.alloc (.cells #[.int .i64 r.x0, .string r.x1, .string r.x2, .string r.x3, .bool r.x4, .int .i64 r.x5, .int .i64 r.x6, .bool r.x7, .int .i64 r.x8, .int .i64 r.x9, .int .i64 r.x10, .int .i64 r.x11] 34)) w.heap.size 34 #[.int .i64 r.x0, .string r.x1, .string r.x2, .string r.x3, .bool r.x4, .int .i64 r.x5, .int .i64 r.x6, .bool r.x7, .int .i64 r.x8, .int .i64 r.x9, .int .i64 r.x10, .int .i64 r.x11]) := Lib.hid (Blk.new w _ _)
  have B0 := Lib.hid (below_new w (.cells #[.int .i64 r.x0, .string r.x1, .string r.x2, .string r.x3, .bool r.x4, .int .i64 r.x5, .int .i64 r.x6, .bool r.x7, .int .i64 r.x8, .int .i64 r.x9, .int .i64 r.x10, .int .i64 r.x11] 34))
  have CM : Hid (Calls Tryd.prog 45 #[.agg #[.int .i64 r.x0, .string r.x1, .string r.x2, .string r.x3, .bool r.x4, .int .i64 r.x5, .int .i64 r.x6, .bool r.x7, .int .i64 r.x8, .int .i64 r.x9, .int .i64 r.x10, .int .i64 r.x11]] (w.alloc (.cells #[.int .i64 r.x0, .string r.x1, .string r.x2, .string r.x3, .bool r.x4, .int .i64 r.x5, .int .i64 r.x6, .bool r.x7, .int .i64 r.x8, .int .i64 r.x9, .int .i64 r.x10, .int .i64 r.x11] 34)) _) := Lib.hid (mayL_ref r (w.alloc (.cells #[.int .i64 r.x0, .string r.x1, .string r.x2, .string r.x3, .bool r.x4, .int .i64 r.x5, .int .i64 r.x6, .bool r.x7, .int .i64 r.x8, .int .i64 r.x9, .int .i64 r.x10, .int .i64 r.x11] 34)))
  obtain ⟨s, hs⟩ : ∃ s, s = addS now r es := ⟨_, rfl⟩
  have LD : (loadVar 34 ⟨w.heap.size, 0, none⟩).run Tryd.prog (w.alloc (.cells #[.int .i64 r.x0, .string r.x1, .string r.x2, .string r.x3, .bool r.x4, .int .i64 r.x5, .int .i64 r.x6, .bool r.x7, .int .i64 r.x8, .int .i64 r.x9, .int .i64 r.x10, .int .i64 r.x11] 34)) = .ok (.agg #[.int .i64 r.x0, .string r.x1, .string r.x2, .string r.x3, .bool r.x4, .int .i64 r.x5, .int .i64 r.x6, .bool r.x7, .int .i64 r.x8, .int .i64 r.x9, .int .i64 r.x10, .int .i64 r.x11]) (w.alloc (.cells #[.int .i64 r.x0, .string r.x1, .string r.x2, .string r.x3, .bool r.x4, .int .i64 r.x5, .int .i64 r.x6, .bool r.x7, .int .i64 r.x8, .int .i64 r.x9, .int .i64 r.x10, .int .i64 r.x11] 34)) := Part.run_part _ w.heap.size 0 34 r.cells _ Tryd.underlying34 rfl (by kernel_rfl) fun j v hj => by rw [Nat.zero_add, J0.out.cell j]; exact (by rw [List.getElem?_toArray]; exact hj : (r.cells.toArray)[j]? = some v)
  rw [← hs]
  unfold LifeR.cells
  by_cases a0 : mayL r = true
  · by_cases a1 : now < 0
    · have g1 : decide (now < 0) = true := decide_eq_true a1
      have E : Hid (s = (1, es)) := Lib.hid (by rw [hs, addS, if_pos (.inr a1)])
      rw [a0] at CM
      clear h hs a1
      go_enter Tryd.func23, Tryd.ntmps23
      go_wp2_with (refine Part.wpList_load_part (by kernel_rfl) 34 (.tmp 5) rfl w.heap.size 0 [.int .i64 r.x0, .string r.x1, .string r.x2, .string r.x3, .bool r.x4, .int .i64 r.x5, .int .i64 r.x6, .bool r.x7, .int .i64 r.x8, .int .i64 r.x9, .int .i64 r.x10, .int .i64 r.x11] rfl LD ?_)
      refine CM.out.mono ?_
      rintro er w1 ⟨rfl, hb⟩
      have BX := Lib.hid (B0.out.trans (hb.mono B0.out.size))
      clear hb CM J0 B0 LD
      go_wp2_with fail
      go_ret
      exact ⟨by rw [E.out]; rfl, Fr.of BX.out hB, _, ls, .inl rfl, NwA.refl _ _, by rw [E.out]; exact H0.out.up BX.out⟩
    · have g1 : decide (now < 0) = false := decide_eq_false a1
      have ER : Hid (s = match findI r.x0 r.x7 es with | some _ => (9, es) | none => if 32 ≤ es.length then (7, es) else (0, es ++ [newE r now])) := Lib.hid (by rw [hs, addS, if_neg (by rw [a0]; simp; omega)])
      have WN := Lib.hid (mayL_win a0)
      rw [a0] at CM
      clear h hs a1 a0
      go_enter Tryd.func23, Tryd.ntmps23
      go_wp2_with (refine Part.wpList_load_part (by kernel_rfl) 34 (.tmp 5) rfl w.heap.size 0 [.int .i64 r.x0, .string r.x1, .string r.x2, .string r.x3, .bool r.x4, .int .i64 r.x5, .int .i64 r.x6, .bool r.x7, .int .i64 r.x8, .int .i64 r.x9, .int .i64 r.x10, .int .i64 r.x11] rfl LD ?_)
      refine CM.out.mono ?_
      rintro er w1 ⟨rfl, hb⟩
      have B1 := Lib.hid (B0.out.trans (hb.mono B0.out.size))
      have J1 : Hid (Blk w1 w.heap.size 34 #[.int .i64 r.x0, .string r.x1, .string r.x2, .string r.x3, .bool r.x4, .int .i64 r.x5, .int .i64 r.x6, .bool r.x7, .int .i64 r.x8, .int .i64 r.x9, .int .i64 r.x10, .int .i64 r.x11]) := Lib.hid (Blk.below J0.out hb (Blk.lt J0.out))
      have H1 := Lib.hid (H0.out.up B1.out)
      have C := Lib.hid (find_ref base gs _ ls es r.x0 r.x7 w1 H1.out hn)
      have j0 := J1.out.cell 0
      have j7 := J1.out.cell 7
      clear hb CM J0 B0 LD
      go_wp2_with fail
      refine C.out.mono ?_
      rintro er w2 ⟨rfl, hb⟩
      have BX := Lib.hid (B1.out.trans (hb.mono B1.out.size))
      have J2 : Hid (Blk w2 w.heap.size 34 #[.int .i64 r.x0, .string r.x1, .string r.x2, .string r.x3, .bool r.x4, .int .i64 r.x5, .int .i64 r.x6, .bool r.x7, .int .i64 r.x8, .int .i64 r.x9, .int .i64 r.x10, .int .i64 r.x11]) := Lib.hid (Blk.below J1.out hb (Blk.lt J1.out))
      have H2 := Lib.hid (H1.out.up hb)
      clear hb C j0 j7 J1 B1 H1
      cases hf : findI r.x0 r.x7 es with
      | some i =>
        have E : Hid (s = (9, es)) := Lib.hid (by rw [ER.out, hf])
        obtain ⟨l, e, hl, he, hm, hp⟩ := found H2.out hf
        rw [hp]
        clear hf hl he hm hp ER
        go_wp2_with fail
        go_ret
        exact ⟨by rw [E.out]; rfl, Fr.of BX.out hB, _, ls, .inl rfl, NwA.refl _ _, by rw [E.out]; exact H0.out.up BX.out⟩
      | none =>
        simp only [ptrAt]
        rw [hf] at ER
        have ER2 : Hid (s = if 32 ≤ es.length then (7, es) else (0, es ++ [newE r now])) := Lib.hid ER.out
        clear hf ER
        have c0 : w2.cell? ⟨gs, 0, none⟩ = some (.slice A n c) := H2.out.blk.cell 0
        rw [← HN.out] at ER2
        have HR := Lib.hid (HR0.out.below BX.out)
        by_cases a3 : 32 ≤ n
        · have g3 : decide ((32 : Int) ≤ (n : Int)) = true := decide_eq_true (by omega)
          have g3' : decide (32 ≤ n) = true := decide_eq_true a3
          have g3'' : decide ((n : Int) ≥ 32) = true := decide_eq_true (by omega)
          have E : Hid (s = (7, es)) := Lib.hid (by rw [ER2.out, if_pos a3])
          clear ER2 a3
          go_wp2_with fail
          go_ret
          exact ⟨by rw [E.out]; rfl, Fr.of BX.out hB, _, ls, .inl rfl, NwA.refl _ _, by rw [E.out]; exact H0.out.up BX.out⟩
        · have g3 : decide ((32 : Int) ≤ (n : Int)) = false := decide_eq_false (by omega)
          have g3' : decide (32 ≤ n) = false := decide_eq_false a3
          have g3'' : decide ((n : Int) ≥ 32) = false := decide_eq_false (by omega)
          have E : Hid (s = (0, es ++ [newE r now])) := Lib.hid (by rw [ER2.out, if_neg a3])
          have N32 := Lib.hid (show n < 32 by omega)
          clear ER2 a3
          go_wp2_with fail
          clear c0
          obtain ⟨b, hb0⟩ : ∃ b, b = w.heap.size := ⟨_, rfl⟩
          have BE := Lib.hid hb0
          rw [← hb0]
          rw [← hb0] at J2
          clear hb0
          obtain ⟨S0, hS0⟩ : ∃ S0, S0 = w2.heap.size := ⟨_, rfl⟩
          have SZ := Lib.hid hS0
          have SD : Hid (w2.drew.heap.size = S0) := Lib.hid hS0.symm
          clear hS0
          obtain ⟨fin, hfin⟩ : ∃ fin, fin = (ls.map (·.g)).map ptr ++ (#[.pointer (some ⟨S0 + 1, 0, none⟩)] : Array Value).toList := ⟨_, rfl⟩
          have FIN := Lib.hid hfin
          clear hfin
          have OWN : Hid (∀ k, S0 ≤ k → ¬ own A k) := Lib.hid fun k hk z => by
            have := HR.out.row.lt z
            have := SZ.out
            omega
          have NG : Hid (¬ own A gs) := Lib.hid fun z => by
            obtain ⟨T, t0, t1, _⟩ := H2.out.tag
            have := t1 gs ((HO.out gs).2 z)
            rw [t0] at this
            cases this
          have NB : Hid (¬ own A b) := Lib.hid fun z => by
            have := (World.ownsRow.lt H0.out.own b ((HO.out b).2 z)).2
            have := BE.out
            omega
          have KS := Lib.hid H2.out.blk
          have XS : Hid (∀ V, Gr A n fin w2.drew V → Blk V gs 29 #[.slice A n c]) := Lib.hid fun V hV => hV.blk (show Blk w2.drew gs _ _ from KS.out) NG.out
          have XJ : Hid (∀ V, Gr A n fin w2.drew V → Blk V b 34 #[.int .i64 r.x0, .string r.x1, .string r.x2, .string r.x3, .bool r.x4, .int .i64 r.x5, .int .i64 r.x6, .bool r.x7, .int .i64 r.x8, .int .i64 r.x9, .int .i64 r.x10, .int .i64 r.x11]) := Lib.hid fun V hV => hV.blk (show Blk w2.drew b _ _ from J2.out) NB.out
          obtain ⟨inf, hi1, hz1, hs1, hb1⟩ := info_parts ptr_info
          refine FreeO.wp_region_freeO [0, 1, 2, 3, 4, 5, 6, 7, 8, 9, 10, 11, 12, 13, 14, 15, 16, 17, 18] 19 [20, 21] [] (fun j V => (j = 14 → V.heap.size ≤ S0) ∧ (j = 16 → V.heap.size ≤ S0 + 1) ∧ (j = 17 → V.heap.size ≤ S0 + 2) ∧ (j = 18 → RowX 69 1 V A n c ((ls.map (·.g)).map ptr))) (Gr A n fin) (fun k' w' v => match k' with
            | 0 => v = .pointer (some ⟨gs, 0, none⟩)
            | 1 => v = .pointer (some ⟨gs, 0, none⟩)
            | 2 => v = .pointer (some ⟨gs, 0, none⟩)
            | 3 => v = .pointer (some ⟨gs, 0, none⟩)
            | 4 => v = .slice A n c
            | 5 => v = .agg #[.int .i64 r.x0, .string r.x1, .string r.x2, .string r.x3, .bool r.x4, .int .i64 r.x5, .int .i64 r.x6, .bool r.x7, .int .i64 r.x8, .int .i64 r.x9, .int .i64 r.x10, .int .i64 r.x11]
            | 6 => v = .int .i64 now
            | 7 => v = .pointer (some ⟨b, 0, none⟩)
            | 8 => v = .pointer (some ⟨b, 5, none⟩)
            | 9 => v = .int .i64 r.x5
            | 10 => v = .pointer (some ⟨b, 0, none⟩)
            | 11 => v = .pointer (some ⟨b, 4, none⟩)
            | 12 => v = .bool r.x4
            | 13 => v = .agg #[.int .i64 r.x5, .bool r.x4, .slice none 0 0]
            | 14 => v = .pointer (some ⟨S0, 0, none⟩) ∧ Blk w' S0 89 #[.int .i64 r.x5, .bool r.x4, .slice none 0 0]
            | 15 => v = .agg #[.int .i64 r.x0, .string r.x1, .string r.x2, .string r.x3, .bool r.x4, .int .i64 r.x5, .int .i64 r.x6, .bool r.x7, .int .i64 r.x8, .int .i64 r.x9, .int .i64 r.x10, .int .i64 r.x11, .int .i64 now, .int .i64 0, .int .u64 0, .pointer (some ⟨S0, 0, none⟩)] ∧ Blk w' S0 89 #[.int .i64 r.x5, .bool r.x4, .slice none 0 0]
            | 16 => v = .pointer (some ⟨S0 + 1, 0, none⟩) ∧ Blk w' S0 89 #[.int .i64 r.x5, .bool r.x4, .slice none 0 0] ∧ Blk w' (S0 + 1) 68 #[.int .i64 r.x0, .string r.x1, .string r.x2, .string r.x3, .bool r.x4, .int .i64 r.x5, .int .i64 r.x6, .bool r.x7, .int .i64 r.x8, .int .i64 r.x9, .int .i64 r.x10, .int .i64 r.x11, .int .i64 now, .int .i64 0, .int .u64 0, .pointer (some ⟨S0, 0, none⟩)]
            | 17 => v = .slice (some ⟨S0 + 2, 0, none⟩) 1 1 ∧ Blk w' (S0 + 2) 69 #[.pointer (some ⟨S0 + 1, 0, none⟩)]
            | _ => ∃ A' c', v = .slice A' (n + 1) c' ∧ RowX 69 1 w' A' (n + 1) c' fin ∧ (A' = A ∨ ∃ k, A' = some ⟨k, 0, none⟩ ∧ S0 + 3 ≤ k)) (by kernel_rfl) (by kernel_rfl) (fun q hq => by cases hq) (Gr.refl _) (fun j hj => ⟨fun _ => by rw [SD.out]; omega, fun _ => by rw [SD.out]; omega, fun _ => by rw [SD.out]; omega, fun _ => HR.out.keep fun _ _ _ => rfl⟩) (fun _ _ _ h k => h.trans k) (fun k' w1 w2 v h => match k' with
            | 0 => fun x => x
            | 1 => fun x => x
            | 2 => fun x => x
            | 3 => fun x => x
            | 4 => fun x => x
            | 5 => fun x => x
            | 6 => fun x => x
            | 7 => fun x => x
            | 8 => fun x => x
            | 9 => fun x => x
            | 10 => fun x => x
            | 11 => fun x => x
            | 12 => fun x => x
            | 13 => fun x => x
            | 14 => fun x => ⟨x.1, h.blk x.2 (OWN.out _ (Nat.le_refl _))⟩
            | 15 => fun x => ⟨x.1, h.blk x.2 (OWN.out _ (Nat.le_refl _))⟩
            | 16 => fun x => ⟨x.1, h.blk x.2.1 (OWN.out _ (Nat.le_refl _)), h.blk x.2.2 (OWN.out _ (Nat.le_add_right _ _))⟩
            | 17 => fun x => ⟨x.1, h.blk x.2 (OWN.out _ (Nat.le_add_right _ _))⟩
            | _ + 18 => fun ⟨A', c', e1, e2, e3⟩ => ⟨A', c', e1, h.2 A' c' e2, e3⟩) (fun _ _ _ _ _ h => h) ?_ _ (by rfl) ?_
          · refine (FreeO.obsO_cons (by rfl) (fun vals w' hgr hN hdep K hK => ?_) (FreeO.obsO_cons (by rfl) (fun vals w' hgr hN hdep K hK => ?_) (FreeO.obsO_cons (by rfl) (fun vals w' hgr hN hdep K hK => ?_) (FreeO.obsO_cons (by rfl) (fun vals w' hgr hN hdep K hK => ?_) (FreeO.obsO_cons (by rfl) (fun vals w' hgr hN hdep K hK => ?_) (FreeO.obsO_cons (by rfl) (fun vals w' hgr hN hdep K hK => ?_) (FreeO.obsO_cons (by rfl) (fun vals w' hgr hN hdep K hK => ?_) (FreeO.obsO_cons (by rfl) (fun vals w' hgr hN hdep K hK => ?_) (FreeO.obsO_cons (by rfl) (fun vals w' hgr hN hdep K hK => ?_) (FreeO.obsO_cons (by rfl) (fun vals w' hgr hN hdep K hK => ?_) (FreeO.obsO_cons (by rfl) (fun vals w' hgr hN hdep K hK => ?_) (FreeO.obsO_cons (by rfl) (fun vals w' hgr hN hdep K hK => ?_) (FreeO.obsO_cons (by rfl) (fun vals w' hgr hN hdep K hK => ?_) (FreeO.obsO_cons (by rfl) (fun vals w' hgr hN hdep K hK => ?_) (FreeO.obsO_cons (by rfl) (fun vals w' hgr hN hdep K hK => ?_) (FreeO.obsO_cons (by rfl) (fun vals w' hgr hN hdep K hK => ?_) (FreeO.obsO_cons (by rfl) (fun vals w' hgr hN hdep K hK => ?_) (FreeO.obsO_cons (by rfl) (fun vals w' hgr hN hdep K hK => ?_) (FreeO.obsO_cons (by rfl) (fun vals w' hgr hN hdep K hK => ?_) FreeO.obsO_nil)))))))))))))))))))
            · exact wp_move (.tmp 0) rfl _ (at_out _ (by kernel_rfl) rfl) (hK _ _ (Gr.refl _) (fun _ _ _ h => h) rfl)
            · exact wp_move (.tmp 0) rfl _ (at_out _ (by kernel_rfl) rfl) (hK _ _ (Gr.refl _) (fun _ _ _ h => h) rfl)
            · exact st_nilC (.tmp 29) rfl _ ((at_dst 1 (by kernel_rfl)).trans (hdep 1 (by simp) (by kernel_rfl))) (hK _ _ (Gr.refl _) (fun _ _ _ h => h) rfl)
            · exact wp_field (.tmp 30) rfl _ _ ((at_dst 2 (by kernel_rfl)).trans (hdep 2 (by simp) (by kernel_rfl))) (by kernel_rfl) (hK _ _ (Gr.refl _) (fun _ _ _ h => h) rfl)
            · exact wp_load1 (.tmp 31) rfl ⟨gs, 0, none⟩ ((at_dst 3 (by kernel_rfl)).trans (hdep 3 (by simp) (by kernel_rfl))) Tryd.underlying27 rfl _ ((XS.out w' hgr).cell 0) (hK _ _ (Gr.refl _) (fun _ _ _ h => h) rfl)
            · exact st_load_row 34 (.tmp 5) rfl b (at_out _ (by kernel_rfl) rfl) 34 #[.int .i64 r.x0, .string r.x1, .string r.x2, .string r.x3, .bool r.x4, .int .i64 r.x5, .int .i64 r.x6, .bool r.x7, .int .i64 r.x8, .int .i64 r.x9, .int .i64 r.x10, .int .i64 r.x11] (0, 0) _ (XJ.out w' hgr) Tryd.underlying34 rfl (by kernel_rfl) (hK _ _ (Gr.refl _) (fun _ _ _ h => h) rfl)
            · exact wp_move (.tmp 1) rfl _ (at_out _ (by kernel_rfl) rfl) (hK _ _ (Gr.refl _) (fun _ _ _ h => h) rfl)
            · exact wp_field (.tmp 5) rfl _ _ (at_out _ (by kernel_rfl) rfl) (by kernel_rfl) (hK _ _ (Gr.refl _) (fun _ _ _ h => h) rfl)
            · exact wp_field (.tmp 35) rfl _ _ ((at_dst 7 (by kernel_rfl)).trans (hdep 7 (by simp) (by kernel_rfl))) (by kernel_rfl) (hK _ _ (Gr.refl _) (fun _ _ _ h => h) rfl)
            · exact wp_load1 (.tmp 36) rfl ⟨b, 5, none⟩ ((at_dst 8 (by kernel_rfl)).trans (hdep 8 (by simp) (by kernel_rfl))) Tryd.underlying3 rfl _ ((XJ.out w' hgr).cell 5) (hK _ _ (Gr.refl _) (fun _ _ _ h => h) rfl)
            · exact wp_field (.tmp 5) rfl _ _ (at_out _ (by kernel_rfl) rfl) (by kernel_rfl) (hK _ _ (Gr.refl _) (fun _ _ _ h => h) rfl)
            · exact wp_field (.tmp 38) rfl _ _ ((at_dst 10 (by kernel_rfl)).trans (hdep 10 (by simp) (by kernel_rfl))) (by kernel_rfl) (hK _ _ (Gr.refl _) (fun _ _ _ h => h) rfl)
            · exact wp_load1 (.tmp 39) rfl ⟨b, 4, none⟩ ((at_dst 11 (by kernel_rfl)).trans (hdep 11 (by simp) (by kernel_rfl))) Tryd.underlying4 rfl _ ((XJ.out w' hgr).cell 4) (hK _ _ (Gr.refl _) (fun _ _ _ h => h) rfl)
            · exact st_build [(0, .tmp 37), (1, .tmp 40)] rfl [(0, .int .i64 r.x5), (1, .bool r.x4)] (map2 ((at_dst 9 (by kernel_rfl)).trans (hdep 9 (by simp) (by kernel_rfl))) ((at_dst 12 (by kernel_rfl)).trans (hdep 12 (by simp) (by kernel_rfl)))) (.agg #[.int .i64 r.x5, .bool r.x4, .slice none 0 0]) (by kernel_rfl) (hK _ _ (Gr.refl _) (fun _ _ _ h => h) rfl)
            · have z := hN.1 rfl
              have y := hgr.1.size
              have e : w'.heap.size = S0 := by rw [SD.out] at y; omega
              refine st_box 89 (.tmp 41) rfl _ #[.int .i64 r.x5, .bool r.x4, .slice none 0 0] ((at_dst 13 (by kernel_rfl)).trans (hdep 13 (by simp) (by kernel_rfl))) (fun w => by kernel_rfl) (hK _ _ (Gr.of (below_new _ _)) (fun j _ hne hn => ⟨fun q => absurd q hne, fun q => by have := hn.2.1 q; simp; omega, fun q => by have := hn.2.2.1 q; simp; omega, fun q => (hn.2.2.2 q).below (below_new _ _)⟩) ⟨by rw [e], ?_⟩)
              rw [← e]
              exact Blk.new w' _ _
            · have d14 := hdep 14 (by simp) (by kernel_rfl)
              exact st_build [(0, .tmp 33), (1, .tmp 34), (4, .tmp 42)] rfl [(0, .agg #[.int .i64 r.x0, .string r.x1, .string r.x2, .string r.x3, .bool r.x4, .int .i64 r.x5, .int .i64 r.x6, .bool r.x7, .int .i64 r.x8, .int .i64 r.x9, .int .i64 r.x10, .int .i64 r.x11]), (1, .int .i64 now), (4, .pointer (some ⟨S0, 0, none⟩))] (map3 ((at_dst 5 (by kernel_rfl)).trans (hdep 5 (by simp) (by kernel_rfl))) ((at_dst 6 (by kernel_rfl)).trans (hdep 6 (by simp) (by kernel_rfl))) ((at_dst 14 (by kernel_rfl)).trans d14.1)) (.agg #[.int .i64 r.x0, .string r.x1, .string r.x2, .string r.x3, .bool r.x4, .int .i64 r.x5, .int .i64 r.x6, .bool r.x7, .int .i64 r.x8, .int .i64 r.x9, .int .i64 r.x10, .int .i64 r.x11, .int .i64 now, .int .i64 0, .int .u64 0, .pointer (some ⟨S0, 0, none⟩)]) (by kernel_rfl) (hK _ _ (Gr.refl _) (fun _ _ _ h => h) ⟨rfl, d14.2⟩)
            · have d15 := hdep 15 (by simp) (by kernel_rfl)
              have z := hN.2.1 rfl
              have y := Blk.lt d15.2
              have e : w'.heap.size = S0 + 1 := by omega
              refine st_box 68 (.tmp 43) rfl _ #[.int .i64 r.x0, .string r.x1, .string r.x2, .string r.x3, .bool r.x4, .int .i64 r.x5, .int .i64 r.x6, .bool r.x7, .int .i64 r.x8, .int .i64 r.x9, .int .i64 r.x10, .int .i64 r.x11, .int .i64 now, .int .i64 0, .int .u64 0, .pointer (some ⟨S0, 0, none⟩)] ((at_dst 15 (by kernel_rfl)).trans d15.1) (fun w => by kernel_rfl) (hK _ _ (Gr.of (below_new _ _)) (fun j _ hne hn => ⟨fun q => by have := hn.1 q; simp; omega, fun q => absurd q hne, fun q => by have := hn.2.2.1 q; simp; omega, fun q => (hn.2.2.2 q).below (below_new _ _)⟩) ⟨by rw [e], Blk.alloc d15.2 _, ?_⟩)
              rw [← e]
              exact Blk.new w' _ _
            · have d16 := hdep 16 (by simp) (by kernel_rfl)
              have z := hN.2.2.1 rfl
              have y := Blk.lt d16.2.2
              have e : w'.heap.size = S0 + 2 := by omega
              refine st_slice_one 27 69 (.tmp 44) rfl _ #[.pointer (some ⟨S0 + 1, 0, none⟩)] ((at_dst 16 (by kernel_rfl)).trans d16.1) (fun w => by kernel_rfl) (hK _ _ (Gr.of (below_new _ _)) (fun j _ hne hn => ⟨fun q => by have := hn.1 q; simp; omega, fun q => by have := hn.2.1 q; simp; omega, fun q => absurd q hne, fun q => (hn.2.2.2 q).below (below_new _ _)⟩) ⟨by rw [e], ?_⟩)
              rw [← e]
              exact Blk.new w' _ _
            · have d17 := hdep 17 (by simp) (by kernel_rfl)
              have y := Blk.lt d17.2
              obtain ⟨A5, c5, w5, hrun, hx5, hA5, hk5, hf5⟩ := append_row (N := 1) Tryd.underlying27 hi1 hz1 hs1 rfl (by rw [hb1]; decide) (hN.2.2.2 rfl) d17.2 rfl (by simp [Value.oneCell']) (by have := N32.out; omega)
              exact st_append_run (.tmp 32) (.tmp 45) _ rfl _ _ _ ((at_dst 4 (by kernel_rfl)).trans (hdep 4 (by simp) (by kernel_rfl))) ((at_dst 17 (by kernel_rfl)).trans d17.1) hrun (hK _ _ ⟨hk5, fun A2 c2 => by rw [FIN.out]; exact hf5 A2 c2⟩ (fun j _ hne hn => ⟨fun q => by have := hn.1 q; omega, fun q => by have := hn.2.1 q; omega, fun q => by have := hn.2.2.1 q; omega, fun q => absurd q hne⟩) ⟨A5, c5, rfl, by rw [FIN.out]; exact hx5, hA5.imp id fun ⟨k, e1, e2⟩ => ⟨k, e1, by omega⟩⟩)
          · intro vals w' hgr hG
            obtain ⟨A', c', e18, hrow, hA⟩ := hG 18 (by simp)
            obtain ⟨-, w16, k16⟩ := hG 16 (by simp)
            obtain ⟨g', X, rfl, -, -, -⟩ := hrow.row.some (by omega)
            have TB := Lib.hid (XS.out w' hgr)
            have K16 : Hid (Blk w' S0 89 #[.int .i64 r.x5, .bool r.x4, .slice none 0 0] ∧ Blk w' (S0 + 1) 68 #[.int .i64 r.x0, .string r.x1, .string r.x2, .string r.x3, .bool r.x4, .int .i64 r.x5, .int .i64 r.x6, .bool r.x7, .int .i64 r.x8, .int .i64 r.x9, .int .i64 r.x10, .int .i64 r.x11, .int .i64 now, .int .i64 0, .int .u64 0, .pointer (some ⟨S0, 0, none⟩)]) := Lib.hid ⟨w16, k16⟩
            have RW := Lib.hid hrow
            have HA := Lib.hid hA
            have KP := Lib.hid hgr.1
            refine st_nilC (.tmp 28) rfl ⟨gs, 0, none⟩ ((at_dst 0 (by kernel_rfl)).trans (hG 0 (by simp))) ?_
            refine wpAnyH_next 20 _ rfl rfl (by kernel_rfl) (wp_field (.tmp 47) rfl _ (.pointer (some ⟨gs, 0, none⟩)) (put_tmps_eq (fill_size _ _ _) (by kernel_rfl)) (by kernel_rfl) ⟨trivial, ?_⟩)
            refine wpAnyH_next 21 _ rfl rfl (by kernel_rfl) (st_store_run 27 (.tmp 48) (.tmp 46) rfl ⟨gs, 0, none⟩ (put_tmps_eq (put_size (fill_size _ _ _)) (by kernel_rfl)) _ (put_tmps_ne (by rfl) (put_tmps_ne (by rfl) ((at_dst 18 (by kernel_rfl)).trans e18))) (run_store_one TB.out (by simp) (by kernel_rfl) rfl #[.slice (some ⟨g', 0, none⟩) (n + 1) c'] rfl rfl) ⟨trivial, wpAnyH_done (by kernel_rfl) ?_ _⟩)
            clear hG hgr hrow hA e18 XS XJ w16 k16 hi1 hz1 hs1 hb1
            have gne : Hid (g' ≠ gs) := Lib.hid fun z => by
              rcases HA.out with q | ⟨k, q, hk⟩
              · exact NG.out ⟨_, q.symm, z⟩
              · cases q
                have := Blk.lt KS.out
                have := SZ.out
                omega
            have PO : Hid (POwn (w'.setRow gs #[.slice (some ⟨g', 0, none⟩) (n + 1) c']) base (.slice (some ⟨g', 0, none⟩) (n + 1) c') (ls.map (·.g) ++ [w2.heap.size + 1])) := Lib.hid (by
              have q : RowX 69 1 (w'.setRow gs #[.slice (some ⟨g', 0, none⟩) (n + 1) c']) (some ⟨g', 0, none⟩) (n + 1) c' fin := RW.out.keep fun k hk hlt => setRow_other _ _ _ _ (fun z => by
                obtain ⟨a, ha, hak⟩ := hk
                cases ha
                have hak : g' = k := hak
                exact gne.out (hak.trans z))
              have := q.owns (base := base) (fun k hk => by
                obtain ⟨a, ha, hak⟩ := hk
                cases ha
                have hak : g' = k := hak
                subst hak
                rcases HA.out with q | ⟨k, q, hk⟩
                · exact (World.ownsRow.lt H2.out.own g' ((HO.out g').2 ⟨_, q.symm, rfl⟩)).1
                · cases q
                  have := BX.out.size
                  have := SZ.out
                  omega) (fun z => by cases z)
              unfold POwn
              rw [List.length_append, HL.out, List.map_append, ← SZ.out]
              rw [FIN.out] at this
              exact this)
            have FX : Hid (∀ k, k < w2.heap.size → k ≠ gs → some k ≠ (Value.slice A n c).ownBlock → (w'.setRow gs #[.slice (some ⟨g', 0, none⟩) (n + 1) c']).heap[k]? = w2.heap[k]?) := Lib.hid fun k hk k1 k2 => (setRow_other _ _ _ _ k1).trans (KP.out.block k (fun z => k2 ((HO.out k).2 z).symm) hk)
            have PU : Hid (SadAt (w'.setRow gs #[.slice (some ⟨g', 0, none⟩) (n + 1) c']) base gs (.slice (some ⟨g', 0, none⟩) (n + 1) c') (ls ++ [⟨w2.heap.size + 1, w2.heap.size, .slice none 0 0⟩]) (es ++ [newE r now])) := Lib.hid (SadAt.push H2.out g' (n + 1) c' (newE r now) (setRow_heap _ _ _ _ _ _ TB.out) PO.out (by
                rcases HA.out with q | ⟨k, q, hk⟩
                · exact .inl ((HO.out g').2 ⟨_, q.symm, rfl⟩)
                · cases q
                  exact .inr (by rw [← SZ.out]; exact hk)) FX.out
              (by
                rw [← SZ.out]
                exact (setRow_other _ _ _ _ (by have := Blk.lt KS.out; have := SZ.out; omega)).trans K16.out.2)
              (by
                rw [← SZ.out]
                have e5 : (((newE r now).life.x5.toNat : Nat) : Int) = r.x5 := Int.toNat_of_nonneg (by have := WN.out.1; show 0 ≤ r.x5; omega)
                unfold wcells
                rw [e5]
                exact (setRow_other _ _ _ _ (by have := Blk.lt KS.out; have := SZ.out; omega)).trans K16.out.1)
              ⟨rfl, WN.out.1, WN.out.2, by show 0 < Q64; decide⟩)
            have OS : Hid ((w'.setRow gs #[.slice (some ⟨g', 0, none⟩) (n + 1) c']).os = w.os ∧ (w'.setRow gs #[.slice (some ⟨g', 0, none⟩) (n + 1) c']).tape = w.tape ∧ (w'.setRow gs #[.slice (some ⟨g', 0, none⟩) (n + 1) c']).output = w.output ∧ w.heap.size ≤ (w'.setRow gs #[.slice (some ⟨g', 0, none⟩) (n + 1) c']).heap.size) := Lib.hid ⟨KP.out.os.trans BX.out.os, KP.out.tape.trans BX.out.tape, KP.out.output.trans BX.out.output, by
              have := KP.out.size
              have := BX.out.size
              have := SZ.out
              simp [World.setRow] at *
              omega⟩
            have VO : Hid (g' = g' ∧ ((Value.slice A n c).ownBlock = some g' ∨ w.heap.size ≤ g')) := Lib.hid ⟨rfl, by
              rcases HA.out with q | ⟨k, q, hk⟩
              · exact .inl ((HO.out g').2 ⟨_, q.symm, rfl⟩)
              · cases q
                have := BX.out.size
                have := SZ.out
                exact .inr (by omega)⟩
            have VB : Hid (∀ k, (Value.slice A n c).ownBlock = some k → base ≤ k) := Lib.hid fun k hk => (World.ownsRow.lt H0.out.own k hk).1
            clear TB K16 RW HA KP PO J2 KS OWN NG NB FIN SD gne HR
            simp only [fill, dstAt, List.getElem?_cons_zero, List.getElem?_cons_succ, Option.bind_some, Act.put, List.setIfInBounds_toArray, List.set_cons_zero, List.set_cons_succ]
            generalize vals 0 = z0, vals 1 = z1, vals 2 = z2, vals 3 = z3, vals 4 = z4, vals 5 = z5, vals 6 = z6, vals 7 = z7, vals 8 = z8, vals 9 = z9, vals 10 = z10, vals 11 = z11, vals 12 = z12, vals 13 = z13, vals 14 = z14, vals 15 = z15, vals 16 = z16, vals 17 = z17, vals 18 = z18 at *
            generalize w'.setRow gs #[.slice (some ⟨g', 0, none⟩) (n + 1) c'] = w5 at *
            go_wp2_with fail
            go_ret
            refine ⟨by rw [E.out]; rfl, ⟨⟨OS.out.1, OS.out.2.1, OS.out.2.2.1, OS.out.2.2.2, fun k hk => ?_⟩, fun k hk k1 k2 _ => (FX.out k (Nat.lt_of_lt_of_le hk BX.out.size) k1 k2).trans (BX.out.block k hk)⟩, .slice (some ⟨g', 0, none⟩) (n + 1) c', ?_, ls ++ [⟨w2.heap.size + 1, w2.heap.size, .slice none 0 0⟩], ?_, ?_⟩
            · have hk2 : k < w.heap.size := Nat.lt_of_lt_of_le hk hB
              exact (FX.out k (Nat.lt_of_lt_of_le hk2 BX.out.size) (by have := H0.out.ge.1; omega) (fun z => by have := VB.out k z.symm; omega)).trans (BX.out.block k hk2)
            · rcases VO.out.2 with q | q
              · exact .inl ((owned _ _ _).trans q.symm)
              · exact .inr fun k hk => by
                  rw [owned] at hk
                  cases hk
                  exact q
            · intro l hl
              rcases List.mem_append.1 hl with q | q
              · exact .inl q
              · obtain rfl := List.mem_singleton.1 q
                have := BX.out.size
                exact .inr ⟨by show w.heap.size ≤ w2.heap.size + 1; omega, this, fun k hk => (by simp [Value.ownBlock] at hk)⟩
            · rw [E.out]
              exact PU.out
  · have a0' : mayL r = false := by simpa using a0
    have E : Hid (s = (1, es)) := Lib.hid (by rw [hs, addS, if_pos (.inl a0')])
    rw [a0'] at CM
    clear h hs a0 a0'
    go_enter Tryd.func23, Tryd.ntmps23
    go_wp2_with (refine Part.wpList_load_part (by kernel_rfl) 34 (.tmp 5) rfl w.heap.size 0 [.int .i64 r.x0, .string r.x1, .string r.x2, .string r.x3, .bool r.x4, .int .i64 r.x5, .int .i64 r.x6, .bool r.x7, .int .i64 r.x8, .int .i64 r.x9, .int .i64 r.x10, .int .i64 r.x11] rfl LD ?_)
    refine CM.out.mono ?_
    rintro er w1 ⟨rfl, hb⟩
    have BX := Lib.hid (B0.out.trans (hb.mono B0.out.size))
    clear hb CM J0 B0 LD
    go_wp2_with fail
    go_ret
    exact ⟨by rw [E.out]; rfl, Fr.of BX.out hB, _, ls, .inl rfl, NwA.refl _ _, by rw [E.out]; exact H0.out.up BX.out⟩
/-- Among others' blocks. -/
theorem add_F (F : Nat → Prop) (gs : Nat) (es : List Ent) (now : Int) (r : LifeR) (w : World) (h : SadF F w gs es) (hF : ∀ k, F k → k < w.heap.size) (hn : es.length ≤ 1048576) :
    Calls Tryd.prog 23 #[.pointer (some ⟨gs, 0, none⟩), .int .i64 now, .agg r.cells.toArray] w fun er w' => er = .returned (.int .i64 ((addS now r es).1 : Int)) ∧ SadF F w' gs (addS now r es).2 ∧ Keep F w w' := by
  obtain ⟨vl, ls, h1, h2⟩ := h
  refine (add_ref 0 gs vl ls es now r w h1 hn).mono ?_
  rintro er w' ⟨rfl, hf, vl', ls', hv, hw, hs⟩
  refine ⟨rfl, ⟨vl', ls', hs, ⟨h2.s, fun k hk f => ?_, fun l hl => ?_⟩⟩, Fr.keep hf h2⟩
  · rcases hv with q | q
    · exact h2.v k (q ▸ hk) f
    · have a := q k hk
      have b := hF k f
      omega
  · rcases hw l hl with q | ⟨q1, q2, q3⟩
    · exact h2.l l q
    · exact ⟨fun f => (by have := hF _ f; omega), fun f => (by have := hF _ f; omega), fun k hk f => (by have := hF _ f; have := q3 k hk; omega)⟩
end Go.Proofs.YtppnkkpjfjhfkaaDoor.SadR10

