/- A pointer put behind the object's row. -/
import Derived.Test.YtppnkkpjfjhfkaaDoorM26
import Derived.Test.YtppnkkpjfjhfkaaDoorM30
import Derived.Test.YtppnkkpjfjhfkaaDoorM31
import Derived.Test.YtppnkkpjfjhfkaaDoorM34
import Derived.Test.YtppnkkpjfjhfkaaDoorM35
import Derived.Test.YtppnkkpjfjhfkaaDoorM43
import Derived.Deep.AppendSrc
set_option linter.unusedVariables false
set_option maxRecDepth 100000
namespace Go.Proofs.YtppnkkpjfjhfkaaDoor.CadA
open Go.RowKit Go.Proofs.YtppnkkpjfjhfkaaDoor.Mem Go.Proofs.YtppnkkpjfjhfkaaDoor.Blk Go.Proofs.YtppnkkpjfjhfkaaDoor.RowN Go.Proofs.YtppnkkpjfjhfkaaDoor.RowA Go.Proofs.YtppnkkpjfjhfkaaDoor.SadM Go.Proofs.YtppnkkpjfjhfkaaDoor.CadM

theorem info_ptr : ∃ i, Tryd.prog.info? RT = some i ∧ i.zero = some (.pointer none) ∧ i.size = 1 ∧ i.bytes = 8 := by
  have h : (Tryd.prog.info? RT).map (fun i => (i.zero, i.size, i.bytes)) = some (some (.pointer none), 1, 8) := by kernel_rfl
  obtain ⟨i, hi, hz⟩ := Option.map_eq_some_iff.1 h
  simp only [Prod.mk.injEq] at hz
  exact ⟨i, hi, hz.1, hz.2.1, hz.2.2⟩
theorem RowZ.own_ne {w : World} {A A2 : Option Addr} {n c c2 : Nat} {cs : List Value} {g : Nat} (h : RowZ w A n c cs) (h2 : RowZ w A2 (n + 1) c2 (cs ++ [ptr g])) : ∀ k, own A2 k → ¬ own A k := fun k k2 k1 => by
  obtain ⟨b, X, e, hX, hc2, ht⟩ := h2.row.some (by omega)
  obtain ⟨a, ea, rfl⟩ := k1
  obtain ⟨a2, ea2, eb⟩ := k2
  rw [e] at ea2
  cases ea2
  have hb : b = a.block := eb
  rcases h.row.lies with ⟨z, _⟩ | ⟨b', X', e', hX', hc', ht'⟩
  · rw [ea] at z; cases z
  · have : b' = a.block := by rw [ea] at e'; cases e'; rfl
    have eb' : b' = b := by omega
    subst eb'
    have eX : X = X' := by
      have := hX.symm.trans hX'
      simp at this
      exact this
    subst eX
    have hl := h.row.len
    rw [Nat.mul_one] at hl ht
    have q : X.toList[n]? = some (ptr g) := by
      have : (X.toList.take (n + 1))[n]? = some (ptr g) := by
        rw [ht, List.getElem?_append_right (by omega), hl]
        simp
      rw [List.getElem?_take] at this
      rwa [if_pos (by omega)] at this
    have mm : ptr g ∈ X.toList.drop n := List.mem_of_getElem? (i := 0) (by rw [List.getElem?_drop]; exact q)
    have := h.tail b' X e' hX' _ mm
    simp [ptr] at this
theorem append_ptr {A : Option Addr} {n c : Nat} {cs : List Value} {vb g : Nat} {w : World} (hx : RowZ w A n c cs) (hV : Blk w vb RT #[ptr g]) (hn : n ≤ 1000000) :
    ∃ A' c' w', (∀ ty, (Builtin.append_ #[58, 58] ty #[.slice A n c, .slice (some ⟨vb, 0, none⟩) 1 1]).run Tryd.prog w = .ok (.slice A' (n + 1) c') w') ∧ RowZ w' A' (n + 1) c' (cs ++ [ptr g]) ∧ (A' = A ∨ ∃ k, A' = some ⟨k, 0, none⟩ ∧ w.heap.size ≤ k) ∧ Keep (fun k => ¬ own A k) w w' ∧ ∀ A2 c2 g2, RowZ w A2 (n + 1) c2 (cs ++ [ptr g2]) → RowZ w' A2 (n + 1) c2 (cs ++ [ptr g2]) := by
  obtain ⟨i, hi, hz, hN, hb⟩ := info_ptr
  have hu := Tryd.underlying58
  have h := hx.row
  have o1 : ∀ v ∈ [ptr g], v.oneCell' = true := by simp [ptr, Value.oneCell']
  have hsrc : Src Tryd.prog i.size 58 (.slice (some ⟨vb, 0, none⟩) 1 1) 1 [ptr g] w := Src.ofSlice w hu ⟨vb, 0, none⟩ 1 1 [ptr g] (by simp [hN]) (fun j u hj => by
    rw [Addr.add_lit, Nat.zero_add, hV.cell]
    simpa using hj) o1
  have fl : (cs ++ [ptr g]).length = (n + 1) * 1 := by rw [List.length_append, h.len]; simp
  have f1 : ∀ v ∈ cs ++ [ptr g], v.oneCell' = true := fun v hv => (List.mem_append.1 hv).elim (h.one v) (o1 v)
  by_cases room : n + 1 ≤ c
  · obtain ⟨b, X, rfl, hX, hXc, hXt⟩ : ∃ b X, A = some ⟨b, 0, none⟩ ∧ Blk w b RT X ∧ c * 1 ≤ X.size ∧ X.toList.take (n * 1) = cs := by
      rcases h.lies with ⟨_, h2⟩ | h'
      · omega
      · exact h'
    have fit : n * i.size + [ptr g].length ≤ X.size := by rw [hN]; simp; omega
    have KP := Keep.row (F := fun k => ¬ own (some ⟨b, 0, none⟩) k) w b (spl X (n * i.size) [ptr g]) (fun z => z ⟨_, rfl, rfl⟩)
    refine ⟨some ⟨b, 0, none⟩, c, w.setRow b (spl X (n * i.size) [ptr g]), fun ty => run_append_spl hu hi hX n c ⟨vb, 0, none⟩ 1 1 [ptr g] (by simp [hN]) (fun j u hj => by
        rw [Addr.add_lit, Nat.zero_add, hV.cell]
        simpa using hj) o1 room fit ty, ⟨⟨fl, room, h.big, f1, .inr ⟨b, _, rfl, setRow_heap _ _ _ (spl X (n * i.size) [ptr g]) _ _ hX, by rw [spl_size fit]; exact hXc, ?_⟩⟩, fun b' Y hA hY => ?_, fun b' Y hA hY => ?_⟩, .inl rfl, KP, fun A2 c2 g2 z => z.keep fun k k2 hlt => KP.block k (RowZ.own_ne hx z k k2) hlt⟩
    · unfold spl
      rw [hN, hXt]
      exact List.take_left' fl
    · cases hA
      have e1 := hY.symm.trans (setRow_heap w _ _ (spl X (n * i.size) [ptr g]) _ _ hX)
      simp at e1
      rw [e1, spl_size fit]
      exact hx.fits _ _ rfl hX
    · cases hA
      have e1 := hY.symm.trans (setRow_heap w _ _ (spl X (n * i.size) [ptr g]) _ _ hX)
      simp at e1
      rw [e1]
      unfold spl
      rw [hN, hXt]
      intro v hv
      rw [show (cs ++ [ptr g] ++ X.toList.drop (n * 1 + [ptr g].length)).toArray.toList = cs ++ [ptr g] ++ X.toList.drop (n * 1 + [ptr g].length) from rfl, List.drop_left' (by rw [fl, Nat.mul_one])] at hv
      refine hx.tail _ _ rfl hX v ?_
      have e2 : X.toList.drop (n * 1 + [ptr g].length) = (X.toList.drop n).drop 1 := by rw [List.drop_drop, Nat.mul_one]; rfl
      rw [e2] at hv
      exact List.mem_of_mem_drop hv
  · have hold : (Builtin.firstCells i.size n (.slice A n c)).run Tryd.prog w.drew = .ok cs.toArray w.drew := by
      rw [hN]
      rcases h.lies with ⟨rfl, h2⟩ | ⟨b, X, rfl, hX, hXc, hXt⟩
      · have : n = 0 := by have := h.le; omega
        subst this
        have hc : cs = [] := List.length_eq_zero_iff.1 (by simpa using h.len)
        rw [hc]
        exact run_firstCells_none w.drew 1 0 0 c
      · exact run_firstCells_some w.drew 1 n ⟨b, 0, none⟩ n c cs h.len (fun j v hj => by
          rw [Addr.add_lit, Nat.zero_add]
          exact h.cell rfl hj)
    have g2 : grownCap w (n + 1) c RT ≤ 9223372036854775807 := by
      have := grownCap_le_maxLen w (n + 1) c RT (by unfold maxLen; omega)
      unfold maxLen at this
      omega
    have g1 := grownCap_ge w (n + 1) c RT
    have hbb : (n + 1) * i.bytes ≤ 140737488355328 := Nat.le_trans (Nat.mul_le_mul (show n + 1 ≤ 1000001 by omega) (show i.bytes ≤ 4096 by omega)) (by decide)
    have BL := (below_drewN (Below.refl w.heap.size w) 1).alloc (Nat.le_refl _) (.cells ((cs ++ [ptr g]).toArray ++ Builtin.zeroCells (Value.pointer none).cells (grownCap w (n + 1) c RT - (n + 1))) RT)
    refine ⟨some ⟨w.heap.size, 0, none⟩, grownCap w (n + 1) c RT, _, fun ty => run_append_grow_src w 58 58 ty RT i (.pointer none) hu hi hz A n c cs hold _ 1 [ptr g] hsrc (by omega) (by omega) (growslice_fits (by omega) hbb), ⟨⟨fl, g1, g2, f1, .inr ⟨_, _, rfl, Blk.new w.drew RT _, ?_, ?_⟩⟩, fun b' Y hA hY => ?_, fun b' Y hA hY => ?_⟩, .inr ⟨_, rfl, Nat.le_refl _⟩, Keep.of BL, fun A2 c2 g3 z => z.below BL⟩
    · rw [Array.size_append, List.size_toArray, fl, size_zeroCells]
      rw [show (Value.pointer none).cells.size = 1 from rfl]
      omega
    · rw [Array.toList_append]
      exact List.take_left' fl
    · cases hA
      have e1 := hY.symm.trans (Blk.new w.drew RT _)
      simp at e1
      rw [e1, Array.size_append, List.size_toArray, fl, size_zeroCells]
      rw [show (Value.pointer none).cells.size = 1 from rfl]
      omega
    · cases hA
      have e1 := hY.symm.trans (Blk.new w.drew RT _)
      simp at e1
      rw [e1, Array.toList_append, List.toList_toArray]
      intro v hv
      rw [List.drop_left' (by rw [fl, Nat.mul_one])] at hv
      simp [Builtin.zeroCells, Value.cells] at hv
      obtain ⟨a, _, rfl⟩ := hv
      simp [Nat.mod_one]
end Go.Proofs.YtppnkkpjfjhfkaaDoor.CadA

/- The code's Add. -/
set_option linter.unusedVariables false
set_option maxRecDepth 100000
namespace Go.Proofs.YtppnkkpjfjhfkaaDoor.Cad10
open Go.RowKit Go.Proofs.YtppnkkpjfjhfkaaDoor.Mem Go.Proofs.YtppnkkpjfjhfkaaDoor.Blk Go.Proofs.YtppnkkpjfjhfkaaDoor.Free Go.Proofs.YtppnkkpjfjhfkaaDoor.Steps Go.Proofs.YtppnkkpjfjhfkaaDoor.ArgT Go.Proofs.YtppnkkpjfjhfkaaDoor.Longs Go.Proofs.YtppnkkpjfjhfkaaDoor.SadM Go.Proofs.YtppnkkpjfjhfkaaDoor.SadMay Go.Proofs.YtppnkkpjfjhfkaaDoor.SadR2 Go.Proofs.YtppnkkpjfjhfkaaDoor.SadR10 Go.Proofs.YtppnkkpjfjhfkaaDoor.RowN Go.Proofs.YtppnkkpjfjhfkaaDoor.RowA Go.Proofs.YtppnkkpjfjhfkaaDoor.Rng4 Go.Proofs.YtppnkkpjfjhfkaaDoor.CadM Go.Proofs.YtppnkkpjfjhfkaaDoor.Cad0 Go.Proofs.YtppnkkpjfjhfkaaDoor.Cad2 Go.Proofs.YtppnkkpjfjhfkaaDoor.Cad5 Go.Proofs.YtppnkkpjfjhfkaaDoor.Cad8 Go.Proofs.YtppnkkpjfjhfkaaDoor.Cad9 Go.Proofs.YtppnkkpjfjhfkaaDoor.CadA

theorem st_store_run {o : Oper} {a : Act} {w w1 : World} {K : Act → World → Prop} {Q : Exit → Act → World → Prop} (ty : TypeId) (x y : Operand) (ho : o.op = .store ty x y) (ad : Addr) (hx : a.eval x = .pointer (some ad)) (v : Value) (hy : a.eval y = v)
    (hr : (storeVar ty ad v).run Tryd.prog w = .ok () w1) (hK : K (a.put o.dst undef) w1) : Step Tryd.prog o a w K Q := by
  constructor
  unfold Oper.wp execOp
  simp only [ho, hx, hy, Instr.storeAt, Instr.sureAddr, Sem.run_bind, Sem.run_pure, Result.andThen_ok, hr]
  exact hK
theorem run_one (w : World) (g : Nat) : (Instr.buildSlice 58 1 #[(0, .pointer (some ⟨g, 0, none⟩))]).run Tryd.prog w = .ok (.slice (some ⟨w.heap.size, 0, none⟩) 1 1) (w.alloc (.cells #[.pointer (some ⟨g, 0, none⟩)] RT)) := by
  kernel_rfl
theorem st_one {o : Oper} {a : Act} {w : World} {K : Act → World → Prop} {Q : Exit → Act → World → Prop} (x : Operand) (ho : o.op = .buildSlice 58 1 #[(0, x)]) (g : Nat) (hx : a.eval x = ptr g) (hK : K (a.put o.dst (.slice (some ⟨w.heap.size, 0, none⟩) 1 1)) (w.alloc (.cells #[ptr g] RT))) : Step Tryd.prog o a w K Q := by
  constructor
  have hr : (execOp a.eval o).run Tryd.prog w = .ok (.value (.slice (some ⟨w.heap.size, 0, none⟩) 1 1)) (w.alloc (.cells #[ptr g] RT)) := by
    simp [execOp, ho, hx, ptr, run_one w, Result.andThen]
  unfold Oper.wp
  rw [hr]
  exact hK
theorem st_append {o : Oper} {a : Act} {w w1 : World} {K : Act → World → Prop} {Q : Exit → Act → World → Prop} (x y : Operand) (ho : o.op = .call { callee := .builtin .append, args := #[x, y], argTypes := #[58, 58] }) (v u r : Value) (hx : a.eval x = v) (hy : a.eval y = u)
    (hr : ∀ ty, (Builtin.append_ #[58, 58] ty #[v, u]).run Tryd.prog w = .ok r w1) (hK : K (a.put o.dst r) w1) : Step Tryd.prog o a w K Q := by
  constructor
  unfold Oper.wp
  simp [execOp, ho, resolve, invoke, hx, hy, builtin, hr, Result.andThen]
  exact hK
/-- An association that lies in blocks from S on. -/
structure MadeIn (S : Nat) (w : World) (r : LifeR) (now : Int) (l : CSpot) : Prop where
  blk : Blk w l.g 65 (acells (newE r now) (wptr l))
  win : ∀ p, l.w = some p → Has w p.1 p.2 r.x5.toNat r.x4 []
  out : l.w.isNone = r.x7
  ge : S ≤ l.g ∧ ∀ p, l.w = some p → S ≤ p.1 ∧ S ≤ p.2 ∧ p.1 ≠ l.g ∧ p.2 ≠ l.g ∧ p.1 ≠ p.2
theorem MadeIn.keep {S : Nat} {w w' : World} {r : LifeR} {now : Int} {l : CSpot} (h : MadeIn S w r now l) (hx : ∀ k, S ≤ k → k < w.heap.size → w'.heap[k]? = w.heap[k]?) : MadeIn S w' r now l :=
  ⟨(hx _ h.ge.1 (Blk.lt h.blk)).trans h.blk, fun p hp => has_same (h.win p hp) (hx _ (h.ge.2 p hp).1 (has_lt (h.win p hp)).1) (hx _ (h.ge.2 p hp).2.1 (has_lt (h.win p hp)).2), h.out, h.ge⟩
/-- What may turn while the association is being added. -/
def Gr (A : Option Addr) (n : Nat) (cs : List Value) (w w' : World) : Prop := Keep (fun k => ¬ own A k) w w' ∧ ∀ A2 c2 g2, RowZ w A2 (n + 1) c2 (cs ++ [ptr g2]) → RowZ w' A2 (n + 1) c2 (cs ++ [ptr g2])
theorem Gr.refl {A : Option Addr} {n : Nat} {cs : List Value} (w : World) : Gr A n cs w w := ⟨Keep.refl _ _, fun _ _ _ h => h⟩
theorem Gr.trans {A : Option Addr} {n : Nat} {cs : List Value} {w w' w'' : World} (h : Gr A n cs w w') (k : Gr A n cs w' w'') : Gr A n cs w w'' := ⟨h.1.trans k.1, fun A2 c2 g2 z => k.2 A2 c2 g2 (h.2 A2 c2 g2 z)⟩
theorem Gr.of {A : Option Addr} {n : Nat} {cs : List Value} {w w' : World} (h : Below w.heap.size w w') : Gr A n cs w w' := ⟨Keep.of h, fun _ _ _ z => z.below h⟩
theorem Gr.blk {A : Option Addr} {n : Nat} {cs : List Value} {w w' : World} {g : Nat} {t : TypeId} {xs : Array Value} (h : Gr A n cs w w') (k : Blk w g t xs) (hg : ¬ own A g) : Blk w' g t xs := (h.1.block g hg k.lt).trans k
/-- One more is put behind the others. -/
theorem CadAt.push {w w' : World} {gs : Nat} {A A' : Option Addr} {n c c' : Nat} {ls : List CSpot} {es : List Ent} (h : CadAt w gs A n c ls es) {r : LifeR} {now : Int} {l : CSpot} (hm : MadeIn w.heap.size w' r now l) (hmay : mayL r = true) (hnow : 0 ≤ now)
    (hb : Blk w' gs 60 #[.slice A' (n + 1) c']) (hr : RowZ w' A' (n + 1) c' ((ls.map fun l => ptr l.g) ++ [ptr l.g])) (hA : A' = A ∨ ∃ k, A' = some ⟨k, 0, none⟩ ∧ w.heap.size ≤ k ∧ k ≠ l.g ∧ ∀ p, l.w = some p → k ≠ p.1 ∧ k ≠ p.2)
    (hx : ∀ k, k < w.heap.size → k ≠ gs → ¬ own A k → w'.heap[k]? = w.heap[k]?) : CadAt w' gs A' (n + 1) c' (ls ++ [l]) (es ++ [newE r now]) := by
  obtain ⟨T, t0, t1, tl⟩ := h.tag
  have nr := CadAt.noRow h
  obtain ⟨ge1, ge2⟩ := hm.ge
  have hl := h.len
  refine ⟨hb, by rw [List.map_append]; exact hr, by simp [hl], ?_, ?_, ?_⟩
  · intro i m e hi he
    rw [List.getElem?_append] at hi he
    by_cases q : i < ls.length
    · rw [if_pos q] at hi
      rw [if_pos (by omega)] at he
      have mm := List.mem_of_getElem? hi
      obtain ⟨l1, l2⟩ := h.lts mm
      obtain ⟨c1, c2, c3⟩ := h.ent i m e hi he
      obtain ⟨n1, n2, n3⟩ := nr.2 m mm
      exact ⟨(hx m.g l1 n2 n1).trans c1, fun p hp => has_same (c2 p hp) (hx p.1 (l2 p hp).1 (n3 p hp).2.2.1 (n3 p hp).1) (hx p.2 (l2 p hp).2 (n3 p hp).2.2.2 (n3 p hp).2.1), c3⟩
    · rw [if_neg q] at hi
      rw [if_neg (by omega)] at he
      have z1 := (List.getElem?_eq_some_iff.1 hi).1
      simp at z1
      have z : i - ls.length = 0 := by omega
      have z2 : i - es.length = 0 := by omega
      rw [z] at hi
      rw [z2] at he
      obtain rfl := Option.some.inj hi
      obtain rfl := Option.some.inj he
      exact ⟨hm.blk, hm.win, hm.out, ⟨hmay, hnow, Int.le_refl 0, by show (0 : Nat) < Q64; unfold Q64; omega, fun _ => by show (0 : Nat) ≤ _; omega⟩⟩
  · have hg : gs < w.heap.size := Blk.lt h.blk
    refine ⟨fun k => if k < w.heap.size then T k else if k = l.g then (2, l.g) else if (l.w.map (·.1)) = some k then (3, l.g) else if (l.w.map (·.2)) = some k then (4, l.g) else (1, 0), (if_pos hg).trans t0, fun k hk => ?_, fun m hm' => ?_⟩
    · rcases hA with rfl | ⟨k0, rfl, z1, z2, z3⟩
      · dsimp only
        rw [if_pos (h.row.row.lt hk)]
        exact t1 k hk
      · obtain ⟨a, e, rfl⟩ := hk
        cases e
        dsimp only
        rw [if_neg (by omega), if_neg z2, if_neg, if_neg]
        · intro q
          cases hw : l.w with
          | none => rw [hw] at q; cases q
          | some p =>
            rw [hw] at q
            simp at q
            exact (z3 p hw).2 q.symm
        · intro q
          cases hw : l.w with
          | none => rw [hw] at q; cases q
          | some p =>
            rw [hw] at q
            simp at q
            exact (z3 p hw).1 q.symm
    · rcases List.mem_append.1 hm' with q | q
      · obtain ⟨a, b⟩ := tl m q
        obtain ⟨l1, l2⟩ := h.lts q
        exact ⟨(if_pos l1).trans a, fun p hp => ⟨(if_pos (l2 p hp).1).trans (b p hp).1, (if_pos (l2 p hp).2).trans (b p hp).2⟩⟩
      · obtain rfl := List.mem_singleton.1 q
        refine ⟨(if_neg (by omega)).trans (if_pos rfl), fun p hp => ?_⟩
        obtain ⟨y1, y2, y3, y4, y5⟩ := ge2 p hp
        dsimp only
        rw [if_neg (by omega), if_neg y3, hp, if_pos (by simp), if_neg (by omega), if_neg y4, if_neg (by simp [y5]), if_pos (by simp)]
        exact ⟨rfl, rfl⟩
  · rw [List.map_append]
    refine List.nodup_append.2 ⟨h.nodup, by simp, fun a ha b hb e => ?_⟩
    obtain ⟨m, hm', rfl⟩ := List.mem_map.1 ha
    have : b = l.g := by simpa using hb
    have := (h.lts hm').1
    omega
theorem add_nil (now : Int) (r : LifeR) (w : World) : Calls Tryd.prog 15 #[.pointer none, .int .i64 now, .agg #[.int .i64 r.x0, .string r.x1, .string r.x2, .string r.x3, .bool r.x4, .int .i64 r.x5, .int .i64 r.x6, .bool r.x7, .int .i64 r.x8, .int .i64 r.x9, .int .i64 r.x10, .int .i64 r.x11]] w fun e w' => e = .returned (.int .i64 3) ∧ Below w.heap.size w w' := by
  have B0 := Lib.hid ((Below.refl w.heap.size w).alloc (Nat.le_refl _) (.cells #[.int .i64 r.x0, .string r.x1, .string r.x2, .string r.x3, .bool r.x4, .int .i64 r.x5, .int .i64 r.x6, .bool r.x7, .int .i64 r.x8, .int .i64 r.x9, .int .i64 r.x10, .int .i64 r.x11] 34))
  go_enter Tryd.func15, Tryd.ntmps15
  go_wp2_with fail
  go_ret
  exact ⟨rfl, B0.out⟩
set_option maxHeartbeats 4000000 in
theorem add_c (gs : Nat) (A : Option Addr) (n c : Nat) (ls : List CSpot) (es : List Ent) (now : Int) (r : LifeR) (w : World) (h : CadAt w gs A n c ls es) (hn : es.length ≤ 1000000) :
    Calls Tryd.prog 15 #[.pointer (some ⟨gs, 0, none⟩), .int .i64 now, .agg #[.int .i64 r.x0, .string r.x1, .string r.x2, .string r.x3, .bool r.x4, .int .i64 r.x5, .int .i64 r.x6, .bool r.x7, .int .i64 r.x8, .int .i64 r.x9, .int .i64 r.x10, .int .i64 r.x11]] w fun er w' => er = .returned (.int .i64 ((addS now r es).1 : Int)) ∧ (∃ A' n' c' ls', CadAt w' gs A' n' c' ls' (addS now r es).2 ∧ (∀ k, own A' k → own A k ∨ w.heap.size ≤ k) ∧ ∀ l ∈ ls', l ∈ ls ∨ (w.heap.size ≤ l.g ∧ ∀ p, l.w = some p → w.heap.size ≤ p.1 ∧ w.heap.size ≤ p.2)) ∧ Keep (fun k => ¬ Mine gs A ls k) w w' := by
  have VC := Lib.hid (fun W => valid_c r W)
  have B0 := (Below.refl w.heap.size w).alloc (Nat.le_refl _) (.cells #[.int .i64 r.x0, .string r.x1, .string r.x2, .string r.x3, .bool r.x4, .int .i64 r.x5, .int .i64 r.x6, .bool r.x7, .int .i64 r.x8, .int .i64 r.x9, .int .i64 r.x10, .int .i64 r.x11] 34)
  have K0 := Lib.hid (Blk.new w 34 #[.int .i64 r.x0, .string r.x1, .string r.x2, .string r.x3, .bool r.x4, .int .i64 r.x5, .int .i64 r.x6, .bool r.x7, .int .i64 r.x8, .int .i64 r.x9, .int .i64 r.x10, .int .i64 r.x11])
  have HH := Lib.hid h
  have H0 := Lib.hid (h.up B0)
  have BB := Lib.hid B0
  have NN := Lib.hid h.num
  have N1 := Lib.hid hn
  obtain ⟨u, hu⟩ : ∃ u, u = addS now r es := ⟨_, rfl⟩
  rw [← hu]
  unfold addS at hu
  have EE := Lib.hid hu
  clear hu h hn B0
  have same : Hid (∀ W, Below w.heap.size w W → u.2 = es → (∃ A' n' c' ls', CadAt W gs A' n' c' ls' u.2 ∧ (∀ k, own A' k → own A k ∨ w.heap.size ≤ k) ∧ ∀ l ∈ ls', l ∈ ls ∨ (w.heap.size ≤ l.g ∧ ∀ p, l.w = some p → w.heap.size ≤ p.1 ∧ w.heap.size ≤ p.2)) ∧ Keep (fun k => ¬ Mine gs A ls k) w W) := Lib.hid fun W hW e => ⟨⟨A, n, c, ls, by rw [e]; exact HH.out.up hW, fun _ h => .inl h, fun _ h => .inl h⟩, Keep.of hW⟩
  go_enter Tryd.func15, Tryd.ntmps15
  go_wp2_with (refine Store.at_load 34 (.tmp 5) ?_ ?_; exact rfl; refine Loads.wpList_load_w rfl 34 (.tmp 5) rfl w.heap.size rfl 34 #[.int .i64 r.x0, .string r.x1, .string r.x2, .string r.x3, .bool r.x4, .int .i64 r.x5, .int .i64 r.x6, .bool r.x7, .int .i64 r.x8, .int .i64 r.x9, .int .i64 r.x10, .int .i64 r.x11] (0, 0) _ (K0.out) Tryd.underlying34 rfl (by kernel_rfl) ?_)
  refine (VC.out _).mono ?_
  rintro e w1 ⟨rfl, hb⟩
  have H1 := Lib.hid (H0.out.up hb)
  have B1 := Lib.hid (BB.out.trans (hb.mono BB.out.size))
  have K1 := Lib.hid (Blk.below K0.out hb (Blk.lt K0.out))
  clear hb H0 BB K0 VC
  by_cases q0 : mayL r = true
  · have g0 : (!mayL r) = false := by rw [q0]; rfl
    have MY := Lib.hid q0
    by_cases q1 : now < 0
    · have g1 : decide (now < 0) = true := decide_eq_true q1
      have E : Hid (u = (1, es)) := Lib.hid (by rw [EE.out, if_pos (.inr q1)])
      clear EE q0 q1
      go_wp2_with fail
      go_ret
      exact ⟨by rw [E.out]; rfl, same.out _ B1.out (by rw [E.out])⟩
    · have g1 : decide (now < 0) = false := decide_eq_false q1
      have NW : Hid (0 ≤ now) := Lib.hid (by omega)
      have E2 : Hid (u = match findI r.x0 r.x7 es with | some _ => (9, es) | none => if 32 ≤ es.length then (7, es) else (0, es ++ [newE r now])) := Lib.hid (by rw [EE.out, if_neg (by rw [q0]; simp; omega)]; cases findI r.x0 r.x7 es <;> rfl)
      have FC := Lib.hid (find_c gs A n c ls es r.x0 r.x7 w1 H1.out (by have := N1.out; omega))
      have c0 : w1.cell? ⟨w.heap.size, 0, none⟩ = some (.int .i64 r.x0) := K1.out.cell 0
      have c7 : w1.cell? ⟨w.heap.size, 7, none⟩ = some (.bool r.x7) := K1.out.cell 7
      clear EE q0 q1
      go_wp2_with fail
      refine FC.out.mono ?_
      rintro e w2 ⟨rfl, hb⟩
      have H2 := Lib.hid (H1.out.up hb)
      have B2 := Lib.hid (B1.out.trans (hb.mono B1.out.size))
      have K2 := Lib.hid (Blk.below K1.out hb (Blk.lt K1.out))
      clear hb FC H1 B1 K1 c0 c7
      cases hf : findI r.x0 r.x7 es with
      | some i =>
        have E : Hid (u = (9, es)) := Lib.hid (by rw [E2.out, hf])
        clear E2 hf
        generalize foundV ls (some i) = fv at *
        unfold foundE
        go_wp2_with fail
        go_ret
        exact ⟨by rw [E.out]; rfl, same.out _ B2.out (by rw [E.out])⟩
      | none =>
        have E3 : Hid (u = if 32 ≤ es.length then (7, es) else (0, es ++ [newE r now])) := Lib.hid (by rw [E2.out, hf])
        have c0 : w2.cell? ⟨gs, 0, none⟩ = some (.slice A n c) := H2.out.blk.cell 0
        clear E2 hf
        unfold foundE foundV failV
        by_cases q3 : 32 ≤ n
        · have g3 : decide ((32 : Int) ≤ (n : Int)) = true := decide_eq_true (by omega)
          have g3' : decide (32 ≤ n) = true := decide_eq_true q3
          have E : Hid (u = (7, es)) := Lib.hid (by rw [E3.out, if_pos (by rw [← NN.out]; exact q3)])
          clear E3 q3
          go_wp2_with fail
          go_ret
          exact ⟨by rw [E.out]; rfl, same.out _ B2.out (by rw [E.out])⟩
        · have g3 : decide ((32 : Int) ≤ (n : Int)) = false := decide_eq_false (by omega)
          have g3' : decide (32 ≤ n) = false := decide_eq_false q3
          have N32 := Lib.hid (show n < 32 by omega)
          have E : Hid (u = (0, es ++ [newE r now])) := Lib.hid (by rw [E3.out, if_neg (by rw [← NN.out]; exact q3)])
          clear E3 q3 same
          go_wp2_with fail
          clear c0
          obtain ⟨cs, hcs⟩ : ∃ cs, cs = ls.map fun l => ptr l.g := ⟨_, rfl⟩
          have CSE := Lib.hid hcs
          clear hcs
          have R0 : Hid (RowZ w2 A n c cs) := Lib.hid (by rw [CSE.out]; exact H2.out.row)
          obtain ⟨S0, hS0⟩ : ∃ S0, S0 = w2.heap.size := ⟨_, rfl⟩
          have SZ := Lib.hid hS0
          clear hS0
          have OWN : Hid (∀ k, S0 ≤ k → ¬ own A k) := Lib.hid fun k hk z => by
            have := R0.out.row.lt z
            have := SZ.out
            omega
          have NB : Hid (¬ own A w.heap.size) := Lib.hid fun z => by
            have := HH.out.row.row.lt z
            omega
          have NO := Lib.hid (CadAt.noRow H2.out).1
          have SZ' : Hid (S0 ≤ w2.drew.heap.size) := Lib.hid (by rw [SZ.out]; exact Nat.le_refl _)
          have XS : Hid (∀ V, Gr A n cs w2.drew V → Blk V gs 60 #[.slice A n c]) := Lib.hid fun V hV => hV.blk (show Blk w2.drew gs _ _ from H2.out.blk) NO.out
          have XR : Hid (∀ V, Gr A n cs w2.drew V → Blk V w.heap.size 34 #[.int .i64 r.x0, .string r.x1, .string r.x2, .string r.x3, .bool r.x4, .int .i64 r.x5, .int .i64 r.x6, .bool r.x7, .int .i64 r.x8, .int .i64 r.x9, .int .i64 r.x10, .int .i64 r.x11]) := Lib.hid fun V hV => hV.blk (show Blk w2.drew w.heap.size _ _ from K2.out) NB.out
          have MC := Lib.hid (fun W => made_c r now W MY.out)
          refine FreeO.wp_region_freeO [0, 1, 2, 3, 4, 5, 6, 7, 8, 9] 10 [11, 12] [] (fun j V => j = 9 → RowZ V A n c cs) (Gr A n cs) (fun k' w' v => match k' with
            | 0 => v = .pointer (some ⟨gs, 0, none⟩)
            | 1 => v = .pointer (some ⟨gs, 0, none⟩)
            | 2 => v = .pointer (some ⟨gs, 0, none⟩)
            | 3 => v = .pointer (some ⟨gs, 0, none⟩)
            | 4 => v = .slice A n c
            | 5 => v = .int .i64 now
            | 6 => v = .agg #[.int .i64 r.x0, .string r.x1, .string r.x2, .string r.x3, .bool r.x4, .int .i64 r.x5, .int .i64 r.x6, .bool r.x7, .int .i64 r.x8, .int .i64 r.x9, .int .i64 r.x10, .int .i64 r.x11]
            | 7 => ∃ l, v = ptr l.g ∧ MadeIn S0 w' r now l
            | 8 => ∃ l vb, v = .slice (some ⟨vb, 0, none⟩) 1 1 ∧ Blk w' vb RT #[ptr l.g] ∧ S0 ≤ vb ∧ MadeIn S0 w' r now l
            | _ => ∃ l A' c', v = .slice A' (n + 1) c' ∧ RowZ w' A' (n + 1) c' (cs ++ [ptr l.g]) ∧ (A' = A ∨ ∃ k, A' = some ⟨k, 0, none⟩ ∧ S0 ≤ k ∧ k ≠ l.g ∧ ∀ p, l.w = some p → k ≠ p.1 ∧ k ≠ p.2) ∧ MadeIn S0 w' r now l) (by kernel_rfl) (by kernel_rfl) (fun q hq => by cases hq) (Gr.refl _) (fun j hj e => R0.out.keep fun _ _ _ => rfl) (fun _ _ _ h k => h.trans k) (fun k' w1 w2 v h => match k' with
            | 0 => fun x => x
            | 1 => fun x => x
            | 2 => fun x => x
            | 3 => fun x => x
            | 4 => fun x => x
            | 5 => fun x => x
            | 6 => fun x => x
            | 7 => fun ⟨l, e1, e2⟩ => ⟨l, e1, e2.keep fun k hk hlt => h.1.block k (OWN.out k hk) hlt⟩
            | 8 => fun ⟨l, vb, e1, e2, e3, e4⟩ => ⟨l, vb, e1, h.blk e2 (OWN.out vb e3), e3, e4.keep fun k hk hlt => h.1.block k (OWN.out k hk) hlt⟩
            | _ + 9 => fun ⟨l, A', c', e1, e2, e3, e4⟩ => ⟨l, A', c', e1, h.2 A' c' _ e2, e3, e4.keep fun k hk hlt => h.1.block k (OWN.out k hk) hlt⟩) (fun _ _ _ _ _ h => h) ?_ _ (by rfl) ?_
          · refine FreeO.obsO_cons (by rfl) (fun vals w' hgr hN hdep K hK => ?_) (FreeO.obsO_cons (by rfl) (fun vals w' hgr hN hdep K hK => ?_) (FreeO.obsO_cons (by rfl) (fun vals w' hgr hN hdep K hK => ?_) (FreeO.obsO_cons (by rfl) (fun vals w' hgr hN hdep K hK => ?_) (FreeO.obsO_cons (by rfl) (fun vals w' hgr hN hdep K hK => ?_) (FreeO.obsO_cons (by rfl) (fun vals w' hgr hN hdep K hK => ?_) (FreeO.obsO_cons (by rfl) (fun vals w' hgr hN hdep K hK => ?_) (FreeO.obsO_cons (by rfl) (fun vals w' hgr hN hdep K hK => ?_) (FreeO.obsO_cons (by rfl) (fun vals w' hgr hN hdep K hK => ?_) (FreeO.obsO_cons (by rfl) (fun vals w' hgr hN hdep K hK => ?_) (FreeO.obsO_nil))))))))))
            · exact wp_move (.tmp 0) rfl _ (at_out _ (by kernel_rfl) rfl) (hK _ _ (Gr.refl _) (fun _ _ _ h => h) rfl)
            · exact wp_move (.tmp 0) rfl _ (at_out _ (by kernel_rfl) rfl) (hK _ _ (Gr.refl _) (fun _ _ _ h => h) rfl)
            · exact MapS.st_nil (.tmp 37) rfl _ ((at_dst 1 (by kernel_rfl)).trans (hdep 1 (by simp) (by kernel_rfl))) (hK _ _ (Gr.refl _) (fun _ _ _ h => h) rfl)
            · exact wp_field (.tmp 38) rfl _ _ ((at_dst 2 (by kernel_rfl)).trans (hdep 2 (by simp) (by kernel_rfl))) (by kernel_rfl) (hK _ _ (Gr.refl _) (fun _ _ _ h => h) rfl)
            · exact wp_load1 (.tmp 39) rfl ⟨gs, 0, none⟩ ((at_dst 3 (by kernel_rfl)).trans (hdep 3 (by simp) (by kernel_rfl))) Tryd.underlying58 rfl _ ((XS.out w' hgr).cell 0) (hK _ _ (Gr.refl _) (fun _ _ _ h => h) rfl)
            · exact wp_move (.tmp 1) rfl _ (at_out _ (by kernel_rfl) rfl) (hK _ _ (Gr.refl _) (fun _ _ _ h => h) rfl)
            · exact Part.st_load_part 34 (.tmp 5) rfl w.heap.size 0 [.int .i64 r.x0, .string r.x1, .string r.x2, .string r.x3, .bool r.x4, .int .i64 r.x5, .int .i64 r.x6, .bool r.x7, .int .i64 r.x8, .int .i64 r.x9, .int .i64 r.x10, .int .i64 r.x11] (at_out _ (by kernel_rfl) rfl) (Part.run_part _ _ _ _ _ _ Tryd.underlying34 rfl (by kernel_rfl) (blk_part (XR.out w' hgr) 0 12)) (hK _ _ (Gr.refl _) (fun _ _ _ h => h) rfl)
            · refine wp_call 33 [.tmp 41, .tmp 42] _ rfl (enters_of Tryd.func33 (by kernel_rfl) rfl) [.int .i64 now, .agg #[.int .i64 r.x0, .string r.x1, .string r.x2, .string r.x3, .bool r.x4, .int .i64 r.x5, .int .i64 r.x6, .bool r.x7, .int .i64 r.x8, .int .i64 r.x9, .int .i64 r.x10, .int .i64 r.x11]] (Draw.list2 ((at_dst 5 (by kernel_rfl)).trans (hdep 5 (by simp) (by kernel_rfl))) ((at_dst 6 (by kernel_rfl)).trans (hdep 6 (by simp) (by kernel_rfl)))) (fun v w'' => (∃ l, v = ptr l.g ∧ MadeIn S0 w'' r now l) ∧ Below w'.heap.size w' w'') ((MC.out w').mono ?_) (fun v w'' ⟨h1, h2⟩ => hK _ _ (Gr.of h2) (fun j _ _ hn e => (hn e).below h2) h1)
              rintro e w'' ⟨l, rfl, h2⟩
              have z := Nat.le_trans SZ'.out hgr.1.size
              exact ⟨_, rfl, ⟨l, rfl, h2.blk, h2.win, h2.out, Nat.le_trans z h2.ge.1, fun p hp => ⟨Nat.le_trans z (h2.ge.2 p hp).1, Nat.le_trans z (h2.ge.2 p hp).2.1, (h2.ge.2 p hp).2.2⟩⟩, h2.bel⟩
            · obtain ⟨l, e7, m7⟩ := hdep 7 (by simp) (by kernel_rfl)
              have BL := (Below.refl w'.heap.size w').alloc (Nat.le_refl _) (.cells #[ptr l.g] RT)
              exact st_one (.tmp 43) rfl l.g ((at_dst 7 (by kernel_rfl)).trans e7) (hK _ _ (Gr.of BL) (fun j _ _ hn e => (hn e).below BL) ⟨l, _, rfl, Blk.new _ _ _, Nat.le_trans SZ'.out hgr.1.size, m7.keep fun k _ hlt => BL.block k hlt⟩)
            · obtain ⟨l, vb, e8, k8, l8, m8⟩ := hdep 8 (by simp) (by kernel_rfl)
              obtain ⟨A', c', w3, hrun, q1, q2, q3, q4⟩ := append_ptr (hN rfl) k8 (by have := N32.out; omega)
              refine st_append (.tmp 40) (.tmp 44) rfl _ _ _ ((at_dst 4 (by kernel_rfl)).trans (hdep 4 (by simp) (by kernel_rfl))) ((at_dst 8 (by kernel_rfl)).trans e8) hrun (hK _ _ ⟨q3, q4⟩ (fun j _ hne _ e => absurd e hne) ⟨l, A', c', rfl, q1, q2.imp id ?_, m8.keep fun k hk hlt => q3.block k (OWN.out k hk) hlt⟩)
              rintro ⟨k, e1, e2⟩
              have a1 := Blk.lt m8.blk
              exact ⟨k, e1, Nat.le_trans (Nat.le_trans SZ'.out hgr.1.size) e2, by omega, fun p hp => by
                have := has_lt (m8.win p hp)
                omega⟩
          · intro vals w' hgr hG
            obtain ⟨l, A', c', e9, hrow, hA, hmd⟩ := hG 9 (by simp)
            have TB := Lib.hid (XS.out w' hgr)
            have OLD : Hid (∀ k, k < w2.heap.size → ¬ own A k → w'.heap[k]? = w2.heap[k]?) := Lib.hid fun k hk hn => hgr.1.block k hn hk
            have KK := Lib.hid hgr.1
            refine MapS.st_nil (.tmp 36) rfl ⟨gs, 0, none⟩ ((at_dst 0 (by kernel_rfl)).trans (hG 0 (by simp))) ?_
            refine wpAnyH_next 11 _ rfl rfl (by kernel_rfl) (wp_field (.tmp 46) rfl _ (.pointer (some ⟨gs, 0, none⟩)) (put_tmps_eq (fill_size _ _ _) (by kernel_rfl)) (by kernel_rfl) ⟨trivial, ?_⟩)
            refine wpAnyH_next 12 _ rfl rfl (by kernel_rfl) (st_store_run 58 (.tmp 47) (.tmp 45) rfl ⟨gs, 0, none⟩ (put_tmps_eq (put_size (fill_size _ _ _)) (by kernel_rfl)) _ (put_tmps_ne (by rfl) (put_tmps_ne (by rfl) ((at_dst 9 (by kernel_rfl)).trans e9))) (Store.run_store_one TB.out (by simp) (by kernel_rfl) rfl #[.slice A' (n + 1) c'] rfl rfl) ⟨trivial, wpAnyH_done (by kernel_rfl) ?_ _⟩)
            have RW := Lib.hid hrow
            have HA := Lib.hid hA
            have MD := Lib.hid hmd
            clear hG hgr hrow hA hmd e9 XS XR OWN SZ' MC R0 K2
            simp only [fill, dstAt, List.getElem?_cons_zero, List.getElem?_cons_succ, Option.bind_some, Act.put, List.setIfInBounds_toArray, List.set_cons_zero, List.set_cons_succ]
            generalize vals 0 = z0, vals 1 = z1, vals 2 = z2, vals 3 = z3, vals 4 = z4, vals 5 = z5, vals 6 = z6, vals 7 = z7, vals 8 = z8, vals 9 = z9 at *
            generalize w' = w5 at *
            go_wp2_with fail
            go_ret
            have s2 := B2.out.size
            have gl : gs < w2.heap.size := Blk.lt H2.out.blk
            have ngs : ∀ k, own A' k → k ≠ gs := fun k hk z => by
              subst z
              rcases HA.out with e | ⟨k0, e, z1, _⟩
              · rw [e] at hk; exact NO.out hk
              · obtain ⟨a, ea, eb⟩ := hk
                rw [e] at ea
                cases ea
                have eb' : k0 = k := eb
                have := SZ.out
                omega
            have MD2 : MadeIn w2.heap.size (w5.setRow gs #[.slice A' (n + 1) c']) r now l := by
              have m := MD.out
              rw [SZ.out] at m
              exact m.keep fun k hk _ => setRow_other _ _ _ _ (by omega)
            refine ⟨by rw [E.out]; rfl, ⟨A', n + 1, c', ls ++ [l], ?_, fun k hk => ?_, fun m hm => ?_⟩, ⟨KK.out.os.trans B2.out.os, KK.out.tape.trans B2.out.tape, KK.out.output.trans B2.out.output, ?_, fun k hf hk => ?_⟩⟩
            · rw [E.out]
              refine CadAt.push H2.out MD2 MY.out NW.out (setRow_heap _ _ _ _ _ _ TB.out) ?_ ?_ fun k hk k1 k2 => (setRow_other _ _ _ _ k1).trans (OLD.out k hk k2)
              · rw [← CSE.out]
                exact RW.out.keep fun k hk _ => setRow_other _ _ _ _ (ngs k hk)
              · have := HA.out
                rw [SZ.out] at this
                exact this
            · rcases HA.out with e | ⟨k0, e, z1, _⟩
              · rw [e] at hk; exact .inl hk
              · obtain ⟨a, ea, rfl⟩ := hk
                rw [e] at ea
                cases ea
                refine .inr ?_
                have := SZ.out
                show w.heap.size ≤ k0
                omega
            · rcases List.mem_append.1 hm with q | q
              · exact .inl q
              · obtain rfl := List.mem_singleton.1 q
                refine .inr ⟨Nat.le_trans s2 MD2.ge.1, fun p hp => ⟨Nat.le_trans s2 (MD2.ge.2 p hp).1, Nat.le_trans s2 (MD2.ge.2 p hp).2.1⟩⟩
            · have := KK.out.size
              have : w2.drew.heap.size = w2.heap.size := rfl
              simp [World.setRow]
              omega
            · exact (setRow_other _ _ _ _ (fun z => hf (.inl z))).trans ((OLD.out k (Nat.lt_of_lt_of_le hk s2) (fun z => hf (.inr (.inl z)))).trans (B2.out.block k hk))
  · have g0 : (!mayL r) = true := by simpa using q0
    have E : Hid (u = (1, es)) := Lib.hid (by rw [EE.out, if_pos (.inl (by simpa using q0))])
    clear EE q0
    go_wp2_with fail
    go_ret
    exact ⟨by rw [E.out]; rfl, same.out _ B1.out (by rw [E.out])⟩
end Go.Proofs.YtppnkkpjfjhfkaaDoor.Cad10

