/- A script of calls: the two tables side by side, and the call's box. -/
import Derived.Test.YtnabjhdamofpgaaLawS18
import Derived.Test.YtnabjhdamofpgaaFew18
import Derived.Test.YtnabjhdamofpgaaTabR5
import Derived.Test.YtnabjhdamofpgaaTabR6
import Derived.Test.YtnabjhdamofpgaaSame18
set_option linter.unusedVariables false
namespace Go.Proofs.Ytnabjhdamofpgaa.LawDoesE
open Go.RowKit Go.PlainAid Go.Proofs.Ytnabjhdamofpgaa.Sums Go.Proofs.Ytnabjhdamofpgaa.Mem Go.Proofs.Ytnabjhdamofpgaa.Blk Go.Proofs.Ytnabjhdamofpgaa.Grp Go.Proofs.Ytnabjhdamofpgaa.AdrD Go.Proofs.Ytnabjhdamofpgaa.AdrR Go.Proofs.Ytnabjhdamofpgaa.Steps Go.Proofs.Ytnabjhdamofpgaa.Com Go.Proofs.Ytnabjhdamofpgaa.RowN Go.Proofs.Ytnabjhdamofpgaa.RowA Go.Proofs.Ytnabjhdamofpgaa.ArgT Go.Proofs.Ytnabjhdamofpgaa.TabD Go.Proofs.Ytnabjhdamofpgaa.TabOps Go.Proofs.Ytnabjhdamofpgaa.TabM Go.Proofs.Ytnabjhdamofpgaa.Free Go.Proofs.Ytnabjhdamofpgaa.RtD Go.Proofs.Ytnabjhdamofpgaa.Rt4 Go.Proofs.Ytnabjhdamofpgaa.Rt7 Go.Proofs.Ytnabjhdamofpgaa.Rt9 Go.Proofs.Ytnabjhdamofpgaa.RtA Go.Proofs.Ytnabjhdamofpgaa.LawS18 Go.Proofs.Ytnabjhdamofpgaa.TabR3 Go.Proofs.Ytnabjhdamofpgaa.TabR5 Go.Proofs.Ytnabjhdamofpgaa.TabR6 Go.Proofs.Ytnabjhdamofpgaa.Few18 Go.Proofs.Ytnabjhdamofpgaa.Part

abbrev TO : TypeId := 35
def routeOf (o : Op18R) : RouteR := ⟨o.x1, o.x2, o.x3, o.x4⟩
theorem op_at {w : World} {b : Nat} {o : Op18R} (h : Blk w b 35 (opCs o)) : At w b 0 (opCs o).toList := fun j v hj => by
  rw [Nat.zero_add, h.cell, ← Array.getElem?_toList]
  exact hj
theorem load_routeO {w : World} {b : Nat} {o : Op18R} (h : Blk w b 35 (opCs o)) : (loadVar 33 ⟨b, 1, none⟩).run Try.prog w = .ok (.agg (RA (routeOf o))) w :=
  run_part w b 1 33 (routeOf o).cells _ Try.underlying33 rfl (by kernel_rfl) ((op_at h).sub 1 4)
theorem load_prefO {w : World} {b : Nat} {o : Op18R} (h : Blk w b 35 (opCs o)) : (loadVar 31 ⟨b, 1, none⟩).run Try.prog w = .ok (.agg #[.string o.x1, .int .i64 o.x2]) w :=
  run_part w b 1 31 [.string o.x1, .int .i64 o.x2] _ Try.underlying31 rfl (by kernel_rfl) ((op_at h).sub 1 2)
theorem b_neqE (a m : Int) (x y : Operand) (w : World) : (do eqGuard .neq 36 x y (.int .i64 a) (.int .i64 m); binOp .neq 36 (.int .i64 a) (.int .i64 m) : Sem Value).run Try.prog w = .ok (.bool (a != m)) w := by
  simp [go_sem, eqGuard]
theorem st_not {o : Oper} {a : Act} {w : World} {K : Act → World → Prop} {Q : Exit → Act → World → Prop} {ty : TypeId} (x : Operand) (ho : o.op = .unOp .not ty x) (b : Bool) (hx : a.eval x = .bool b) (hK : K (a.put o.dst (.bool (!b))) w) : Step Try.prog o a w K Q :=
  wp_value (.bool (!b)) (by simp [execOp, ho, hx, Op.unary]) hK
theorem ent_sAdd : Enters Try.prog 10 := enters_of Try.func10 (by kernel_rfl) rfl
theorem ent_sRemove : Enters Try.prog 12 := enters_of Try.func12 (by kernel_rfl) rfl
theorem ent_sList : Enters Try.prog 17 := enters_of Try.func17 (by kernel_rfl) rfl
theorem ent_xAdd : Enters Try.prog 11 := enters_of Try.func11 (by kernel_rfl) rfl
theorem ent_xRemove : Enters Try.prog 13 := enters_of Try.func13 (by kernel_rfl) rfl
theorem ent_same : Enters Try.prog 16 := enters_of Try.func16 (by kernel_rfl) rfl

theorem list_rows {w : World} {A : Option Addr} {rs : List RouteR} (h : ListAt w A rs) (ok : ∀ r ∈ rs, GoodR r) : RouteRows w A rs.length rs := by
  obtain ⟨g, rfl, hlt, hat⟩ := h.at
  refine ⟨rfl, fun _ => ⟨g, 0, rfl, hlt, fun k r hr => ⟨?_, fun j v hj => hat k r hr j v hj⟩⟩⟩
  have := good_size (ok r (List.mem_of_getElem? hr))
  exact ⟨by omega, by omega⟩
theorem rows_below {w w' : World} {A : Option Addr} {n : Nat} {rs : List RouteR} (h : RouteRows w A n rs) (hb : Below w.heap.size w w') : RouteRows w' A n rs :=
  ⟨h.1, fun hn => by
    obtain ⟨b, o, e, hlt, hall⟩ := h.2 hn
    exact ⟨b, o, e, Nat.lt_of_lt_of_le hlt hb.size, fun k r hr => ⟨(hall k r hr).1, fun j v hj => (hb.cell (p := ⟨b, o + k * 4 + j, none⟩) hlt).trans ((hall k r hr).2 j v hj)⟩⟩⟩
/-- The document's row, as it is passed. -/
theorem tab_rows {F : Nat → Prop} {w : World} {u : Nat} {rs : List RouteR} (h : TabAt F w u rs) : ∃ A c, w.cell? ⟨u, 0, none⟩ = some (.slice A rs.length c) ∧ RouteRows w A rs.length rs := by
  obtain ⟨⟨A, c, h1, h2, -⟩, ok, few⟩ := h
  refine ⟨A, c, h1.cell 0, rfl, fun hn => ?_⟩
  have hl := h2.row.lies
  rcases hl with ⟨-, hc⟩ | ⟨b, X, e, hX, -⟩
  · have := h2.row.le; omega
  · subst e
    refine ⟨b, 0, rfl, hX.lt, fun k r hr => ⟨?_, fun j v hj => ?_⟩⟩
    · have := ok r (List.mem_of_getElem? hr)
      unfold Ok at this
      exact ⟨by omega, by omega⟩
    · rw [Nat.zero_add]
      exact row_route h2.row hr j v hj
/-- Both tables, and the box of the call at b. -/
structure Mid (w0 : World) (g u b : Nat) (o : Op18R) (xs ys : List RouteR) (V : World) : Prop where
  two : Two (RtX g xs) (TbX u ys) (fun k => k < w0.heap.size ∨ k = b) V
  bel : Below w0.heap.size w0 V
  box : Blk V b 35 (opCs o)
section
variable {w0 V V' : World} {g u b : Nat} {o : Op18R} {xs ys xs' ys' : List RouteR}
theorem Mid.up (h : Mid w0 g u b o xs ys V) (hb : Below V.heap.size V V') : Mid w0 g u b o xs ys V' :=
  ⟨h.two.up (rt_obj _ _) (tab_obj _ _) hb, h.bel.trans (hb.mono h.bel.size), h.box.below hb h.box.lt⟩
theorem Mid.keep (h : Mid w0 g u b o xs ys V) (t : Two (RtX g xs') (TbX u ys') (fun k => k < w0.heap.size ∨ k = b) V') (k : Keep (fun k => k < w0.heap.size ∨ k = b) V V') : Mid w0 g u b o xs' ys' V' :=
  ⟨t, h.bel.trans (k.below h.bel.size fun j hj => .inl hj), (k.block b (.inr rfl) h.box.lt).trans h.box⟩
theorem Mid.sadd (h : Mid w0 g u b o xs ys V) (f : fitsOp o) : Calls Try.prog 10 #[.pointer (some ⟨g, 0, none⟩), .agg (RA (routeOf o))] V fun e V' => e = .returned (.int .i64 (addE xs o.x1 o.x2 o.x3 o.x4)) ∧ Mid w0 g u b o (addL xs o.x1 o.x2 o.x3 o.x4) ys V' := by
  unfold fitsOp at f
  refine (Two.call (R := fun e _ => e = .returned (.int .i64 (addE xs o.x1 o.x2 o.x3 o.x4))) (X' := RtX g (addL xs o.x1 o.x2 o.x3 o.x4)) (tab_obj _ _) h.two fun F hx hF => (Rt6.add_c F g xs (routeOf o) V hx hF (show o.x1.size ≤ maxLen by unfold maxLen; omega) (show o.x3.size ≤ maxLen by unfold maxLen; omega)).mono fun e w' ⟨a, b, c⟩ => ⟨⟨a, b⟩, c⟩).mono fun e V' ⟨h1, h2, h3⟩ => ⟨h1, h.keep h2 h3⟩
theorem Mid.srem (h : Mid w0 g u b o xs ys V) (f : fitsOp o) : Calls Try.prog 12 #[.pointer (some ⟨g, 0, none⟩), .agg #[.string o.x1, .int .i64 o.x2]] V fun e V' => e = .returned (.int .i64 (remE xs o.x1 o.x2)) ∧ Mid w0 g u b o (remL xs o.x1 o.x2) ys V' := by
  unfold fitsOp at f
  refine (Two.call (R := fun e _ => e = .returned (.int .i64 (remE xs o.x1 o.x2))) (X' := RtX g (remL xs o.x1 o.x2)) (tab_obj _ _) h.two fun F hx hF => (Rt4.remove_c F g xs o.x1 o.x2 V hx hF (by unfold maxLen; omega)).mono fun e w' ⟨a, b, c⟩ => ⟨⟨a, b⟩, c⟩).mono fun e V' ⟨h1, h2, h3⟩ => ⟨h1, h.keep h2 h3⟩
theorem Mid.xadd (h : Mid w0 g u b o xs ys V) (f : fitsOp o) : Calls Try.prog 11 #[.pointer (some ⟨u, 0, none⟩), .agg (RA (routeOf o))] V fun e V' => e = .returned (.int .i64 (addE ys o.x1 o.x2 o.x3 o.x4)) ∧ Mid w0 g u b o xs (addL ys o.x1 o.x2 o.x3 o.x4) V' := by
  unfold fitsOp at f
  refine (Two.call (R := fun e _ => e = .returned (.int .i64 (addE ys o.x1 o.x2 o.x3 o.x4))) (X' := TbX u (addL ys o.x1 o.x2 o.x3 o.x4)) (rt_obj _ _) h.two.swap fun F hx hF => (TabR5.add_ref F u ys (routeOf o) V hx hF (show o.x1.size ≤ 300 by omega) (show o.x3.size ≤ 300 by omega)).mono fun e w' ⟨a, b, c⟩ => ⟨⟨a, b⟩, c⟩).mono fun e V' ⟨h1, h2, h3⟩ => ⟨h1, h.keep h2.swap h3⟩
theorem Mid.xrem (h : Mid w0 g u b o xs ys V) (f : fitsOp o) : Calls Try.prog 13 #[.pointer (some ⟨u, 0, none⟩), .agg #[.string o.x1, .int .i64 o.x2]] V fun e V' => e = .returned (.int .i64 (remE ys o.x1 o.x2)) ∧ Mid w0 g u b o xs (remL ys o.x1 o.x2) V' := by
  unfold fitsOp at f
  refine (Two.call (R := fun e _ => e = .returned (.int .i64 (remE ys o.x1 o.x2))) (X' := TbX u (remL ys o.x1 o.x2)) (rt_obj _ _) h.two.swap fun F hx hF => (TabR3.remove_ref F u ys o.x1 o.x2 V hx hF (by omega)).mono fun e w' ⟨a, b, c⟩ => ⟨⟨a, b⟩, c⟩).mono fun e V' ⟨h1, h2, h3⟩ => ⟨h1, h.keep h2.swap h3⟩
theorem Mid.sfind (h : Mid w0 g u b o xs ys V) (f : fitsOp o) : Calls Try.prog 14 #[.pointer (some ⟨g, 0, none⟩), .string o.x5] V fun e V' => e = .returned (.tuple #[.agg (RA (findR xs o.x5)), .int .i64 (findE xs o.x5)]) ∧ Below V.heap.size V V' := by
  unfold fitsOp at f
  exact solo_find o.x5 h.two.fst (by unfold maxLen; omega)
theorem Mid.xfind (h : Mid w0 g u b o xs xs V) : Calls Try.prog 15 #[.pointer (some ⟨u, 0, none⟩), .string o.x5] V fun e V' => e = .returned (.tuple #[.agg (RA (findR xs o.x5)), .int .i64 (findE xs o.x5)]) ∧ Below V.heap.size V V' := by
  obtain ⟨F, h1, _⟩ := h.two.snd
  have q := find_ref F u xs o.x5 V h1
  obtain ⟨e1, e2⟩ := ref_same (solo_tab h.two.fst).1 o.x5
  rwa [e1, e2] at q
theorem Mid.slist (h : Mid w0 g u b o xs ys V) : Calls Try.prog 17 #[.pointer (some ⟨g, 0, none⟩)] V fun e V' => (∃ A, e = .returned (.slice A xs.length xs.length) ∧ RouteRows V' A xs.length xs) ∧ Below V.heap.size V V' :=
  (solo_list h.two.fst).mono fun e V' ⟨⟨A, h1, h2, _⟩, h4⟩ => ⟨⟨A, h1, list_rows h2 (solo_tab h.two.fst).1.good⟩, h4⟩
theorem Mid.xrow (h : Mid w0 g u b o xs ys V) : ∃ A c, V.cell? ⟨u, 0, none⟩ = some (.slice A ys.length c) ∧ RouteRows V A ys.length ys := by
  obtain ⟨F, h1, _⟩ := h.two.snd
  exact tab_rows h1
/-- Between two calls of a script. -/
def Both (w0 : World) (g u : Nat) (rs : List RouteR) (V : World) : Prop := Two (RtX g rs) (TbX u rs) (fun k => k < w0.heap.size) V
theorem Both.up (h : Both w0 g u xs V) (hb : Below V.heap.size V V') : Both w0 g u xs V' := Two.up (rt_obj _ _) (tab_obj _ _) h hb
theorem Both.mid (h : Both w0 g u xs V) (hV : Below w0.heap.size w0 V) (hb : Below V.heap.size V V') (J : Blk V' V.heap.size 35 (opCs o)) : Mid w0 g u V.heap.size o xs xs V' :=
  ⟨Two.below (rt_obj _ _) (tab_obj _ _) h hb fun k hk => hk.imp id fun e => by subst e; exact ⟨Nat.le_refl _, J.lt⟩, hV.trans (hb.mono hV.size), J⟩
theorem Mid.both (h : Mid w0 g u b o xs xs V) : Both w0 g u xs V := by
  obtain ⟨F, G, h1, h2, h3, h4, h5, h6⟩ := h.two
  exact ⟨F, G, h1, h2, h3, h4, h5, fun k hk => h6 k (.inl hk)⟩
theorem both_new {W W' : World} (hs : Solo (RtX g []) (fun k => k < w0.heap.size) W) (hw : w0.heap.size ≤ W.heap.size) (hb : Below W.heap.size W W') (J : Blk W' W.heap.size 29 #[.slice none 0 0]) : Both w0 g W.heap.size [] W' :=
  have t : TabAt (fun k => k < W.heap.size) W' W.heap.size [] :=
    { ex := ⟨none, 0, J, RowX.nil _ _ _, Nat.lt_irrefl _, fun k hk => (by obtain ⟨_, e, _⟩ := hk; cases e), fun hk => (by obtain ⟨_, e, _⟩ := hk; cases e)⟩
      ok := fun r hr => (by cases hr)
      few := Nat.zero_le _ }
  Solo.two (Y := TbX W.heap.size []) (rt_obj _ _) hs hb t fun k hk => Nat.lt_of_lt_of_le hk hw
end
end Go.Proofs.Ytnabjhdamofpgaa.LawDoesE
