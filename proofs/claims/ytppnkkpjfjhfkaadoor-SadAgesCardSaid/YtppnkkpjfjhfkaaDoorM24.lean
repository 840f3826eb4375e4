/- The code's window: the contracts of raise, Accept. -/
import Derived.Test.YtppnkkpjfjhfkaaDoorM23
import Derived.Test.YtppnkkpjfjhfkaaDoorM42
import Derived.Test.YtppnkkpjfjhfkaaDoorM01
import Derived.BigFrame
set_option linter.unusedVariables false
namespace Go.Proofs.YtppnkkpjfjhfkaaDoor.Rng3
open Go.RowKit Go.Proofs.YtppnkkpjfjhfkaaDoor.Sums Go.Proofs.YtppnkkpjfjhfkaaDoor.Mem Go.Proofs.YtppnkkpjfjhfkaaDoor.Blk Go.Proofs.YtppnkkpjfjhfkaaDoor.Longs Go.Proofs.YtppnkkpjfjhfkaaDoor.WinD Go.Proofs.YtppnkkpjfjhfkaaDoor.WinA Go.Proofs.YtppnkkpjfjhfkaaDoor.RngD Go.Proofs.YtppnkkpjfjhfkaaDoor.Rng1 Go.Proofs.YtppnkkpjfjhfkaaDoor.Rng2

theorem cells_put (gr : Nat) : ∀ (k : Nat) (r : List Bool) (o : Nat) (w : World), Blk w gr 4 (bools r) → Blk (w.setCells gr o (List.replicate k (.bool false))) gr 4 (bools (wipe r o k))
  | 0, _, _, _, h => h
  | k + 1, r, o, w, h => by
    rw [List.replicate_succ, World.setCells, wipe]
    refine cells_put gr k _ _ _ ?_
    rw [← bools_set]
    exact Blk.put h o _
theorem cells_only (g : Nat) : ∀ (vs : List Value) (o : Nat) (w : World), Only g w (w.setCells g o vs)
  | [], _, w => Only.refl g w
  | v :: vs, o, w => (Only.set w g o v).trans (cells_only g vs (o + 1) _)
theorem zero_bool (w : World) : (zeroValue 4).run Tryd.prog w = .ok (.bool false) w := by kernel_rfl
theorem clear_run {w : World} {gr o n c : Nat} {r : List Bool} (h : Blk w gr 4 (bools r)) (hn : 0 < n) (hl : o + n ≤ r.length) (ty : TypeId) :
    (Builtin.clear_ #[98] ty #[.slice (some ⟨gr, o, none⟩) n c]).run Tryd.prog w = .ok (.tuple #[]) (w.setCells gr o (List.replicate n (.bool false))) :=
  Lib.run_clear_slice w 98 4 ty (.bool false) Tryd.underlying98 zero_bool rfl rfl gr o n c hn
    (fun j hj => by rw [Blk.cell h, bools_get (by omega)]; rfl) (fun j hj => Blk.frozen h _)

/-- But for the window's two blocks all is as it was. -/
theorem but_only {g gr : Nat} {w w' : World} (h : Only gr w w') : But g (some gr) w w' := ⟨h.os, h.tape, h.output, by rw [h.size]; exact Nat.le_refl _, fun k _ _ hk => h.block k (fun e => hk (by rw [e]))⟩
theorem but_trans {g : Nat} {q : Option Nat} {w w' w2 : World} (h : But g q w w') (k : But g q w' w2) : But g q w w2 :=
  ⟨k.os.trans h.os, k.tape.trans h.tape, k.output.trans h.output, Nat.le_trans h.size k.size, fun i hi h1 h2 => (k.block i (Nat.lt_of_lt_of_le hi h.size) h1 h2).trans (h.block i hi h1 h2)⟩
theorem but_set (g o : Nat) (q : Option Nat) (w : World) (u : Value) : But g q w (w.setCell ⟨g, o, none⟩ u) := ⟨rfl, rfl, rfl, by simp, fun k _ hk _ => Below.heap_setCell w ⟨g, o, none⟩ u k hk⟩
theorem but_cell (g o gr : Nat) (w : World) (u : Value) : But g (some gr) w (w.setCell ⟨gr, o, none⟩ u) := ⟨rfl, rfl, rfl, by simp, fun k _ _ hk => Below.heap_setCell w ⟨gr, o, none⟩ u k (fun e => hk (by rw [e]))⟩

set_option maxHeartbeats 1000000 in
theorem raise_c (g gr S : Nat) (wd : Bool) (T : Nat) (r : List Bool) (n : Nat) (w : World) (h : Cw w g gr S wd T r) (hn : n < Q64) (hT : T < n) : Calls Tryd.prog 55 #[.pointer (some ⟨g, 0, none⟩), .int .u64 (n : Int)] w fun e w' => e = .returned (.tuple #[]) ∧ Cw w' g gr S wd n (moved S T n r) ∧ But g (some gr) w w' := by
  have c1 := h.c1
  have c2 := h.c2
  have P1 := Lib.hid (place_c g gr S wd T r (T + 1) w h (by unfold Q64 at hn ⊢; omega))
  have P2 := Lib.hid (place_c g gr S wd T r n w h hn)
  have sb := h.hi
  have sl := h.lo
  have RA : Hid (moved S T n r = if S ≤ n - T then wipe r 0 S else if (T + 1) % S ≤ n % S then wipe r ((T + 1) % S) (n % S + 1 - (T + 1) % S) else wipe (wipe r ((T + 1) % S) (S - (T + 1) % S)) 0 (n % S + 1)) := Lib.hid rfl
  have RL : Hid ((moved S T n r).length = S) := Lib.hid (by rw [moved_len, h.len])
  obtain ⟨R, hR⟩ : ∃ R, R = moved S T n r := ⟨_, rfl⟩
  rw [← hR] at RA RL ⊢
  have H := Lib.hid h
  have HN := Lib.hid hn
  unfold Q64 at hn
  have f1 : IntKind.u64.wrap ((T : Int) + 1) = ((T + 1 : Nat) : Int) := by rw [IntWalk.u64_in _ (by omega)]; rfl
  have f2 : IntKind.u64.wrap (S : Int) = (S : Int) := IntWalk.u64_in _ (by omega)
  obtain ⟨d, hd⟩ : ∃ d, d = n - T := ⟨_, rfl⟩
  have f3 : IntKind.u64.wrap ((n : Int) - (T : Int)) = (d : Int) := by rw [IntWalk.u64_in _ (by omega)]; omega
  rw [← hd] at RA
  have fl := Nat.mod_lt (T + 1) (show 0 < S by omega)
  have ll := Nat.mod_lt n (show 0 < S by omega)
  generalize (T + 1) % S = f at *
  generalize n % S = l at *
  obtain ⟨T1, hT1⟩ : ∃ T1, T1 = T + 1 := ⟨_, rfl⟩
  rw [← hT1] at f1 P1
  obtain ⟨l1, hl1⟩ : ∃ l1, l1 = l + 1 := ⟨_, rfl⟩
  have f4 : IntKind.i64.wrap ((l : Int) + 1) = (l1 : Int) := by rw [IntWalk.i64_in _ (by omega)]; omega
  rw [← hl1] at RA
  have fl1 : Hid (f ≤ l → f < l1) := Lib.hid (by omega)
  have l1s : l1 ≤ S := by omega
  have l1p : 0 < l1 := by omega
  clear hR h hn hd hT1 hl1
  go_enter Tryd.func55, Tryd.ntmps55
  go_wp2_with fail
  refine P1.out.mono ?_
  rintro e w' ⟨rfl, rfl⟩
  go_wp2_with fail
  refine P2.out.mono ?_
  rintro e w' ⟨rfl, rfl⟩
  clear P1 P2
  have BQ := Lib.hid fun q => below_drewN (Below.refl w.heap.size w) q
  have HQ := Lib.hid fun q => H.out.drewN q
  by_cases k1 : S ≤ d
  · have g1 : decide (S ≤ d) = true := decide_eq_true k1
    have E : Hid (R = wipe r 0 S) := Lib.hid (by rw [RA.out, if_pos k1])
    clear RA
    go_wp2_with fail
    go_quiet (fail)
    have HB := Lib.hid (BQ.out nq)
    have HW := Lib.hid (HQ.out nq)
    generalize w.drewN nq = w1 at *
    have cl := fun ty => clear_run (c := S) HW.out.ring (o := 0) (n := S) (by omega) (by rw [HW.out.len]; omega) ty
    have d1 := HW.out.c2
    have RB := Lib.hid (cells_put gr S r 0 w1 HW.out.ring)
    have ON := Lib.hid (cells_only gr (List.replicate S (.bool false)) 0 w1)
    obtain ⟨w2, hw2⟩ : ∃ w2, w2 = w1.setCells gr 0 (List.replicate S (.bool false)) := ⟨_, rfl⟩
    rw [← hw2] at cl RB ON
    clear hw2 c1 c2 BQ HQ
    have K2 := Lib.hid (ON.out.blk HW.out.blk (fun e => HW.out.ne e.symm))
    have e1 : w2.cell? ⟨g, 1, none⟩ = some (.int .u64 (T : Int)) := Blk.cell K2.out 1
    have e2 := Blk.frozen K2.out 1
    go_wp2_with (simp only [cl])
    go_end0
    exact ⟨rfl, ⟨Blk.put K2.out 1 _, Blk.far (by rw [E.out]; exact RB.out) (fun e => HW.out.ne e) _, HW.out.ne, HN.out, RL.out, HW.out.lo, HW.out.hi⟩, but_trans (But.of_below HB.out) (but_trans (but_only ON.out) (but_set g 1 _ _ _))⟩
  · have g1 : decide (S ≤ d) = false := decide_eq_false k1
    by_cases k2 : f ≤ l
    · have g2 : decide (f ≤ l) = true := decide_eq_true k2
      have fl2 : f ≤ l1 := by have := fl1.out k2; omega
      have E : Hid (R = wipe r f (l1 - f)) := Lib.hid (by rw [RA.out, if_neg k1, if_pos k2])
      clear RA
      go_wp2_with fail
      go_quiet (fail)
      have HB := Lib.hid (BQ.out nq)
      have HW := Lib.hid (HQ.out nq)
      generalize w.drewN nq = w1 at *
      have cl := fun ty => clear_run (c := S - f) HW.out.ring (o := f) (n := l1 - f) (by have := fl1.out k2; omega) (by have := fl1.out k2; rw [HW.out.len]; omega) ty
      have d1 := HW.out.c2
      have RB := Lib.hid (cells_put gr (l1 - f) r f w1 HW.out.ring)
      have ON := Lib.hid (cells_only gr (List.replicate (l1 - f) (.bool false)) f w1)
      obtain ⟨w2, hw2⟩ : ∃ w2, w2 = w1.setCells gr f (List.replicate (l1 - f) (.bool false)) := ⟨_, rfl⟩
      rw [← hw2] at cl RB ON
      clear hw2 c1 c2 BQ HQ
      have K2 := Lib.hid (ON.out.blk HW.out.blk (fun e => HW.out.ne e.symm))
      have e1 : w2.cell? ⟨g, 1, none⟩ = some (.int .u64 (T : Int)) := Blk.cell K2.out 1
      have e2 := Blk.frozen K2.out 1
      go_wp2_with (simp only [cl])
      go_end0
      exact ⟨rfl, ⟨Blk.put K2.out 1 _, Blk.far (by rw [E.out]; exact RB.out) (fun e => HW.out.ne e) _, HW.out.ne, HN.out, RL.out, HW.out.lo, HW.out.hi⟩, but_trans (But.of_below HB.out) (but_trans (but_only ON.out) (but_set g 1 _ _ _))⟩
    · have g2 : decide (f ≤ l) = false := decide_eq_false k2
      have E : Hid (R = wipe (wipe r f (S - f)) 0 l1) := Lib.hid (by rw [RA.out, if_neg k1, if_neg k2])
      clear RA
      go_wp2_with fail
      go_quiet (fail)
      have HB := Lib.hid (BQ.out nq)
      have HW := Lib.hid (HQ.out nq)
      generalize w.drewN nq = w1 at *
      have cl := fun ty => clear_run (c := S - f) HW.out.ring (o := f) (n := S - f) (by omega) (by rw [HW.out.len]; omega) ty
      have d1 := HW.out.c2
      have RB := Lib.hid (cells_put gr (S - f) r f w1 HW.out.ring)
      have ON := Lib.hid (cells_only gr (List.replicate (S - f) (.bool false)) f w1)
      obtain ⟨w2, hw2⟩ : ∃ w2, w2 = w1.setCells gr f (List.replicate (S - f) (.bool false)) := ⟨_, rfl⟩
      rw [← hw2] at cl RB ON
      clear hw2 c1 c2 BQ HQ
      have K2 := Lib.hid (ON.out.blk HW.out.blk (fun e => HW.out.ne e.symm))
      have e0 : w2.cell? ⟨g, 2, none⟩ = some (.slice (some ⟨gr, 0, none⟩) S S) := Blk.cell K2.out 2
      have cm := fun ty => clear_run (c := S) RB.out (o := 0) (n := l1) l1p (by rw [wipe_len, HW.out.len]; omega) ty
      have RC := Lib.hid (cells_put gr l1 _ 0 w2 RB.out)
      have OM := Lib.hid (cells_only gr (List.replicate l1 (.bool false)) 0 w2)
      obtain ⟨w3, hw3⟩ : ∃ w3, w3 = w2.setCells gr 0 (List.replicate l1 (.bool false)) := ⟨_, rfl⟩
      rw [← hw3] at cm RC OM
      clear hw3
      have K3 := Lib.hid (OM.out.blk K2.out (fun e => HW.out.ne e.symm))
      have e1 : w3.cell? ⟨g, 1, none⟩ = some (.int .u64 (T : Int)) := Blk.cell K3.out 1
      have e2 := Blk.frozen K3.out 1
      go_wp2_with (first | simp only [cl] | simp only [cm])
      go_end0
      exact ⟨rfl, ⟨Blk.put K3.out 1 _, Blk.far (by rw [E.out]; exact RC.out) (fun e => HW.out.ne e) _, HW.out.ne, HN.out, RL.out, HW.out.lo, HW.out.hi⟩, but_trans (But.of_below HB.out) (but_trans (but_only ON.out) (but_trans (but_only OM.out) (but_set g 1 _ _ _)))⟩
end Go.Proofs.YtppnkkpjfjhfkaaDoor.Rng3

/- Steps of a region whose order is open: nil checks, places of rows of bools, bools stored. No function is named. -/
set_option linter.unusedVariables false
namespace Go.Proofs.YtppnkkpjfjhfkaaDoor.OpsQ
open Go.RowKit Go.Proofs.YtppnkkpjfjhfkaaDoor.Sums Go.Proofs.YtppnkkpjfjhfkaaDoor.Mem Go.Proofs.YtppnkkpjfjhfkaaDoor.Steps Go.Proofs.YtppnkkpjfjhfkaaDoor.Free

theorem bool_info : (Tryd.prog.info? 4).map (fun i => (i.zero, i.size, i.bytes)) = some (some (.bool false), 1, 1) := by kernel_rfl
theorem st_nil {o : Oper} {a : Act} {w : World} {K : Act → World → Prop} {Q : Exit → Act → World → Prop} (x : Operand) (ho : o.op = .nilCheck x) (ad : Addr) (hx : a.eval x = .pointer (some ad))
    (h : K (a.put o.dst (.pointer (some ad))) w) : Step Tryd.prog o a w K Q := by
  refine wp_value (.pointer (some ad)) ?_ h
  simp [execOp, ho, hx]
theorem st_bool_at {o : Oper} {a : Act} {w : World} {K : Act → World → Prop} {Q : Exit → Act → World → Prop} (x y : Operand) (ho : o.op = .indexAddr 98 x y)
    (b n c i : Nat) (hx : a.eval x = .slice (some ⟨b, 0, none⟩) n c) (hy : a.eval y = .int .i64 (i : Int)) (hi : i < n)
    (h : K (a.put o.dst (.pointer (some ⟨b, i, none⟩))) w) : Step Tryd.prog o a w K Q := by
  refine wp_value (.pointer (some ⟨b, i, none⟩)) ?_ h
  obtain ⟨inf, hif, _, hsz, _⟩ := info_parts bool_info
  have h1 : (0 : Int) ≤ (i : Int) ∧ (i : Int) < (n : Int) := by omega
  simp [execOp, ho, hx, hy, Instr.indexAt, asIntOf, Sem.run_bind, run_underlying Tryd.underlying98 w, sizeOf, typeInfo, hif, hsz, h1, hi, Result.andThen, add_plain]
theorem st_store_q {o : Oper} {a : Act} {w : World} {K : Act → World → Prop} {Q : Exit → Act → World → Prop} (x y : Operand) (ho : o.op = .store 4 x y) (ad : Addr) (hx : a.eval x = .pointer (some ad)) (z : Bool) (hy : a.eval y = .bool z)
    (u : Value) (hc : w.cell? ad = some u) (hf : w.frozen? ad = false) (hK : K (a.put o.dst undef) (w.setCell ad (.bool z))) : Step Tryd.prog o a w K Q := by
  have hz : (sizeOf 4).run Tryd.prog w = .ok 1 w := by kernel_rfl
  have hr : (storeVar 4 ad (.bool z)).run Tryd.prog w = .ok () (w.setCell ad (.bool z)) := by
    simp [storeVar, Value.cells, storeCells, Addr.add, hz, Result.andThen]
    rw [run_store Tryd.prog w ad _ _ (by rfl)]
    simp [hc, hf]
  constructor
  unfold Oper.wp execOp
  simp only [ho, hx, hy, Instr.storeAt, Instr.sureAddr, Sem.run_bind, Sem.run_pure, Result.andThen_ok, hr]
  exact hK
end Go.Proofs.YtppnkkpjfjhfkaaDoor.OpsQ

