/- The document's Send. -/
import Derived.Test.YtppnkkpjfjhfkaaDoorM09
import Derived.Test.YtppnkkpjfjhfkaaDoorM10
set_option linter.unusedVariables false
namespace Go.Proofs.YtppnkkpjfjhfkaaDoor.SadR7
open Go.RowKit Go.Proofs.YtppnkkpjfjhfkaaDoor.Mem Go.Proofs.YtppnkkpjfjhfkaaDoor.Blk Go.Proofs.YtppnkkpjfjhfkaaDoor.ArgT Go.Proofs.YtppnkkpjfjhfkaaDoor.Longs Go.Proofs.YtppnkkpjfjhfkaaDoor.WinD Go.Proofs.YtppnkkpjfjhfkaaDoor.WinR Go.Proofs.YtppnkkpjfjhfkaaDoor.Free Go.Proofs.YtppnkkpjfjhfkaaDoor.Steps Go.Proofs.YtppnkkpjfjhfkaaDoor.SadM Go.Proofs.YtppnkkpjfjhfkaaDoor.SadR1 Go.Proofs.YtppnkkpjfjhfkaaDoor.SadR2 Go.Proofs.YtppnkkpjfjhfkaaDoor.SadR3 Go.Proofs.YtppnkkpjfjhfkaaDoor.SadW Go.Proofs.YtppnkkpjfjhfkaaDoor.SadR5 Go.Proofs.YtppnkkpjfjhfkaaDoor.SadR6

theorem st_nilC {o : Oper} {a : Act} {w : World} {K : Act → World → Prop} {Q : Exit → Act → World → Prop} (x : Operand) (ho : o.op = .nilCheck x) (ad : Addr) (hx : a.eval x = .pointer (some ad))
    (h : K (a.put o.dst (.pointer (some ad))) w) : Step Tryd.prog o a w K Q := by
  refine wp_value (.pointer (some ad)) ?_ h
  simp [execOp, ho, hx]
/-- All blocks but one stay; that one stays too, or it holds the new row. -/
structure OneSet (g0 : Nat) (X : Array Value) (w1 w2 : World) : Prop where
  os : w2.os = w1.os
  tape : w2.tape = w1.tape
  output : w2.output = w1.output
  size : w1.heap.size ≤ w2.heap.size
  block : ∀ k, k < w1.heap.size → k ≠ g0 → w2.heap[k]? = w1.heap[k]?
  one : w2.heap[g0]? = w1.heap[g0]? ∨ w2.heap[g0]? = some (.cells X 32 (0, 0))
theorem OneSet.refl (g0 : Nat) (X : Array Value) (w : World) : OneSet g0 X w w := ⟨rfl, rfl, rfl, Nat.le_refl _, fun _ _ _ => rfl, .inl rfl⟩
theorem OneSet.trans {g0 : Nat} {X : Array Value} {w1 w2 w3 : World} (h : OneSet g0 X w1 w2) (k : OneSet g0 X w2 w3) : OneSet g0 X w1 w3 :=
  ⟨k.os.trans h.os, k.tape.trans h.tape, k.output.trans h.output, Nat.le_trans h.size k.size, fun i hi hn => (k.block i (Nat.lt_of_lt_of_le hi h.size) hn).trans (h.block i hi hn), by
    rcases k.one with q | q
    · exact h.one.imp (fun z => q.trans z) (fun z => q.trans z)
    · exact .inr q⟩
theorem OneSet.row {g0 : Nat} {X old : Array Value} {w : World} (h : Blk w g0 32 old) : OneSet g0 X w (w.setRow g0 X) :=
  ⟨rfl, rfl, rfl, by simp [World.setRow], fun k _ hn => setRow_other w g0 k X hn, .inr (setRow_heap _ _ _ _ _ _ h)⟩
def saC (r : LifeR) : List Value := [.int .i64 r.x0, .string r.x1, .string r.x2, .string r.x3, .bool r.x4, .int .i64 r.x5]
def Zs : Array Value := #[.int .i64 0, .string ⟨#[]⟩, .string ⟨#[]⟩, .string ⟨#[]⟩, .bool false, .int .i64 0]
theorem oneSa (r : LifeR) : (saC r).toArray.all (·.oneCell') = true := by simp [saC, Value.oneCell']
theorem fldE0 (g : Nat) (w : World) : (Instr.fieldAt 68 (.pointer (some ⟨g, 0, none⟩)) 0).run Tryd.prog w = .ok (.pointer (some ⟨g, 0, none⟩)) w := by kernel_rfl
theorem fldL0 (g : Nat) (w : World) : (Instr.fieldAt 34 (.pointer (some ⟨g, 0, none⟩)) 0).run Tryd.prog w = .ok (.pointer (some ⟨g, 0, none⟩)) w := by kernel_rfl
theorem fldE3 (g : Nat) (w : World) : (Instr.fieldAt 68 (.pointer (some ⟨g, 0, none⟩)) 3).run Tryd.prog w = .ok (.pointer (some ⟨g, 14, none⟩)) w := by kernel_rfl
def sent (e : Ent) (n : Int) : Ent := { e with bytes := e.bytes + n, last := e.last + 1 }
theorem load_sa {W : World} {g gw : Nat} {e : Ent} {n : Int} (h : Blk W g 68 (ecells (sent e n) gw)) : (loadVar 32 ⟨g, 0, none⟩).run Tryd.prog W = .ok (.agg (saC e.life).toArray) W :=
  Part.run_part W g 0 32 (saC e.life) _ Tryd.underlying32 rfl (by kernel_rfl) fun j v hj => by
    rw [Nat.zero_add, h.cell j]
    have hlt : j < 6 := (List.getElem?_eq_some_iff.1 hj).1
    match j, hlt with
    | 0, _ => exact hj
    | 1, _ => exact hj
    | 2, _ => exact hj
    | 3, _ => exact hj
    | 4, _ => exact hj
    | 5, _ => exact hj
def sendS (now spi n : Int) (es : List Ent) : List Value × Nat × Nat × List Ent := if n < 0 then (saC zeroL, 0, 1, es) else match findI spi true es with
  | none => (saC zeroL, 0, 6, es)
  | some i => match es[i]? with
    | none => (saC zeroL, 0, 6, es)
    | some e => if ageN e now = 2 then (saC zeroL, 0, 171, es) else
      if e.last = 18446744073709551615 ∨ (e.life.x4 = false ∧ e.last = 4294967295) then (saC zeroL, 0, 121, es) else (saC e.life, e.last + 1, 0, es.set i (sent e n))
theorem rowed {w w2 : World} {base gs : Nat} {vl : Value} {ls : List Spot} {es : List Ent} (cs : Array Value) (h : SadAt w base gs vl ls es) (hb : Below w.heap.size w w2) : SadAt (w2.setRow w.heap.size cs) base gs vl ls es := h.up (Part.setRow_bel hb (Nat.le_refl _) cs)

set_option maxRecDepth 100000 in
set_option maxHeartbeats 4000000 in
theorem send_ref (base gs : Nat) (vl : Value) (ls : List Spot) (es : List Ent) (now spi n : Int) (w : World) (h : SadAt w base gs vl ls es) (hn : es.length ≤ 1048576) (hc : NowOk now es) (hr : RoomOk n es) :
    Calls Tryd.prog 27 #[.pointer (some ⟨gs, 0, none⟩), .int .i64 now, .int .i64 spi, .int .i64 n] w fun er w' => er = .returned (.tuple #[.agg (sendS now spi n es).1.toArray, .int .u64 ((sendS now spi n es).2.1 : Int), .int .i64 ((sendS now spi n es).2.2.1 : Int)]) ∧ Fr base gs vl ls w w' ∧ ∃ ls', Nw w ls ls' ∧ SadAt w' base gs vl ls' (sendS now spi n es).2.2.2 := by
  have hB : base ≤ w.heap.size := Nat.le_trans h.ge.1 (Nat.le_of_lt (Blk.lt h.blk))
  have H0 := Lib.hid h
  have J0 := Lib.hid (Blk.new w 32 Zs)
  have B0 := Lib.hid ((Below.refl w.heap.size w).alloc (Nat.le_refl _) (.cells Zs 32))
  have HA : SadAt (w.alloc (.cells Zs 32)) base gs vl ls es := h.up B0.out
  have C := Lib.hid (find_ref base gs vl ls es spi true _ HA hn)
  have H := Lib.hid HA
  obtain ⟨r, hr0⟩ : ∃ r, r = sendS now spi n es := ⟨_, rfl⟩
  rw [← hr0]
  by_cases a1 : n < 0
  · have g1 : decide (n < 0) = true := decide_eq_true a1
    have E : Hid (r = (saC zeroL, 0, 1, es)) := Lib.hid (by rw [hr0, sendS, if_pos a1])
    clear h hc hr hr0 HA
    go_enter Tryd.func27, Tryd.ntmps27
    go_wp2_with fail
    refine C.out.mono ?_
    rintro er w1 ⟨rfl, hb⟩
    have J1 : Hid (Blk w1 w.heap.size 32 Zs) := Lib.hid (Blk.below J0.out hb (Blk.lt J0.out))
    have B1 := Lib.hid (B0.out.trans (hb.mono B0.out.size))
    clear hb C J0 B0 H
    generalize ptrAt ls (findI spi true es) = pv at *
    go_wp2_with (refine wpList_store_row rfl 32 (.tmp 8) (.tmp 17) rfl w.heap.size Zs rfl rfl 32 _ J1.out (by kernel_rfl) (by kernel_rfl) (by kernel_rfl) ?_)
    exact bodyPost_ret (results_triple rfl _ _ w.heap.size 32 Zs (0, 0) _ _ _ rfl rfl rfl (setRow_heap _ _ _ _ _ _ J1.out) Tryd.underlying32 rfl (by kernel_rfl)) rfl ⟨by rw [E.out]; rfl, Fr.of (Part.setRow_bel B1.out (Nat.le_refl _) _) hB, ls, Nw.refl _ _, by rw [E.out]; exact rowed _ H0.out B1.out⟩
  have g1 : decide (n < 0) = false := decide_eq_false a1
  cases hf : findI spi true es with
  | none =>
    have E : Hid (r = (saC zeroL, 0, 6, es)) := Lib.hid (by rw [hr0, sendS, if_neg a1, hf])
    rw [hf] at C
    clear h hc hr hr0 hf HA a1
    go_enter Tryd.func27, Tryd.ntmps27
    go_wp2_with fail
    refine C.out.mono ?_
    rintro er w1 ⟨rfl, hb⟩
    have J1 : Hid (Blk w1 w.heap.size 32 Zs) := Lib.hid (Blk.below J0.out hb (Blk.lt J0.out))
    have B1 := Lib.hid (B0.out.trans (hb.mono B0.out.size))
    clear hb C J0 B0 H
    simp only [ptrAt]
    go_wp2_with (refine wpList_store_row rfl 32 (.tmp 8) (.tmp 20) rfl w.heap.size Zs rfl rfl 32 _ J1.out (by kernel_rfl) (by kernel_rfl) (by kernel_rfl) ?_)
    exact bodyPost_ret (results_triple rfl _ _ w.heap.size 32 Zs (0, 0) _ _ _ rfl rfl rfl (setRow_heap _ _ _ _ _ _ J1.out) Tryd.underlying32 rfl (by kernel_rfl)) rfl ⟨by rw [E.out]; rfl, Fr.of (Part.setRow_bel B1.out (Nat.le_refl _) _) hB, ls, Nw.refl _ _, by rw [E.out]; exact rowed _ H0.out B1.out⟩
  | some i =>
    obtain ⟨l, e, hl, he, hm, hp⟩ := found HA hf
    have E : Hid (r = if ageN e now = 2 then (saC zeroL, 0, 171, es) else if e.last = 18446744073709551615 ∨ (e.life.x4 = false ∧ e.last = 4294967295) then (saC zeroL, 0, 121, es) else (saC e.life, e.last + 1, 0, es.set i (sent e n))) := Lib.hid (by rw [hr0, sendS, if_neg a1, hf]; simp only [he])
    rw [hf, hp] at C
    have D := Lib.hid (And.intro hl he)
    have CB := Lib.hid (hc e hm)
    have f13 : IntKind.i64.wrap (e.bytes + n) = e.bytes + n := IntWalk.i64_in _ (hr e hm).2
    have N : Hid (l.g < w.heap.size ∧ l.g ≠ l.gw ∧ ∀ k, l.v.ownBlock = some k → k ≠ l.g) := Lib.hid (by
      obtain ⟨T, _, _, tl⟩ := h.tag
      obtain ⟨t2, t3, t4⟩ := tl l (List.mem_of_getElem? hl)
      exact ⟨(SadAt.lts h (List.mem_of_getElem? hl)).1, fun z => (by rw [← z, t2] at t3; cases t3), fun k hk z => (by have := t4 k hk; rw [z, t2] at this; cases this)⟩)
    have O := Lib.hid (h.ge.2 l (List.mem_of_getElem? hl))
    clear h hc hr hr0 hf hl he hm hp HA a1
    go_enter Tryd.func27, Tryd.ntmps27
    go_wp2_with fail
    refine C.out.mono ?_
    rintro er w1 ⟨rfl, hb⟩
    have H1 := Lib.hid (H.out.up hb)
    have J1 : Hid (Blk w1 w.heap.size 32 Zs) := Lib.hid (Blk.below J0.out hb (Blk.lt J0.out))
    have B1 := Lib.hid (B0.out.trans (hb.mono B0.out.size))
    have C2 := Lib.hid (age1_ref e l.g l.gw now w1 (H1.out.ent i l e D.out.1 D.out.2).1 CB.out)
    clear hb C J0 B0 H
    go_wp2_with fail
    refine C2.out.mono ?_
    rintro er w2 ⟨rfl, hb⟩
    have KE : Hid (Blk w2 l.g 68 (ecells e l.gw)) := Lib.hid (Blk.below (H1.out.ent i l e D.out.1 D.out.2).1 hb (Blk.lt (H1.out.ent i l e D.out.1 D.out.2).1))
    have LL : e.last < Q64 := (H1.out.ent i l e D.out.1 D.out.2).2.2.2.2
    have J2 : Hid (Blk w2 w.heap.size 32 Zs) := Lib.hid (Blk.below J1.out hb (Blk.lt J1.out))
    have B2 := Lib.hid (B1.out.trans (hb.mono B1.out.size))
    clear hb C2 J1 B1 H1
    by_cases a2 : ageN e now = 2
    · have E2 : Hid (r = (saC zeroL, 0, 171, es)) := Lib.hid (E.out.trans (if_pos a2))
      rw [a2]
      clear E
      go_wp2_with (refine wpList_store_row rfl 32 (.tmp 8) (.tmp 25) rfl w.heap.size Zs rfl rfl 32 _ J2.out (by kernel_rfl) (by kernel_rfl) (by kernel_rfl) ?_)
      exact bodyPost_ret (results_triple rfl _ _ w.heap.size 32 Zs (0, 0) _ _ _ rfl rfl rfl (setRow_heap _ _ _ _ _ _ J2.out) Tryd.underlying32 rfl (by kernel_rfl)) rfl ⟨by rw [E2.out]; rfl, Fr.of (Part.setRow_bel B2.out (Nat.le_refl _) _) hB, ls, Nw.refl _ _, by rw [E2.out]; exact rowed _ H0.out B2.out⟩
    · have E3 := Lib.hid (E.out.trans (if_neg a2))
      have g2 : (((ageN e now : Nat) : Int) == 2) = false := by rw [beq_eq_false_iff_ne]; omega
      generalize ageN e now = ag at *
      have c14 : w2.cell? ⟨l.g, 14, none⟩ = some (.int .u64 (e.last : Int)) := KE.out.cell 14
      have c4 : w2.cell? ⟨l.g, 4, none⟩ = some (.bool e.life.x4) := KE.out.cell 4
      clear E a2
      unfold Q64 at LL
      by_cases q1 : e.last = 18446744073709551615
      · have g3 : ((e.last : Int) == 18446744073709551615) = true := by rw [beq_iff_eq]; omega
        have NE : e.last = 18446744073709551615 ∨ (e.life.x4 = false ∧ e.last = 4294967295) := .inl q1
        have E4 : Hid (r = (saC zeroL, 0, 121, es)) := Lib.hid (E3.out.trans (if_pos NE))
        clear E3 NE
        go_wp2_with (refine wpList_store_row rfl 32 (.tmp 8) (.tmp 47) rfl w.heap.size Zs rfl rfl 32 _ J2.out (by kernel_rfl) (by kernel_rfl) (by kernel_rfl) ?_)
        exact bodyPost_ret (results_triple rfl _ _ w.heap.size 32 Zs (0, 0) _ _ _ rfl rfl rfl (setRow_heap _ _ _ _ _ _ J2.out) Tryd.underlying32 rfl (by kernel_rfl)) rfl ⟨by rw [E4.out]; rfl, Fr.of (Part.setRow_bel B2.out (Nat.le_refl _) _) hB, ls, Nw.refl _ _, by rw [E4.out]; exact rowed _ H0.out B2.out⟩
      · have g3 : ((e.last : Int) == 18446744073709551615) = false := by rw [beq_eq_false_iff_ne]; omega
        cases hx : e.life.x4 with
        | true =>
          have NE : ¬ (e.last = 18446744073709551615 ∨ (e.life.x4 = false ∧ e.last = 4294967295)) := by simp [q1, hx]
          rw [hx] at c4
          have E4 : Hid (r = (saC e.life, e.last + 1, 0, es.set i (sent e n))) := Lib.hid (E3.out.trans (if_neg NE))
          have f1 : IntKind.u64.wrap ((e.last : Int) + 1) = (e.last : Int) + 1 := IntWalk.u64_in _ (by omega)
          have K1 : Blk (w2.setCell ⟨l.g, 14, none⟩ (.int .u64 ((e.last : Int) + 1))) l.g 68 (ecells { e with last := e.last + 1 } l.gw) := Blk.put KE.out 14 _
          have c13 : (w2.setCell ⟨l.g, 14, none⟩ (.int .u64 ((e.last : Int) + 1))).cell? ⟨l.g, 13, none⟩ = some (.int .i64 e.bytes) := K1.cell 13
          have fz13 := Blk.frozen K1 13
          have fz14 := Blk.frozen KE.out 14
          have K2 : Hid (Blk ((w2.setCell ⟨l.g, 14, none⟩ (.int .u64 ((e.last : Int) + 1))).setCell ⟨l.g, 13, none⟩ (.int .i64 (e.bytes + n))) l.g 68 (ecells (sent e n) l.gw)) := Lib.hid (Blk.put K1 13 _)
          have J3 : Hid (Blk ((w2.setCell ⟨l.g, 14, none⟩ (.int .u64 ((e.last : Int) + 1))).setCell ⟨l.g, 13, none⟩ (.int .i64 (e.bytes + n))) w.heap.size 32 Zs) := Lib.hid (Blk.far (Blk.far J2.out (p := ⟨l.g, 14, none⟩) (show w.heap.size ≠ l.g by have := N.out.1; omega) _) (p := ⟨l.g, 13, none⟩) (show w.heap.size ≠ l.g by have := N.out.1; omega) _)
          have O3 : Hid (Only l.g w2 ((w2.setCell ⟨l.g, 14, none⟩ (.int .u64 ((e.last : Int) + 1))).setCell ⟨l.g, 13, none⟩ (.int .i64 (e.bytes + n)))) := Lib.hid ((Only.set w2 l.g 14 _).trans (Only.set _ l.g 13 _))
          clear K1 E3 NE
          go_wp2_with fail
          generalize (w2.setCell ⟨l.g, 14, none⟩ (.int .u64 ((e.last : Int) + 1))).setCell ⟨l.g, 13, none⟩ (.int .i64 (e.bytes + n)) = w3 at *
          have X : Hid (∀ V, OneSet w.heap.size (saC e.life).toArray w3.drew V → Blk V l.g 68 (ecells (sent e n) l.gw)) := Lib.hid fun V hV => (hV.block l.g (Blk.lt K2.out) (by have := N.out.1; omega)).trans K2.out
          have Y : Hid (∀ V, OneSet w.heap.size (saC e.life).toArray w3.drew V → Blk V w.heap.size 32 Zs ∨ Blk V w.heap.size 32 (saC e.life).toArray) := Lib.hid fun V hV => hV.one.imp (fun z => z.trans J3.out) id
          refine wp_region_free [0, 1, 2, 3, 4, 5, 6, 7, 8, 9] 10 [11] (fun w1 w2 => OneSet w.heap.size (saC e.life).toArray w1 w2) (fun k' w' v => match k' with
            | 0 => v = .pointer (some ⟨l.g, 0, none⟩)
            | 1 => v = .pointer (some ⟨l.g, 0, none⟩)
            | 2 => v = .pointer (some ⟨l.g, 0, none⟩)
            | 3 => v = .pointer (some ⟨l.g, 0, none⟩)
            | 4 => v = .agg (saC e.life).toArray
            | 5 => v = .pointer (some ⟨l.g, 0, none⟩)
            | 6 => v = .pointer (some ⟨l.g, 0, none⟩)
            | 7 => v = .pointer (some ⟨l.g, 14, none⟩)
            | 8 => v = .int .u64 ((e.last : Int) + 1)
            | _ => Blk w' w.heap.size 32 (saC e.life).toArray) (by kernel_rfl) (by kernel_rfl) (OneSet.refl _ _ _) (fun _ _ _ h k => h.trans k) (fun k' w1 w2 v h => match k' with
            | 0 => fun x => x
            | 1 => fun x => x
            | 2 => fun x => x
            | 3 => fun x => x
            | 4 => fun x => x
            | 5 => fun x => x
            | 6 => fun x => x
            | 7 => fun x => x
            | 8 => fun x => x
            | _ + 9 => fun x => h.one.elim (fun z => z.trans x) id) (fun _ _ _ _ _ h => h) ?_ _ (by rfl) ?_
          · refine (obs_cons (by rfl) (fun vals w' hgr hdep K hK => ?_) (obs_cons (by rfl) (fun vals w' hgr hdep K hK => ?_) (obs_cons (by rfl) (fun vals w' hgr hdep K hK => ?_) (obs_cons (by rfl) (fun vals w' hgr hdep K hK => ?_) (obs_cons (by rfl) (fun vals w' hgr hdep K hK => ?_) (obs_cons (by rfl) (fun vals w' hgr hdep K hK => ?_) (obs_cons (by rfl) (fun vals w' hgr hdep K hK => ?_) (obs_cons (by rfl) (fun vals w' hgr hdep K hK => ?_) (obs_cons (by rfl) (fun vals w' hgr hdep K hK => ?_) (obs_cons (by rfl) (fun vals w' hgr hdep K hK => ?_) obs_nil))))))))))
            · exact wp_move (.tmp 11) rfl _ (at_out _ (by kernel_rfl) rfl) (hK _ _ (OneSet.refl _ _ _) rfl)
            · exact st_nilC (.tmp 64) rfl _ ((at_dst 0 (by kernel_rfl)).trans (hdep 0 (by simp) (by kernel_rfl))) (hK _ _ (OneSet.refl _ _ _) rfl)
            · exact wp_field (.tmp 65) rfl _ _ ((at_dst 1 (by kernel_rfl)).trans (hdep 1 (by simp) (by kernel_rfl))) (fldE0 _ _) (hK _ _ (OneSet.refl _ _ _) rfl)
            · exact wp_field (.tmp 66) rfl _ _ ((at_dst 2 (by kernel_rfl)).trans (hdep 2 (by simp) (by kernel_rfl))) (fldL0 _ _) (hK _ _ (OneSet.refl _ _ _) rfl)
            · exact Part.st_load_part 32 (.tmp 67) rfl l.g 0 (saC e.life) ((at_dst 3 (by kernel_rfl)).trans (hdep 3 (by simp) (by kernel_rfl))) (load_sa (X.out w' hgr)) (hK _ _ (OneSet.refl _ _ _) rfl)
            · exact wp_move (.tmp 11) rfl _ (at_out _ (by kernel_rfl) rfl) (hK _ _ (OneSet.refl _ _ _) rfl)
            · exact st_nilC (.tmp 69) rfl _ ((at_dst 5 (by kernel_rfl)).trans (hdep 5 (by simp) (by kernel_rfl))) (hK _ _ (OneSet.refl _ _ _) rfl)
            · exact wp_field (.tmp 70) rfl _ _ ((at_dst 6 (by kernel_rfl)).trans (hdep 6 (by simp) (by kernel_rfl))) (fldE3 _ _) (hK _ _ (OneSet.refl _ _ _) rfl)
            · exact wp_load1 (.tmp 71) rfl ⟨l.g, 14, none⟩ ((at_dst 7 (by kernel_rfl)).trans (hdep 7 (by simp) (by kernel_rfl))) Tryd.underlying30 rfl _ ((X.out w' hgr).cell 14) (hK _ _ (OneSet.refl _ _ _) rfl)
            · rcases Y.out w' hgr with y | y
              · exact st_store_row 32 (.tmp 8) (.tmp 68) rfl w.heap.size (saC e.life).toArray (at_out _ (by kernel_rfl) rfl) ((at_dst 4 (by kernel_rfl)).trans (hdep 4 (by simp) (by kernel_rfl))) 32 Zs y (by kernel_rfl) (by kernel_rfl) (oneSa e.life) (hK _ _ (OneSet.row y) (setRow_heap _ _ _ _ _ _ y))
              · exact st_store_row 32 (.tmp 8) (.tmp 68) rfl w.heap.size (saC e.life).toArray (at_out _ (by kernel_rfl) rfl) ((at_dst 4 (by kernel_rfl)).trans (hdep 4 (by simp) (by kernel_rfl))) 32 _ y (by kernel_rfl) rfl (oneSa e.life) (hK _ _ (OneSet.row y) (setRow_heap _ _ _ _ _ _ y))
          · intro vals w' hgr hG
            refine st_assign (.tmp 72) (.int .u64 ((e.last : Int) + 1)) rfl ((at_dst 8 (by kernel_rfl)).trans (hG 8 (by simp))) ?_
            refine wpAnyH_next 11 _ rfl rfl (by kernel_rfl) (st_assign (.const (.int .i64 0)) (.int .i64 0) rfl rfl ⟨trivial, wpAnyH_done (by kernel_rfl) ?_ _⟩)
            have F : Hid ((∀ k, k < w2.heap.size → k ≠ l.g → k ≠ w.heap.size → w'.heap[k]? = w2.heap[k]?) ∧ w'.os = w2.os ∧ w'.tape = w2.tape ∧ w'.output = w2.output ∧ w2.heap.size ≤ w'.heap.size) := Lib.hid ⟨fun k hk k1 k2 => (hgr.block k (by rw [show w3.drew.heap.size = w3.heap.size from rfl, O3.out.size]; exact hk) k2).trans (O3.out.block k k1), (hgr.os.trans O3.out.os), (hgr.tape.trans O3.out.tape), (hgr.output.trans O3.out.output), by
              have := hgr.size
              have := O3.out.size
              simp at *
              omega⟩
            have K5 : Hid (Blk w' l.g 68 (ecells (sent e n) l.gw)) := Lib.hid (X.out w' hgr)
            have J5 : Hid (Blk w' w.heap.size 32 (saC e.life).toArray) := Lib.hid (hG 9 (by simp))
            clear hG hgr X Y J3 K2 O3
            simp only [fill, dstAt, List.getElem?_cons_zero, List.getElem?_cons_succ, Option.bind_some, Act.put, List.setIfInBounds_toArray, List.set_cons_zero, List.set_cons_succ]
            generalize vals 0 = y0, vals 1 = y1, vals 2 = y2, vals 3 = y3, vals 4 = y4, vals 5 = y5, vals 6 = y6, vals 7 = y7, vals 8 = y8, vals 9 = y9 at *
            generalize w' = w5 at *
            go_wp2_with fail
            exact bodyPost_ret (results_triple rfl _ _ w.heap.size 32 (saC e.life).toArray (0, 0) _ _ _ rfl rfl rfl J5.out Tryd.underlying32 rfl (by kernel_rfl)) rfl ⟨by rw [E4.out]; rfl, ⟨below_of B2.out ⟨F.out.2.1, F.out.2.2.1, F.out.2.2.2.1, F.out.2.2.2.2⟩ (fun k hk => F.out.1 k (by have := B2.out.size; omega) (by have := O.out.1; omega) (by omega)) hB, fun k hk _ _ kl => (F.out.1 k (Nat.lt_of_lt_of_le hk B2.out.size) (kl l (List.mem_of_getElem? D.out.1)).1 (by omega)).trans (B2.out.block k hk)⟩, ls.set i l, Nw.set (v' := l.v) D.out.1 (.inl rfl), by
              rw [E4.out]
              obtain ⟨_, hW0, _⟩ := H0.out.ent i l e D.out.1 D.out.2
              have L0 := SadAt.lts H0.out (List.mem_of_getElem? D.out.1)
              refine SadAt.edit H0.out D.out.1 D.out.2 (sent e n) l.v (fun k hk k1 _ _ => (F.out.1 k (Nat.lt_of_lt_of_le hk B2.out.size) k1 (by omega)).trans (B2.out.block k hk)) K5.out ?_ (.inl rfl) rfl (by have := LL; unfold Q64 at *; show e.last + 1 < _; omega)
              exact win_same hW0 ((F.out.1 l.gw (Nat.lt_of_lt_of_le L0.2.1 B2.out.size) (fun z => N.out.2.1 z.symm) (by omega)).trans (B2.out.block l.gw L0.2.1)) fun k hk => (F.out.1 k (Nat.lt_of_lt_of_le (L0.2.2 k hk) B2.out.size) (N.out.2.2 k hk) (by have := L0.2.2 k hk; omega)).trans (B2.out.block k (L0.2.2 k hk))⟩
        | false =>
          rw [hx] at c4
          by_cases q2 : e.last = 4294967295
          · have g4 : ((e.last : Int) == 4294967295) = true := by rw [beq_iff_eq]; omega
            have NE : e.last = 18446744073709551615 ∨ (e.life.x4 = false ∧ e.last = 4294967295) := .inr ⟨hx, q2⟩
            have E4 : Hid (r = (saC zeroL, 0, 121, es)) := Lib.hid (E3.out.trans (if_pos NE))
            clear E3 NE
            go_wp2_with (refine wpList_store_row rfl 32 (.tmp 8) (.tmp 47) rfl w.heap.size Zs rfl rfl 32 _ J2.out (by kernel_rfl) (by kernel_rfl) (by kernel_rfl) ?_)
            exact bodyPost_ret (results_triple rfl _ _ w.heap.size 32 Zs (0, 0) _ _ _ rfl rfl rfl (setRow_heap _ _ _ _ _ _ J2.out) Tryd.underlying32 rfl (by kernel_rfl)) rfl ⟨by rw [E4.out]; rfl, Fr.of (Part.setRow_bel B2.out (Nat.le_refl _) _) hB, ls, Nw.refl _ _, by rw [E4.out]; exact rowed _ H0.out B2.out⟩
          · have g4 : ((e.last : Int) == 4294967295) = false := by rw [beq_eq_false_iff_ne]; omega
            have NE : ¬ (e.last = 18446744073709551615 ∨ (e.life.x4 = false ∧ e.last = 4294967295)) := by simp [q1, q2]
            have E4 : Hid (r = (saC e.life, e.last + 1, 0, es.set i (sent e n))) := Lib.hid (E3.out.trans (if_neg NE))
            have f1 : IntKind.u64.wrap ((e.last : Int) + 1) = (e.last : Int) + 1 := IntWalk.u64_in _ (by omega)
            have K1 : Blk (w2.setCell ⟨l.g, 14, none⟩ (.int .u64 ((e.last : Int) + 1))) l.g 68 (ecells { e with last := e.last + 1 } l.gw) := Blk.put KE.out 14 _
            have c13 : (w2.setCell ⟨l.g, 14, none⟩ (.int .u64 ((e.last : Int) + 1))).cell? ⟨l.g, 13, none⟩ = some (.int .i64 e.bytes) := K1.cell 13
            have fz13 := Blk.frozen K1 13
            have fz14 := Blk.frozen KE.out 14
            have K2 : Hid (Blk ((w2.setCell ⟨l.g, 14, none⟩ (.int .u64 ((e.last : Int) + 1))).setCell ⟨l.g, 13, none⟩ (.int .i64 (e.bytes + n))) l.g 68 (ecells (sent e n) l.gw)) := Lib.hid (Blk.put K1 13 _)
            have J3 : Hid (Blk ((w2.setCell ⟨l.g, 14, none⟩ (.int .u64 ((e.last : Int) + 1))).setCell ⟨l.g, 13, none⟩ (.int .i64 (e.bytes + n))) w.heap.size 32 Zs) := Lib.hid (Blk.far (Blk.far J2.out (p := ⟨l.g, 14, none⟩) (show w.heap.size ≠ l.g by have := N.out.1; omega) _) (p := ⟨l.g, 13, none⟩) (show w.heap.size ≠ l.g by have := N.out.1; omega) _)
            have O3 : Hid (Only l.g w2 ((w2.setCell ⟨l.g, 14, none⟩ (.int .u64 ((e.last : Int) + 1))).setCell ⟨l.g, 13, none⟩ (.int .i64 (e.bytes + n)))) := Lib.hid ((Only.set w2 l.g 14 _).trans (Only.set _ l.g 13 _))
            clear K1 E3 NE
            go_wp2_with fail
            generalize (w2.setCell ⟨l.g, 14, none⟩ (.int .u64 ((e.last : Int) + 1))).setCell ⟨l.g, 13, none⟩ (.int .i64 (e.bytes + n)) = w3 at *
            have X : Hid (∀ V, OneSet w.heap.size (saC e.life).toArray w3.drew V → Blk V l.g 68 (ecells (sent e n) l.gw)) := Lib.hid fun V hV => (hV.block l.g (Blk.lt K2.out) (by have := N.out.1; omega)).trans K2.out
            have Y : Hid (∀ V, OneSet w.heap.size (saC e.life).toArray w3.drew V → Blk V w.heap.size 32 Zs ∨ Blk V w.heap.size 32 (saC e.life).toArray) := Lib.hid fun V hV => hV.one.imp (fun z => z.trans J3.out) id
            refine wp_region_free [0, 1, 2, 3, 4, 5, 6, 7, 8, 9] 10 [11] (fun w1 w2 => OneSet w.heap.size (saC e.life).toArray w1 w2) (fun k' w' v => match k' with
              | 0 => v = .pointer (some ⟨l.g, 0, none⟩)
              | 1 => v = .pointer (some ⟨l.g, 0, none⟩)
              | 2 => v = .pointer (some ⟨l.g, 0, none⟩)
              | 3 => v = .pointer (some ⟨l.g, 0, none⟩)
              | 4 => v = .agg (saC e.life).toArray
              | 5 => v = .pointer (some ⟨l.g, 0, none⟩)
              | 6 => v = .pointer (some ⟨l.g, 0, none⟩)
              | 7 => v = .pointer (some ⟨l.g, 14, none⟩)
              | 8 => v = .int .u64 ((e.last : Int) + 1)
              | _ => Blk w' w.heap.size 32 (saC e.life).toArray) (by kernel_rfl) (by kernel_rfl) (OneSet.refl _ _ _) (fun _ _ _ h k => h.trans k) (fun k' w1 w2 v h => match k' with
              | 0 => fun x => x
              | 1 => fun x => x
              | 2 => fun x => x
              | 3 => fun x => x
              | 4 => fun x => x
              | 5 => fun x => x
              | 6 => fun x => x
              | 7 => fun x => x
              | 8 => fun x => x
              | _ + 9 => fun x => h.one.elim (fun z => z.trans x) id) (fun _ _ _ _ _ h => h) ?_ _ (by rfl) ?_
            · refine (obs_cons (by rfl) (fun vals w' hgr hdep K hK => ?_) (obs_cons (by rfl) (fun vals w' hgr hdep K hK => ?_) (obs_cons (by rfl) (fun vals w' hgr hdep K hK => ?_) (obs_cons (by rfl) (fun vals w' hgr hdep K hK => ?_) (obs_cons (by rfl) (fun vals w' hgr hdep K hK => ?_) (obs_cons (by rfl) (fun vals w' hgr hdep K hK => ?_) (obs_cons (by rfl) (fun vals w' hgr hdep K hK => ?_) (obs_cons (by rfl) (fun vals w' hgr hdep K hK => ?_) (obs_cons (by rfl) (fun vals w' hgr hdep K hK => ?_) (obs_cons (by rfl) (fun vals w' hgr hdep K hK => ?_) obs_nil))))))))))
              · exact wp_move (.tmp 11) rfl _ (at_out _ (by kernel_rfl) rfl) (hK _ _ (OneSet.refl _ _ _) rfl)
              · exact st_nilC (.tmp 64) rfl _ ((at_dst 0 (by kernel_rfl)).trans (hdep 0 (by simp) (by kernel_rfl))) (hK _ _ (OneSet.refl _ _ _) rfl)
              · exact wp_field (.tmp 65) rfl _ _ ((at_dst 1 (by kernel_rfl)).trans (hdep 1 (by simp) (by kernel_rfl))) (fldE0 _ _) (hK _ _ (OneSet.refl _ _ _) rfl)
              · exact wp_field (.tmp 66) rfl _ _ ((at_dst 2 (by kernel_rfl)).trans (hdep 2 (by simp) (by kernel_rfl))) (fldL0 _ _) (hK _ _ (OneSet.refl _ _ _) rfl)
              · exact Part.st_load_part 32 (.tmp 67) rfl l.g 0 (saC e.life) ((at_dst 3 (by kernel_rfl)).trans (hdep 3 (by simp) (by kernel_rfl))) (load_sa (X.out w' hgr)) (hK _ _ (OneSet.refl _ _ _) rfl)
              · exact wp_move (.tmp 11) rfl _ (at_out _ (by kernel_rfl) rfl) (hK _ _ (OneSet.refl _ _ _) rfl)
              · exact st_nilC (.tmp 69) rfl _ ((at_dst 5 (by kernel_rfl)).trans (hdep 5 (by simp) (by kernel_rfl))) (hK _ _ (OneSet.refl _ _ _) rfl)
              · exact wp_field (.tmp 70) rfl _ _ ((at_dst 6 (by kernel_rfl)).trans (hdep 6 (by simp) (by kernel_rfl))) (fldE3 _ _) (hK _ _ (OneSet.refl _ _ _) rfl)
              · exact wp_load1 (.tmp 71) rfl ⟨l.g, 14, none⟩ ((at_dst 7 (by kernel_rfl)).trans (hdep 7 (by simp) (by kernel_rfl))) Tryd.underlying30 rfl _ ((X.out w' hgr).cell 14) (hK _ _ (OneSet.refl _ _ _) rfl)
              · rcases Y.out w' hgr with y | y
                · exact st_store_row 32 (.tmp 8) (.tmp 68) rfl w.heap.size (saC e.life).toArray (at_out _ (by kernel_rfl) rfl) ((at_dst 4 (by kernel_rfl)).trans (hdep 4 (by simp) (by kernel_rfl))) 32 Zs y (by kernel_rfl) (by kernel_rfl) (oneSa e.life) (hK _ _ (OneSet.row y) (setRow_heap _ _ _ _ _ _ y))
                · exact st_store_row 32 (.tmp 8) (.tmp 68) rfl w.heap.size (saC e.life).toArray (at_out _ (by kernel_rfl) rfl) ((at_dst 4 (by kernel_rfl)).trans (hdep 4 (by simp) (by kernel_rfl))) 32 _ y (by kernel_rfl) rfl (oneSa e.life) (hK _ _ (OneSet.row y) (setRow_heap _ _ _ _ _ _ y))
            · intro vals w' hgr hG
              refine st_assign (.tmp 72) (.int .u64 ((e.last : Int) + 1)) rfl ((at_dst 8 (by kernel_rfl)).trans (hG 8 (by simp))) ?_
              refine wpAnyH_next 11 _ rfl rfl (by kernel_rfl) (st_assign (.const (.int .i64 0)) (.int .i64 0) rfl rfl ⟨trivial, wpAnyH_done (by kernel_rfl) ?_ _⟩)
              have F : Hid ((∀ k, k < w2.heap.size → k ≠ l.g → k ≠ w.heap.size → w'.heap[k]? = w2.heap[k]?) ∧ w'.os = w2.os ∧ w'.tape = w2.tape ∧ w'.output = w2.output ∧ w2.heap.size ≤ w'.heap.size) := Lib.hid ⟨fun k hk k1 k2 => (hgr.block k (by rw [show w3.drew.heap.size = w3.heap.size from rfl, O3.out.size]; exact hk) k2).trans (O3.out.block k k1), (hgr.os.trans O3.out.os), (hgr.tape.trans O3.out.tape), (hgr.output.trans O3.out.output), by
                have := hgr.size
                have := O3.out.size
                simp at *
                omega⟩
              have K5 : Hid (Blk w' l.g 68 (ecells (sent e n) l.gw)) := Lib.hid (X.out w' hgr)
              have J5 : Hid (Blk w' w.heap.size 32 (saC e.life).toArray) := Lib.hid (hG 9 (by simp))
              clear hG hgr X Y J3 K2 O3
              simp only [fill, dstAt, List.getElem?_cons_zero, List.getElem?_cons_succ, Option.bind_some, Act.put, List.setIfInBounds_toArray, List.set_cons_zero, List.set_cons_succ]
              generalize vals 0 = y0, vals 1 = y1, vals 2 = y2, vals 3 = y3, vals 4 = y4, vals 5 = y5, vals 6 = y6, vals 7 = y7, vals 8 = y8, vals 9 = y9 at *
              generalize w' = w5 at *
              go_wp2_with fail
              exact bodyPost_ret (results_triple rfl _ _ w.heap.size 32 (saC e.life).toArray (0, 0) _ _ _ rfl rfl rfl J5.out Tryd.underlying32 rfl (by kernel_rfl)) rfl ⟨by rw [E4.out]; rfl, ⟨below_of B2.out ⟨F.out.2.1, F.out.2.2.1, F.out.2.2.2.1, F.out.2.2.2.2⟩ (fun k hk => F.out.1 k (by have := B2.out.size; omega) (by have := O.out.1; omega) (by omega)) hB, fun k hk _ _ kl => (F.out.1 k (Nat.lt_of_lt_of_le hk B2.out.size) (kl l (List.mem_of_getElem? D.out.1)).1 (by omega)).trans (B2.out.block k hk)⟩, ls.set i l, Nw.set (v' := l.v) D.out.1 (.inl rfl), by
                rw [E4.out]
                obtain ⟨_, hW0, _⟩ := H0.out.ent i l e D.out.1 D.out.2
                have L0 := SadAt.lts H0.out (List.mem_of_getElem? D.out.1)
                refine SadAt.edit H0.out D.out.1 D.out.2 (sent e n) l.v (fun k hk k1 _ _ => (F.out.1 k (Nat.lt_of_lt_of_le hk B2.out.size) k1 (by omega)).trans (B2.out.block k hk)) K5.out ?_ (.inl rfl) rfl (by have := LL; unfold Q64 at *; show e.last + 1 < _; omega)
                exact win_same hW0 ((F.out.1 l.gw (Nat.lt_of_lt_of_le L0.2.1 B2.out.size) (fun z => N.out.2.1 z.symm) (by omega)).trans (B2.out.block l.gw L0.2.1)) fun k hk => (F.out.1 k (Nat.lt_of_lt_of_le (L0.2.2 k hk) B2.out.size) (N.out.2.2 k hk) (by have := L0.2.2 k hk; omega)).trans (B2.out.block k (L0.2.2 k hk))⟩
end Go.Proofs.YtppnkkpjfjhfkaaDoor.SadR7

