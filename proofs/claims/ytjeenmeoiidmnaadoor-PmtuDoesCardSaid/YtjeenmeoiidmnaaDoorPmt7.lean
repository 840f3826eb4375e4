/- The document's cache: Tell. -/
import Derived.Test.YtjeenmeoiidmnaaDoorPmt6
set_option linter.unusedVariables false
set_option maxRecDepth 100000
namespace Go.Proofs.YtjeenmeoiidmnaaDoor.Pmt7
open Go.RowKit Go.Proofs.YtjeenmeoiidmnaaDoor.Sums Go.Proofs.YtjeenmeoiidmnaaDoor.Mem Go.Proofs.YtjeenmeoiidmnaaDoor.Blk Go.Proofs.YtjeenmeoiidmnaaDoor.RowN Go.Proofs.YtjeenmeoiidmnaaDoor.RowA Go.Proofs.YtjeenmeoiidmnaaDoor.MapK Go.Proofs.YtjeenmeoiidmnaaDoor.MapT Go.Proofs.YtjeenmeoiidmnaaDoor.Obj Go.Proofs.YtjeenmeoiidmnaaDoor.PmtM Go.Proofs.YtjeenmeoiidmnaaDoor.PmtD Go.Proofs.YtjeenmeoiidmnaaDoor.Pmt6

theorem wpList_store_run {ops : Array Oper} {rest : List Oper} {o : Oper} {a : Act} {w w' : World} {Q : Exit → Act → World → Prop} (hgd : o.guard = none) (ty : TypeId) (x y : Operand) (ho : o.op = .store ty x y) (ad : Addr) (v : Value) (hx : a.eval x = .pointer (some ad)) (hy : a.eval y = v)
    (hr : (storeVar ty ad v).run Tryd.prog w = .ok () w') (h : wpList Tryd.prog ops Q rest (a.put o.dst undef) w') : wpList Tryd.prog ops Q (o :: rest) a w :=
  wpList_plain hgd fun _ hK => by
    unfold Oper.wp execOp
    simp only [ho, hx, hy, Instr.storeAt, Instr.sureAddr, Sem.run_bind, Sem.run_pure, Result.andThen_ok, hr]
    exact hK _ _ h
theorem wpList_append_run {ops : Array Oper} {rest : List Oper} {o : Oper} {a : Act} {w w' : World} {Q : Exit → Act → World → Prop} (hgd : o.guard = none) (t : TypeId) (x y : Operand) (ho : o.op = .call { callee := .builtin .append, args := #[x, y], argTypes := #[t, t] }) (u v r : Value) (hx : a.eval x = u) (hy : a.eval y = v)
    (hr : ∀ ty, (Builtin.append_ #[t, t] ty #[u, v]).run Tryd.prog w = .ok r w') (h : wpList Tryd.prog ops Q rest (a.put o.dst r) w') : wpList Tryd.prog ops Q (o :: rest) a w :=
  wpList_plain hgd fun _ hK => by
    unfold Oper.wp execOp
    simp only [ho]
    simp [resolve, invoke, hx, hy, builtin, hr, Result.andThen]
    exact hK _ _ h
theorem kept_info : ∃ i, Tryd.prog.info? 50 = some i ∧ i.zero = some (.agg #[.string ⟨#[]⟩, .int .i64 0, .int .i64 0]) ∧ i.size = 3 ∧ i.bytes = 32 := by
  have h : (Tryd.prog.info? 50).map (fun i => (i.zero, i.size, i.bytes)) = some (some (.agg #[.string ⟨#[]⟩, .int .i64 0, .int .i64 0]), 3, 32) := by kernel_rfl
  obtain ⟨i, hi, hz⟩ := Option.map_eq_some_iff.1 h
  simp only [Prod.mk.injEq] at hz
  exact ⟨i, hi, hz.1, hz.2.1, hz.2.2⟩
set_option maxHeartbeats 4000000 in
theorem tell_r (F : Nat → Prop) (x : Nat) (es : List Ent) (now : Int) (d : ByteArray) (n : Int) (w : World) (h : PrAt F w x es) (hF : ∀ q, F q → q < w.heap.size) (nn : -2000000000 ≤ now ∧ now ≤ 2000000000) :
    Calls Tryd.prog 13 #[.pointer (some ⟨x, 0, none⟩), .int .i64 now, .string d, .int .i64 n] w fun e w' => (e = .returned (.tuple #[.int .i64 (tellA now d n es).1, .int .i64 (tellA now d n es).2]) ∧ PrAt F w' x (tellL now d n es)) ∧ Keep F w w' := by
  have IC := is_r d w
  have PC := place_r F x es d w h
  have HP := Lib.hid h
  cases hl : least d with
  | none =>
    rw [hl] at IC
    have IC := Lib.hid IC
    have E : Hid (tellA now d n es = (0, 1) ∧ tellL now d n es = es) := Lib.hid (by unfold tellA tellL; rw [hl]; exact ⟨rfl, rfl⟩)
    clear hl PC h nn hF
    go_enter Tryd.func13, Tryd.ntmps13
    go_wp2_with fail
    refine IC.out.mono ?_
    rintro e w1 ⟨rfl, rfl⟩
    go_wp2_with fail
    go_ret2
    exact ⟨⟨by rw [E.out.1]; rfl, by rw [E.out.2]; exact HP.out⟩, Keep.refl _ _⟩
  | some l =>
    rw [hl] at IC
    have IC := Lib.hid IC
    have LE := Lib.hid hl
    have LC := Lib.hid (least_r d l hl w)
    clear hl
    obtain ⟨⟨A, c, hb, hr, nx, no⟩, hg⟩ := h
    have c0 : w.cell? ⟨x, 0, none⟩ = some (.slice A es.length c) := hb.cell 0
    obtain ⟨k, hk⟩ : ∃ k, es.length = k := ⟨_, rfl⟩
    have L64 := hg.len
    rw [hk] at c0 L64
    cases ha : at_ d es 0 with
    | none =>
      rw [pl_none ha] at PC
      have PC := Lib.hid PC
      have gn : MapK.get d es = none := by unfold MapK.get; rw [ha]; rfl
      by_cases rm : es.length < 64
      · have EA : Hid (tellA now d n es = (max n l, 0) ∧ tellL now d n es = put d (max n l, now) es) := Lib.hid (by
          have hr : room d es = true := by unfold room; rw [gn, decide_eq_true rm]; rfl
          unfold tellA tellL
          rw [LE.out]
          exact ⟨by simp only [known_none ha]; rw [hr]; rfl, by simp only [known_none ha]; rw [hr]; rfl⟩)
        have g0 : decide ((64 : Int) ≤ (k : Int)) = false := decide_eq_false (by omega)
        have GP := good_tell (n := n) (d := d) hg nn.1 nn.2
        rw [EA.out.2] at GP
        obtain ⟨mm, hmm⟩ : ∃ mm, max n l = mm := ⟨_, rfl⟩
        rw [hmm] at GP EA
        have EP : put d (mm, now) es = es ++ [(d, (mm, now))] := by unfold put; rw [ha]
        rw [EP] at GP EA
        have HMM := Lib.hid hmm
        obtain ⟨i, hi, hz, hsz, hby⟩ := kept_info
        have V0 := Blk.new w 50 #[.string d, .int .i64 mm, .int .i64 now]
        have B1 := (Below.refl w.heap.size w).alloc (Nat.le_refl _) (.cells #[.string d, .int .i64 mm, .int .i64 now] 50)
        obtain ⟨A', c', w2, hrun, hrow, hA', hkeep, -⟩ := append_row (sl := 27) Tryd.underlying27 hi hz hsz rfl (by omega) (hr.below B1) V0 rfl (by simp [Value.oneCell']) (by omega)
        have XT : ∀ q, own A q → q ≠ x := by
          rintro q hq rfl
          obtain ⟨X, hX⟩ := hr.row.type hq
          have := hb.symm.trans hX
          simp at this
          exact absurd this.2 (by decide)
        have hb2 : Blk w2 x RT #[.slice A es.length c] := (hkeep.block x (fun q => XT x q rfl) (by simp; have := hb.lt; omega)).trans (hb.alloc _)
        have c2 : w2.cell? ⟨x, 0, none⟩ = some (.slice A k c) := by rw [← hk]; exact hb2.cell 0
        have AP := Lib.hid hrun
        rw [hk] at AP
        have SX := Lib.hid (Store.run_store_one (ty := 27) (p := 0) (u := .slice A' (k + 1) c') hb2 (by simp) (by kernel_rfl) rfl #[.slice A' (k + 1) c'] rfl rfl)
        have FIN : Hid (PrAt F (w2.setRow x #[.slice A' (k + 1) c']) x (es ++ [(d, (mm, now))]) ∧ Keep F w (w2.setRow x #[.slice A' (k + 1) c'])) := Lib.hid (by
          have xl : x < w.heap.size := hb.lt
          have nA' : ∀ q, own A' q → ¬ F q ∧ q ≠ x := by
            rintro q hq
            rcases hA' with rfl | ⟨k', rfl, hk'⟩
            · exact ⟨no q hq, XT q hq⟩
            · obtain ⟨a, e, rfl⟩ := hq
              cases e
              simp at hk'
              refine ⟨fun z => ?_, ?_⟩
              · have := hF _ z
                simp at this
                omega
              · show k' ≠ x
                omega
          have le : (es ++ [(d, (mm, now))]).length = k + 1 := by simp [hk]
          refine ⟨⟨⟨A', c', ?_, ?_, nx, fun q hq => (nA' q hq).1⟩, GP⟩, ?_⟩
          · rw [le]
            exact setRow_heap _ _ _ _ _ _ hb2
          · rw [le, kFlat_append, kFlat_one]
            rw [hk] at hrow
            exact RowX.keep hrow fun q hq _ => setRow_other _ _ _ _ (nA' q hq).2
          · exact ((Keep.of B1).trans (hkeep.mono fun q f _ z => no q z f)).trans (Keep.row w2 x _ nx))
        clear ha hb hr hg hk gn rm GP EP V0 B1 hrun hrow hA' hkeep XT hb2 hi hz hsz hby hmm no nx nn L64 hF
        go_enter Tryd.func13, Tryd.ntmps13
        go_wp2_with fail
        refine IC.out.mono ?_
        rintro e w1 ⟨rfl, rfl⟩
        go_wp2_with fail
        refine LC.out.mono ?_
        rintro e w1 ⟨rfl, rfl⟩
        go_wp2_with fail
        refine PC.out.mono ?_
        rintro e w1 ⟨rfl, rfl⟩
        rw [HMM.out]
        go_wp2_with (first
          | (refine wpList_append_run rfl 27 (.tmp 76) (.tmp 81) rfl (.slice A k c) (.slice (some ⟨w.heap.size, 0, none⟩) 1 1) (.slice A' (k + 1) c') rfl rfl AP.out ?_)
          | (refine wpList_store_run rfl 27 (.tmp 84) (.tmp 82) rfl ⟨x, 0, none⟩ (.slice A' (k + 1) c') rfl rfl SX.out ?_))
        go_ret2
        exact ⟨⟨by rw [EA.out.1]; rfl, by rw [EA.out.2]; exact FIN.out.1⟩, FIN.out.2⟩
      · have EA : Hid (tellA now d n es = (0, 7) ∧ tellL now d n es = es) := Lib.hid (by
          have hr : room d es = false := by unfold room; rw [gn, decide_eq_false rm]; rfl
          unfold tellA tellL
          rw [LE.out]
          exact ⟨by simp only [known_none ha]; rw [hr]; rfl, by simp only [known_none ha]; rw [hr]; rfl⟩)
        have g0 : decide ((64 : Int) ≤ (k : Int)) = true := decide_eq_true (by omega)
        clear ha hb hr hg hk gn rm nn hF
        go_enter Tryd.func13, Tryd.ntmps13
        go_wp2_with fail
        refine IC.out.mono ?_
        rintro e w1 ⟨rfl, rfl⟩
        go_wp2_with fail
        refine LC.out.mono ?_
        rintro e w1 ⟨rfl, rfl⟩
        go_wp2_with fail
        refine PC.out.mono ?_
        rintro e w1 ⟨rfl, rfl⟩
        go_wp2_with fail
        go_ret2
        exact ⟨⟨by rw [EA.out.1]; rfl, by rw [EA.out.2]; exact HP.out⟩, Keep.refl _ _⟩
    | some z =>
      obtain ⟨i, m, s⟩ := z
      rw [pl_some ha] at PC
      have PC := Lib.hid PC
      have hi := (at_mem ha).2.2
      rw [Nat.sub_zero] at hi
      have ab : -2000000000 ≤ s ∧ s ≤ 2000000000 := hg.at_ _ (List.mem_of_getElem? hi)
      have ik : i < k := by rw [← hk]; exact (List.getElem?_eq_some_iff.1 hi).1
      have rmt : room d es = true := by unfold room MapK.get; rw [ha]; rfl
      have KN := Lib.hid (known_some (now := now) ha)
      obtain ⟨b, X, rfl, -, -, -⟩ := hr.row.some (by omega)
      have cm : w.cell? ⟨b, i * 3 + 1, none⟩ = some (.int .i64 m) := hr.row.cell rfl (kFlat_at es i _ hi 1 _ rfl)
      have cs : w.cell? ⟨b, i * 3 + 2, none⟩ = some (.int .i64 s) := hr.row.cell rfl (kFlat_at es i _ hi 2 _ rfl)
      have f1 : IntKind.i64.wrap (now - s) = now - s := IntWalk.i64_in _ (by omega)
      obtain ⟨y, hy⟩ : ∃ y, freshB now (m, s) = y := ⟨_, rfl⟩
      have g1 : decide (now - s < 600) = y := hy
      rw [hy] at KN
      cases y with
      | false =>
        have EA : Hid (tellA now d n es = (max n l, 0) ∧ tellL now d n es = put d (max n l, now) es) := Lib.hid (by
          unfold tellA tellL
          rw [LE.out]
          have kn : known now d es = none := KN.out
          exact ⟨by simp only [kn]; rw [rmt]; rfl, by simp only [kn]; rw [rmt]; rfl⟩)
        have GP := good_tell (n := n) (d := d) hg nn.1 nn.2
        rw [EA.out.2] at GP
        have GP := Lib.hid GP
        obtain ⟨mm, hmm⟩ : ∃ mm, max n l = mm := ⟨_, rfl⟩
        rw [hmm] at GP EA
        have HMM := Lib.hid hmm
        have EP : Hid (put d (mm, now) es = es.modify i fun _ => (d, (mm, now))) := Lib.hid (by unfold put; rw [ha])
        obtain ⟨b', X', hA', hX', hf', hst, hrow⟩ := row_put hr (by rw [hk]; exact ik) (d, (mm, now))
        obtain rfl : b' = b := by simpa using hA'.symm
        have ST := Lib.hid (show (storeVar KT ⟨b', i * 3, none⟩ (.agg #[.string d, .int .i64 mm, .int .i64 now])).run Tryd.prog w = .ok () (w.setRow b' (spl X' (i * 3) (kCells (d, (mm, now))))) from hst)
        have XN : x ≠ b' := by
          rintro rfl
          have := hb.symm.trans hX'
          simp at this
          exact absurd this.2 (by decide)
        have FIN : Hid (PrAt F (w.setRow b' (spl X' (i * 3) (kCells (d, (mm, now))))) x (put d (mm, now) es) ∧ Keep F w (w.setRow b' (spl X' (i * 3) (kCells (d, (mm, now)))))) := Lib.hid (by
          have kp : Keep F w (w.setRow b' (spl X' (i * 3) (kCells (d, (mm, now))))) := Keep.row w b' _ (no b' ⟨_, rfl, rfl⟩)
          refine ⟨?_, kp⟩
          rw [EP.out] at GP ⊢
          exact ⟨⟨_, c, by rw [List.length_modify]; exact (setRow_other w b' x _ XN).trans hb, hrow, nx, no⟩, GP.out⟩)
        generalize w.setRow b' (spl X' (i * 3) (kCells (d, (mm, now)))) = w5 at *
        clear ha hb hr hg hk ab hi hmm hX' hrow GP EP no nx XN hA' hf' nn L64 hF
        go_enter Tryd.func13, Tryd.ntmps13
        go_wp2_with fail
        refine IC.out.mono ?_
        rintro e w1 ⟨rfl, rfl⟩
        go_wp2_with fail
        refine LC.out.mono ?_
        rintro e w1 ⟨rfl, rfl⟩
        go_wp2_with fail
        refine PC.out.mono ?_
        rintro e w1 ⟨rfl, rfl⟩
        rw [HMM.out]
        go_wp2_with (first
          | (refine wpList_store_run rfl 50 (.tmp 64) (.tmp 63) rfl ⟨b', i * 3, none⟩ (.agg #[.string d, .int .i64 mm, .int .i64 now]) rfl rfl ST.out ?_))
        go_ret2
        exact ⟨⟨by rw [EA.out.1]; rfl, by rw [EA.out.2]; exact FIN.out.1⟩, FIN.out.2⟩
      | true =>
        by_cases km : m ≤ max n l
        · have EA : Hid (tellA now d n es = (m, 0) ∧ tellL now d n es = es) := Lib.hid (by
            unfold tellA tellL
            rw [LE.out]
            have kn : known now d es = some m := KN.out
            exact ⟨by simp only [kn]; rw [if_pos km], by simp only [kn]; rw [if_pos km]⟩)
          have g2 : decide (m ≤ max n l) = true := decide_eq_true km
          clear ha hb hr hg hk ab hi km nn hF
          go_enter Tryd.func13, Tryd.ntmps13
          go_wp2_with fail
          refine IC.out.mono ?_
          rintro e w1 ⟨rfl, rfl⟩
          go_wp2_with fail
          refine LC.out.mono ?_
          rintro e w1 ⟨rfl, rfl⟩
          go_wp2_with fail
          refine PC.out.mono ?_
          rintro e w1 ⟨rfl, rfl⟩
          go_wp2_with fail
          go_ret2
          exact ⟨⟨by rw [EA.out.1]; rfl, by rw [EA.out.2]; exact HP.out⟩, Keep.refl _ _⟩
        · have EA : Hid (tellA now d n es = (max n l, 0) ∧ tellL now d n es = put d (max n l, now) es) := Lib.hid (by
            unfold tellA tellL
            rw [LE.out]
            have kn : known now d es = some m := KN.out
            exact ⟨by simp only [kn]; rw [if_neg km, rmt]; rfl, by simp only [kn]; rw [if_neg km, rmt]; rfl⟩)
          have g2 : decide (m ≤ max n l) = false := decide_eq_false km
          have GP := good_tell (n := n) (d := d) hg nn.1 nn.2
          rw [EA.out.2] at GP
          have GP := Lib.hid GP
          obtain ⟨mm, hmm⟩ : ∃ mm, max n l = mm := ⟨_, rfl⟩
          rw [hmm] at GP EA
          rw [hmm] at g2
          have HMM := Lib.hid hmm
          have EP : Hid (put d (mm, now) es = es.modify i fun _ => (d, (mm, now))) := Lib.hid (by unfold put; rw [ha])
          obtain ⟨b', X', hA', hX', hf', hst, hrow⟩ := row_put hr (by rw [hk]; exact ik) (d, (mm, now))
          obtain rfl : b' = b := by simpa using hA'.symm
          have ST := Lib.hid (show (storeVar KT ⟨b', i * 3, none⟩ (.agg #[.string d, .int .i64 mm, .int .i64 now])).run Tryd.prog w = .ok () (w.setRow b' (spl X' (i * 3) (kCells (d, (mm, now))))) from hst)
          have XN : x ≠ b' := by
            rintro rfl
            have := hb.symm.trans hX'
            simp at this
            exact absurd this.2 (by decide)
          have FIN : Hid (PrAt F (w.setRow b' (spl X' (i * 3) (kCells (d, (mm, now))))) x (put d (mm, now) es) ∧ Keep F w (w.setRow b' (spl X' (i * 3) (kCells (d, (mm, now)))))) := Lib.hid (by
            have kp : Keep F w (w.setRow b' (spl X' (i * 3) (kCells (d, (mm, now))))) := Keep.row w b' _ (no b' ⟨_, rfl, rfl⟩)
            refine ⟨?_, kp⟩
            rw [EP.out] at GP ⊢
            exact ⟨⟨_, c, by rw [List.length_modify]; exact (setRow_other w b' x _ XN).trans hb, hrow, nx, no⟩, GP.out⟩)
          generalize w.setRow b' (spl X' (i * 3) (kCells (d, (mm, now)))) = w5 at *
          clear ha hb hr hg hk ab hi hmm hX' hrow GP EP no nx XN hA' hf' nn L64 hF
          clear km
          go_enter Tryd.func13, Tryd.ntmps13
          go_wp2_with fail
          refine IC.out.mono ?_
          rintro e w1 ⟨rfl, rfl⟩
          go_wp2_with fail
          refine LC.out.mono ?_
          rintro e w1 ⟨rfl, rfl⟩
          go_wp2_with fail
          refine PC.out.mono ?_
          rintro e w1 ⟨rfl, rfl⟩
          rw [HMM.out]
          go_wp2_with (first
            | (refine wpList_store_run rfl 50 (.tmp 64) (.tmp 63) rfl ⟨b', i * 3, none⟩ (.agg #[.string d, .int .i64 mm, .int .i64 now]) rfl rfl ST.out ?_))
          go_ret2
          exact ⟨⟨by rw [EA.out.1]; rfl, by rw [EA.out.2]; exact FIN.out.1⟩, FIN.out.2⟩
end Go.Proofs.YtjeenmeoiidmnaaDoor.Pmt7
