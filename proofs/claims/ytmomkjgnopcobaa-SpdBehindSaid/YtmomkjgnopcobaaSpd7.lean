/- The code's Add. -/
import Derived.Test.YtmomkjgnopcobaaSpd6
import Derived.Test.YtmomkjgnopcobaaFreeO
set_option linter.unusedVariables false
namespace Go.Proofs.Ytmomkjgnopcobaa.Spd7
open Go.RowKit Go.Proofs.Ytmomkjgnopcobaa.Mem Go.Proofs.Ytmomkjgnopcobaa.Blk Go.Proofs.Ytmomkjgnopcobaa.Ahead Go.Proofs.Ytmomkjgnopcobaa.PickD Go.Proofs.Ytmomkjgnopcobaa.PickR1 Go.Proofs.Ytmomkjgnopcobaa.PickR2 Go.Proofs.Ytmomkjgnopcobaa.Pick1 Go.Proofs.Ytmomkjgnopcobaa.Pick2 Go.Proofs.Ytmomkjgnopcobaa.Pick3 Go.Proofs.Ytmomkjgnopcobaa.Pick4 Go.Proofs.Ytmomkjgnopcobaa.Free Go.Proofs.Ytmomkjgnopcobaa.Steps Go.Proofs.Ytmomkjgnopcobaa.Regs Go.Proofs.Ytmomkjgnopcobaa.ArgT Go.Proofs.Ytmomkjgnopcobaa.MapK Go.Proofs.Ytmomkjgnopcobaa.Quest Go.Proofs.Ytmomkjgnopcobaa.RowN Go.Proofs.Ytmomkjgnopcobaa.SpdD Go.Proofs.Ytmomkjgnopcobaa.Spd1 Go.Proofs.Ytmomkjgnopcobaa.Spd3 Go.Proofs.Ytmomkjgnopcobaa.Spd4 Go.Proofs.Ytmomkjgnopcobaa.Spd6

def addE (rs : List RuleR) (at_ : Int) (r : RuleR) : Int := if chkR r ≠ 0 ∨ at_ < 0 ∨ (rs.length : Int) < at_ then 1 else if 64 ≤ rs.length then 7 else 0
def addL (rs : List RuleR) (at_ : Int) (r : RuleR) : List RuleR := if addE rs at_ r = 0 then rs.take at_.toNat ++ r :: rs.drop at_.toNat else rs
theorem list3 {f : Operand → Value} {x y z : Operand} {u v t : Value} (h1 : f x = u) (h2 : f y = v) (h3 : f z = t) : [x, y, z].map f = [u, v, t] := by simp [h1, h2, h3]
theorem ent_insert : Enters Try.prog 18 := enters_of Try.func18 (by kernel_rfl) rfl
theorem ent_own : Enters Try.prog 19 := enters_of Try.func19 (by kernel_rfl) rfl
theorem st_store_run {o : Oper} {a : Act} {w w1 : World} {K : Act → World → Prop} {Q : Exit → Act → World → Prop} (ty : TypeId) (x y : Operand) (ho : o.op = .store ty x y) (ad : Addr) (hx : a.eval x = .pointer (some ad)) (v : Value) (hy : a.eval y = v)
    (hr : (storeVar ty ad v).run Try.prog w = .ok () w1) (hK : K (a.put o.dst undef) w1) : Step Try.prog o a w K Q := by
  constructor
  unfold Oper.wp execOp
  simp only [ho, hx, hy, Instr.storeAt, Instr.sureAddr, Sem.run_bind, Sem.run_pure, Result.andThen_ok, hr]
  exact hK
theorem run_one (w : World) (r : RuleR) : (Instr.buildSlice 41 1 #[(0, .agg (RA r))]).run Try.prog w = .ok (.slice (some ⟨w.heap.size, 0, none⟩) 1 1) (w.alloc (.cells (RA r) 35)) := by
  kernel_rfl
theorem st_one {o : Oper} {a : Act} {w : World} {K : Act → World → Prop} {Q : Exit → Act → World → Prop} (x : Operand) (ho : o.op = .buildSlice 41 1 #[(0, x)]) (r : RuleR) (hx : a.eval x = .agg (RA r)) (hK : K (a.put o.dst (.slice (some ⟨w.heap.size, 0, none⟩) 1 1)) (w.alloc (.cells (RA r) 35))) : Step Try.prog o a w K Q := by
  constructor
  have hr : (execOp a.eval o).run Try.prog w = .ok (.value (.slice (some ⟨w.heap.size, 0, none⟩) 1 1)) (w.alloc (.cells (RA r) 35)) := by
    simp [execOp, ho, hx, run_one w, Result.andThen]
  unfold Oper.wp
  rw [hr]
  exact hK
/-- What may turn while the rule is being added. -/
def Gr (A : Option Addr) (n : Nat) (fin : List Value) (w w' : World) : Prop := Keep (fun k => ¬ own A k) w w' ∧ ∀ A2 c2, RowAt InsR.RT 16 w A2 (n + 1) c2 fin → RowAt InsR.RT 16 w' A2 (n + 1) c2 fin
theorem Gr.refl {A : Option Addr} {n : Nat} {fin : List Value} (w : World) : Gr A n fin w w := ⟨Keep.refl _ _, fun _ _ h => h⟩
theorem Gr.trans {A : Option Addr} {n : Nat} {fin : List Value} {w w' w'' : World} (h : Gr A n fin w w') (k : Gr A n fin w' w'') : Gr A n fin w w'' := ⟨h.1.trans k.1, fun A2 c2 z => k.2 A2 c2 (h.2 A2 c2 z)⟩
theorem Gr.of {A : Option Addr} {n : Nat} {fin : List Value} {w w' : World} (h : Below w.heap.size w w') : Gr A n fin w w' := ⟨Keep.of h, fun _ _ z => z.below h⟩
theorem Gr.blk {A : Option Addr} {n : Nat} {fin : List Value} {w w' : World} {g : Nat} {t : TypeId} {cs : Array Value} (h : Gr A n fin w w') (k : Blk w g t cs) (hg : ¬ own A g) : Blk w' g t cs := (h.1.block g hg k.lt).trans k
theorem add_nil (at_ : Int) (r : RuleR) (w : World) : Calls Try.prog 10 #[.pointer none, .int .i64 at_, .agg (RA r)] w fun e w' => e = .returned (.int .i64 3) ∧ Below w.heap.size w w' := by
  have B0 := Lib.hid ((Below.refl w.heap.size w).alloc (Nat.le_refl _) (.cells (RA r) 35))
  go_enter Try.func10, Try.ntmps10
  go_wp2_with fail
  go_ret
  exact ⟨rfl, B0.out⟩
set_option maxRecDepth 100000 in
set_option maxHeartbeats 4000000 in
theorem add_code (F : Nat → Prop) (gs : Nat) (rs : List RuleR) (at_ : Int) (r : RuleR) (w : World) (h : SpdAt F w gs rs) (hF : ∀ k, F k → k < w.heap.size) (hr : Ok r) :
    Calls Try.prog 10 #[.pointer (some ⟨gs, 0, none⟩), .int .i64 at_, .agg (RA r)] w fun e w' => e = .returned (.int .i64 (addE rs at_ r)) ∧ SpdAt F w' gs (addL rs at_ r) ∧ Keep F w w' := by
  have CK := Lib.hid (Spd1c.check_spd r)
  have OC := Lib.hid (fun W => Spd2.rule_own r W hr)
  have HR := Lib.hid hr
  have B0 := (Below.refl w.heap.size w).alloc (Nat.le_refl _) (.cells (RA r) 35)
  have K0 := Lib.hid (Blk.new w 35 (RA r))
  have H0 := Lib.hid (h.widen B0)
  have BB := Lib.hid B0
  have few := h.few
  have HF := Lib.hid hF
  clear B0 h hr hF
  obtain ⟨k, hk⟩ : ∃ k, chkR r = k := ⟨_, rfl⟩
  have KE := Lib.hid hk
  obtain ⟨n, hn⟩ : ∃ n, rs.length = n := ⟨_, rfl⟩
  have NE := Lib.hid hn
  rw [hn] at few
  rw [hk] at CK
  have EE : Hid (addE rs at_ r = if k ≠ 0 ∨ at_ < 0 ∨ (n : Int) < at_ then 1 else if 64 ≤ n then 7 else 0) := Lib.hid (by unfold addE; rw [hk, hn])
  clear hk hn
  by_cases q0 : k = 0
  · subst q0
    by_cases q1 : at_ < 0
    · have g1 : decide (at_ < 0) = true := decide_eq_true q1
      have E : Hid (addE rs at_ r = 1 ∧ addL rs at_ r = rs) := Lib.hid (by
        have e : addE rs at_ r = 1 := by rw [EE.out, if_pos (.inr (.inl q1))]
        exact ⟨e, if_neg (by rw [e]; decide)⟩)
      clear q1
      go_enter Try.func10, Try.ntmps10
      go_wp2_with (refine Store.at_load 35 (.tmp 5) ?_ ?_; exact rfl; refine Loads.wpList_load_w rfl 35 (.tmp 5) rfl w.heap.size rfl 35 (RA r) (0, 0) _ (K0.out) Try.underlying35 rfl (by kernel_rfl) ?_)
      refine (CK.out _).mono ?_
      rintro e w1 ⟨rfl, hb⟩
      have H1 := Lib.hid (H0.out.below hb)
      have B1 := Lib.hid (BB.out.trans (hb.mono BB.out.size))
      have K1 := Lib.hid (K0.out.below hb K0.out.lt)
      clear hb H0 BB K0
      go_wp2_with fail
      go_ret
      exact ⟨by rw [E.out.1]; rfl, by rw [E.out.2]; exact H1.out.mono (fun k _ z => .inl z), Keep.of B1.out⟩
    · have g1 : decide (at_ < 0) = false := decide_eq_false q1
      by_cases q2 : (n : Int) < at_
      · have g2 : decide ((n : Int) < at_) = true := decide_eq_true q2
        have E : Hid (addE rs at_ r = 1 ∧ addL rs at_ r = rs) := Lib.hid (by
          have e : addE rs at_ r = 1 := by rw [EE.out, if_pos (.inr (.inr q2))]
          exact ⟨e, if_neg (by rw [e]; decide)⟩)
        clear q1 q2
        go_enter Try.func10, Try.ntmps10
        go_wp2_with (refine Store.at_load 35 (.tmp 5) ?_ ?_; exact rfl; refine Loads.wpList_load_w rfl 35 (.tmp 5) rfl w.heap.size rfl 35 (RA r) (0, 0) _ (K0.out) Try.underlying35 rfl (by kernel_rfl) ?_)
        refine (CK.out _).mono ?_
        rintro e w1 ⟨rfl, hb⟩
        have H1 := Lib.hid (H0.out.below hb)
        have B1 := Lib.hid (BB.out.trans (hb.mono BB.out.size))
        have K1 := Lib.hid (K0.out.below hb K0.out.lt)
        clear hb H0 BB K0
        obtain ⟨gm, A, c, es, hp⟩ := Pol.of H1.out
        rw [NE.out] at hp
        have c0 := hp.blk.cell 0
        clear hp
        go_wp2_with fail
        go_ret
        exact ⟨by rw [E.out.1]; rfl, by rw [E.out.2]; exact H1.out.mono (fun k _ z => .inl z), Keep.of B1.out⟩
      · obtain ⟨i, rfl⟩ : ∃ i : Nat, at_ = (i : Int) := ⟨at_.toNat, by omega⟩
        have hi : i ≤ n := by omega
        have g2 : decide ((n : Int) < (i : Int)) = false := decide_eq_false q2
        have g2' : decide (n < i) = false := decide_eq_false (by omega)
        have EE2 : Hid (addE rs (i : Int) r = if 64 ≤ n then 7 else 0) := Lib.hid (by rw [EE.out, if_neg (by omega)])
        clear EE q1 q2
        by_cases q3 : 64 ≤ n
        · have g3 : decide ((64 : Int) ≤ (n : Int)) = true := decide_eq_true (by omega)
          have g3' : decide (64 ≤ n) = true := decide_eq_true q3
          have E : Hid (addE rs (i : Int) r = 7 ∧ addL rs (i : Int) r = rs) := Lib.hid (by
            have e : addE rs (i : Int) r = 7 := by rw [EE2.out, if_pos q3]
            exact ⟨e, if_neg (by rw [e]; decide)⟩)
          clear q3
          go_enter Try.func10, Try.ntmps10
          go_wp2_with (refine Store.at_load 35 (.tmp 5) ?_ ?_; exact rfl; refine Loads.wpList_load_w rfl 35 (.tmp 5) rfl w.heap.size rfl 35 (RA r) (0, 0) _ (K0.out) Try.underlying35 rfl (by kernel_rfl) ?_)
          refine (CK.out _).mono ?_
          rintro e w1 ⟨rfl, hb⟩
          have H1 := Lib.hid (H0.out.below hb)
          have B1 := Lib.hid (BB.out.trans (hb.mono BB.out.size))
          have K1 := Lib.hid (K0.out.below hb K0.out.lt)
          clear hb H0 BB K0
          obtain ⟨gm, A, c, es, hp⟩ := Pol.of H1.out
          rw [NE.out] at hp
          have c0 := hp.blk.cell 0
          clear hp
          go_wp2_with fail
          go_ret
          exact ⟨by rw [E.out.1]; rfl, by rw [E.out.2]; exact H1.out.mono (fun k _ z => .inl z), Keep.of B1.out⟩
        · have g3 : decide ((64 : Int) ≤ (n : Int)) = false := decide_eq_false (by omega)
          have g3' : decide (64 ≤ n) = false := decide_eq_false q3
          have N64 := Lib.hid (show n < 64 by omega)
          have HI := Lib.hid hi
          have E : Hid (addE rs (i : Int) r = 0 ∧ addL rs (i : Int) r = rs.take i ++ r :: rs.drop i) := Lib.hid (by
            have e : addE rs (i : Int) r = 0 := by rw [EE2.out, if_neg q3]
            exact ⟨e, (if_pos e).trans (by simp)⟩)
          clear EE2 q3
          go_enter Try.func10, Try.ntmps10
          go_wp2_with (refine Store.at_load 35 (.tmp 5) ?_ ?_; exact rfl; refine Loads.wpList_load_w rfl 35 (.tmp 5) rfl w.heap.size rfl 35 (RA r) (0, 0) _ (K0.out) Try.underlying35 rfl (by kernel_rfl) ?_)
          refine (CK.out _).mono ?_
          rintro e w1 ⟨rfl, hb⟩
          have H1 := Lib.hid (H0.out.below hb)
          have B1 := Lib.hid (BB.out.trans (hb.mono BB.out.size))
          have K1 := Lib.hid (K0.out.below hb K0.out.lt)
          clear hb H0 BB K0
          obtain ⟨gm, A, c, es, hp⟩ := Pol.of H1.out
          rw [NE.out] at hp
          have c0 := hp.blk.cell 0
          have HP : Hid (Pol F w1 gs gm A n c rs es) := Lib.hid ⟨hp.blk, hp.row, hp.map, hp.all, fun z => hp.fs (.inl z), fun z => hp.fm (.inl z), fun k hk z => hp.fr k hk (.inl z), hp.len⟩
          have NO := Lib.hid (row_ne hp)
          have NB : Hid (¬ own A w.heap.size) := Lib.hid fun z => hp.fr _ z (.inr (Nat.le_refl _))
          have fits : Hid ((rs.take i ++ r :: rs.drop i).length = n + 1 ∧ (rs.take i ++ r :: rs.drop i).flatMap RuleR.cells = (rs.flatMap RuleR.cells).take (i * 16) ++ ((RA r).toList ++ (rs.flatMap RuleR.cells).drop (i * 16)) ∧ ∀ x ∈ rs.take i ++ r :: rs.drop i, Ok x) := Lib.hid ⟨by have := NE.out; simp; omega, by rw [List.flatMap_append, List.flatMap_cons, flat_take, flat_drop]; rfl, fun x hx => (List.mem_append.1 hx).elim (fun z => H1.out.ok x (List.mem_of_mem_take z)) (fun z => (List.mem_cons.1 z).elim (fun e => e ▸ HR.out) (fun z => H1.out.ok x (List.mem_of_mem_drop z)))⟩
          clear hp
          go_wp2_with fail
          clear c0
          obtain ⟨fin, hfin⟩ : ∃ fin, fin = (rs.flatMap RuleR.cells).take (i * 16) ++ ((RA r).toList ++ (rs.flatMap RuleR.cells).drop (i * 16)) := ⟨_, rfl⟩
          have FIN := Lib.hid hfin
          clear hfin
          obtain ⟨S0, hS0⟩ : ∃ S0, S0 = w1.heap.size := ⟨_, rfl⟩
          have SZ := Lib.hid hS0
          clear hS0
          have OWN : Hid (∀ k, S0 ≤ k → ¬ own A k) := Lib.hid fun k hk z => by
            have := HP.out.row.lt z
            have := SZ.out
            omega
          have KS := Lib.hid HP.out.blk
          have SZ' : Hid (S0 ≤ w1.drew.heap.size) := Lib.hid (by rw [SZ.out]; exact Nat.le_refl _)
          have XS : Hid (∀ V, Gr A n fin w1.drew V → Blk V gs 56 #[.slice A n c, .map (some gm)]) := Lib.hid fun V hV => hV.blk (show Blk w1.drew gs _ _ from KS.out) NO.out.1
          have XR : Hid (∀ V, Gr A n fin w1.drew V → Blk V w.heap.size 35 (RA r)) := Lib.hid fun V hV => hV.blk (show Blk w1.drew w.heap.size _ _ from K1.out) NB.out
          refine FreeO.wp_region_freeO [0, 1, 2, 3, 4, 5, 6, 7, 8, 9] 10 [11, 12] [] (fun j V => j = 9 → RowAt InsR.RT 16 V A n c (rs.flatMap RuleR.cells)) (Gr A n fin) (fun k' w' v => match k' with
            | 0 => v = .pointer (some ⟨gs, 0, none⟩)
            | 1 => v = .pointer (some ⟨gs, 0, none⟩)
            | 2 => v = .pointer (some ⟨gs, 0, none⟩)
            | 3 => v = .pointer (some ⟨gs, 0, none⟩)
            | 4 => v = .slice A n c
            | 5 => v = .int .i64 (((i : Nat) : Int))
            | 6 => v = .agg #[.int .i64 r.x0, .string r.x1, .string r.x2, .string r.x3, .string r.x4, .int .i64 r.x5, .int .i64 r.x6, .int .i64 r.x7, .int .i64 r.x8, .int .i64 r.x9, .bool r.x10, .bool r.x11, .int .i64 r.x12, .bool r.x13, .string r.x14, .string r.x15]
            | 7 => v = .agg (RA r)
            | 8 => ∃ vb, v = .slice (some ⟨vb, 0, none⟩) 1 1 ∧ Blk w' vb 35 (RA r) ∧ S0 ≤ vb
            | _ => ∃ A' c', v = .slice A' (n + 1) c' ∧ RowAt InsR.RT 16 w' A' (n + 1) c' fin ∧ (A' = A ∨ ∃ k, A' = some ⟨k, 0, none⟩ ∧ S0 ≤ k)) (by kernel_rfl) (by kernel_rfl) (fun q hq => by cases hq) (Gr.refl _) (fun j hj e => HP.out.row.keep fun _ _ _ => rfl) (fun _ _ _ h k => h.trans k) (fun k' w1 w2 v h => match k' with
            | 0 => fun x => x
            | 1 => fun x => x
            | 2 => fun x => x
            | 3 => fun x => x
            | 4 => fun x => x
            | 5 => fun x => x
            | 6 => fun x => x
            | 7 => fun x => x
            | 8 => fun ⟨vb, e1, e2, e3⟩ => ⟨vb, e1, h.blk e2 (OWN.out vb e3), e3⟩
            | _ + 9 => fun ⟨A', c', e1, e2, e3⟩ => ⟨A', c', e1, h.2 A' c' e2, e3⟩) (fun _ _ _ _ _ h => h) ?_ _ (by rfl) ?_
          · refine FreeO.obsO_cons (by rfl) (fun vals w' hgr hN hdep K hK => ?_) (FreeO.obsO_cons (by rfl) (fun vals w' hgr hN hdep K hK => ?_) (FreeO.obsO_cons (by rfl) (fun vals w' hgr hN hdep K hK => ?_) (FreeO.obsO_cons (by rfl) (fun vals w' hgr hN hdep K hK => ?_) (FreeO.obsO_cons (by rfl) (fun vals w' hgr hN hdep K hK => ?_) (FreeO.obsO_cons (by rfl) (fun vals w' hgr hN hdep K hK => ?_) (FreeO.obsO_cons (by rfl) (fun vals w' hgr hN hdep K hK => ?_) (FreeO.obsO_cons (by rfl) (fun vals w' hgr hN hdep K hK => ?_) (FreeO.obsO_cons (by rfl) (fun vals w' hgr hN hdep K hK => ?_) (FreeO.obsO_cons (by rfl) (fun vals w' hgr hN hdep K hK => ?_) (FreeO.obsO_nil))))))))))
            · exact wp_move (.tmp 0) rfl _ (at_out _ (by kernel_rfl) rfl) (hK _ _ (Gr.refl _) (fun _ _ _ h => h) rfl)
            · exact wp_move (.tmp 0) rfl _ (at_out _ (by kernel_rfl) rfl) (hK _ _ (Gr.refl _) (fun _ _ _ h => h) rfl)
            · exact MapS.st_nil (.tmp 31) rfl _ ((at_dst 1 (by kernel_rfl)).trans (hdep 1 (by simp) (by kernel_rfl))) (hK _ _ (Gr.refl _) (fun _ _ _ h => h) rfl)
            · exact wp_field (.tmp 32) rfl _ _ ((at_dst 2 (by kernel_rfl)).trans (hdep 2 (by simp) (by kernel_rfl))) (by kernel_rfl) (hK _ _ (Gr.refl _) (fun _ _ _ h => h) rfl)
            · exact wp_load1 (.tmp 33) rfl ⟨gs, 0, none⟩ ((at_dst 3 (by kernel_rfl)).trans (hdep 3 (by simp) (by kernel_rfl))) Try.underlying41 rfl _ ((XS.out w' hgr).cell 0) (hK _ _ (Gr.refl _) (fun _ _ _ h => h) rfl)
            · exact wp_move (.tmp 1) rfl _ (at_out _ (by kernel_rfl) rfl) (hK _ _ (Gr.refl _) (fun _ _ _ h => h) rfl)
            · exact Part.st_load_part 35 (.tmp 5) rfl w.heap.size 0 [.int .i64 r.x0, .string r.x1, .string r.x2, .string r.x3, .string r.x4, .int .i64 r.x5, .int .i64 r.x6, .int .i64 r.x7, .int .i64 r.x8, .int .i64 r.x9, .bool r.x10, .bool r.x11, .int .i64 r.x12, .bool r.x13, .string r.x14, .string r.x15] (at_out _ (by kernel_rfl) rfl) (Part.run_part _ _ _ _ _ _ Try.underlying35 rfl (by kernel_rfl) (blk_part (XR.out w' hgr) 0 16)) (hK _ _ (Gr.refl _) (fun _ _ _ h => h) rfl)
            · exact wp_call 19 [.tmp 36] _ rfl ent_own [.agg #[.int .i64 r.x0, .string r.x1, .string r.x2, .string r.x3, .string r.x4, .int .i64 r.x5, .int .i64 r.x6, .int .i64 r.x7, .int .i64 r.x8, .int .i64 r.x9, .bool r.x10, .bool r.x11, .int .i64 r.x12, .bool r.x13, .string r.x14, .string r.x15]] (Draw.list1 ((at_dst 6 (by kernel_rfl)).trans (hdep 6 (by simp) (by kernel_rfl)))) (fun v w'' => v = .agg (RA r) ∧ Below w'.heap.size w' w'') (((OC.out w')).mono fun e w'' ⟨h1, h2⟩ => ⟨_, h1, rfl, h2⟩) (fun v w'' ⟨h1, h2⟩ => hK _ _ (Gr.of h2) (fun j _ _ hn e => (hn e).below h2) h1)
            · exact st_one (.tmp 37) rfl r ((at_dst 7 (by kernel_rfl)).trans (hdep 7 (by simp) (by kernel_rfl))) (hK _ _ (Gr.of ((Below.refl _ _).alloc (Nat.le_refl _) _)) (fun j _ _ hn e => (hn e).below ((Below.refl _ _).alloc (Nat.le_refl _) _)) ⟨_, rfl, Blk.new _ _ _, Nat.le_trans SZ'.out hgr.1.size⟩)
            · obtain ⟨vb, e8, k8, l8⟩ := hdep 8 (by simp) (by kernel_rfl)
              refine wp_call 18 [.tmp 34, .tmp 35, .tmp 38] _ rfl ent_insert [.slice A n c, .int .i64 ((i : Nat) : Int), .slice (some ⟨vb, 0, none⟩) 1 1] (list3 ((at_dst 4 (by kernel_rfl)).trans (hdep 4 (by simp) (by kernel_rfl))) ((at_dst 5 (by kernel_rfl)).trans (hdep 5 (by simp) (by kernel_rfl))) ((at_dst 8 (by kernel_rfl)).trans e8)) (fun v w3 => (∃ A' c', v = .slice A' (n + 1) c' ∧ RowAt InsR.RT 16 w3 A' (n + 1) c' fin ∧ (A' = A ∨ ∃ k, A' = some ⟨k, 0, none⟩ ∧ S0 ≤ k)) ∧ Gr A n fin w' w3) ((InsR.insert_rule A n c i _ vb (RA r) w' (hN rfl) k8 rfl (one_ra r) (by have := N64.out; omega) HI.out (OWN.out vb l8)).mono ?_) (fun v w3 h => hK v w3 h.2 (fun j _ hne _ e => absurd e hne) h.1)
              rintro e w3 ⟨⟨A', c', rfl, q1, q2⟩, q3, q4⟩
              rw [← FIN.out] at q1 q4
              exact ⟨_, rfl, ⟨A', c', rfl, q1, q2.imp id fun ⟨k, e1, e2⟩ => ⟨k, e1, Nat.le_trans (Nat.le_trans SZ'.out hgr.1.size) e2⟩⟩, q3, q4⟩
          · intro vals w' hgr hG
            obtain ⟨A', c', e9, hrow, hA⟩ := hG 9 (by simp)
            rw [FIN.out, ← fits.out.2.1] at hrow
            have T := Lib.hid (Turn.of (es := es) HP.out (fun k hk => Nat.lt_of_lt_of_le (HF.out k hk) B1.out.size) hrow (((Keep.refl _ w1).drewN 1).trans hgr.1) (by rw [← SZ.out]; exact hA) fits.out.1)
            have KW := Lib.hid (Keep.of (F := F) B1.out)
            have c1 := T.out.map_cell
            obtain ⟨o, hcl, hmap⟩ := run_clear_map (ev := evI) (kt := 62) (et := 3) (mt := 54) (P := Try.prog) (by kernel_rfl) (T.out.map2 #[.slice A' (n + 1) c', .map (some gm)])
            have DN := Lib.hid (T.out.done hmap fits.out.2.2 (by have := N64.out; rw [fits.out.1]; omega))
            have TB := Lib.hid T.out.blk
            refine MapS.st_nil (.tmp 30) rfl ⟨gs, 0, none⟩ ((at_dst 0 (by kernel_rfl)).trans (hG 0 (by simp))) ?_
            refine wpAnyH_next 11 _ rfl rfl (by kernel_rfl) (wp_field (.tmp 40) rfl _ (.pointer (some ⟨gs, 0, none⟩)) (put_tmps_eq (fill_size _ _ _) (by kernel_rfl)) (by kernel_rfl) ⟨trivial, ?_⟩)
            refine wpAnyH_next 12 _ rfl rfl (by kernel_rfl) (st_store_run 41 (.tmp 41) (.tmp 39) rfl ⟨gs, 0, none⟩ (put_tmps_eq (put_size (fill_size _ _ _)) (by kernel_rfl)) _ (put_tmps_ne (by rfl) (put_tmps_ne (by rfl) ((at_dst 9 (by kernel_rfl)).trans e9))) (Store.run_store_one TB.out (by simp) (by kernel_rfl) rfl #[.slice A' (n + 1) c', .map (some gm)] rfl rfl) ⟨trivial, wpAnyH_done (by kernel_rfl) ?_ _⟩)
            clear hG hgr hrow hA T hmap e9 HP XS XR KS K1 H1 TB OWN SZ SZ' FIN
            simp only [fill, dstAt, List.getElem?_cons_zero, List.getElem?_cons_succ, Option.bind_some, Act.put, List.setIfInBounds_toArray, List.set_cons_zero, List.set_cons_succ]
            generalize vals 0 = z0, vals 1 = z1, vals 2 = z2, vals 3 = z3, vals 4 = z4, vals 5 = z5, vals 6 = z6, vals 7 = z7, vals 8 = z8, vals 9 = z9 at *
            go_wp2_with (refine MapS.wpList_clear rfl 54 (.tmp 45) rfl _ rfl _ hcl ?_)
            go_ret
            exact ⟨by rw [E.out.1]; rfl, by rw [E.out.2]; exact DN.out.1, KW.out.trans DN.out.2⟩
  · have g0 : (k != 0) = true := by rw [bne_iff_ne]; exact q0
    have E : Hid (addE rs at_ r = 1 ∧ addL rs at_ r = rs) := Lib.hid (by
      have e : addE rs at_ r = 1 := by rw [EE.out, if_pos (.inl q0)]
      exact ⟨e, if_neg (by rw [e]; decide)⟩)
    clear q0
    go_enter Try.func10, Try.ntmps10
    go_wp2_with (refine Store.at_load 35 (.tmp 5) ?_ ?_; exact rfl; refine Loads.wpList_load_w rfl 35 (.tmp 5) rfl w.heap.size rfl 35 (RA r) (0, 0) _ (K0.out) Try.underlying35 rfl (by kernel_rfl) ?_)
    refine (CK.out _).mono ?_
    rintro e w1 ⟨rfl, hb⟩
    have H1 := Lib.hid (H0.out.below hb)
    have B1 := Lib.hid (BB.out.trans (hb.mono BB.out.size))
    have K1 := Lib.hid (K0.out.below hb K0.out.lt)
    clear hb H0 BB K0
    go_wp2_with fail
    go_ret
    exact ⟨by rw [E.out.1]; rfl, by rw [E.out.2]; exact H1.out.mono (fun k _ z => .inl z), Keep.of B1.out⟩
end Go.Proofs.Ytmomkjgnopcobaa.Spd7
