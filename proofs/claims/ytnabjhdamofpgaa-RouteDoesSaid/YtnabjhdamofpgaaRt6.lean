/- The code's Add. -/
import Derived.Test.YtnabjhdamofpgaaRt5
set_option linter.unusedVariables false
namespace Go.Proofs.Ytnabjhdamofpgaa.Rt6
open Go.RowKit Go.PlainAid Go.Proofs.Ytnabjhdamofpgaa.Sums Go.Proofs.Ytnabjhdamofpgaa.Mem Go.Proofs.Ytnabjhdamofpgaa.Blk Go.Proofs.Ytnabjhdamofpgaa.Grp Go.Proofs.Ytnabjhdamofpgaa.AdrD Go.Proofs.Ytnabjhdamofpgaa.AdrR Go.Proofs.Ytnabjhdamofpgaa.Steps Go.Proofs.Ytnabjhdamofpgaa.Com Go.Proofs.Ytnabjhdamofpgaa.RowN Go.Proofs.Ytnabjhdamofpgaa.RowA Go.Proofs.Ytnabjhdamofpgaa.ArgT Go.Proofs.Ytnabjhdamofpgaa.TabD Go.Proofs.Ytnabjhdamofpgaa.TabOps Go.Proofs.Ytnabjhdamofpgaa.TabM Go.Proofs.Ytnabjhdamofpgaa.Free Go.Proofs.Ytnabjhdamofpgaa.RtD Go.Proofs.Ytnabjhdamofpgaa.Rt1 Go.Proofs.Ytnabjhdamofpgaa.Rt3 Go.Proofs.Ytnabjhdamofpgaa.Rt4 Go.Proofs.Ytnabjhdamofpgaa.Rt5

theorem ent_insert : Enters Try.prog 27 := enters_of Try.func27 (by kernel_rfl) rfl
theorem ent_own : Enters Try.prog 26 := enters_of Try.func26 (by kernel_rfl) rfl
theorem st_store_run {o : Oper} {a : Act} {w w1 : World} {K : Act → World → Prop} {Q : Exit → Act → World → Prop} (ty : TypeId) (x y : Operand) (ho : o.op = .store ty x y) (ad : Addr) (hx : a.eval x = .pointer (some ad)) (v : Value) (hy : a.eval y = v)
    (hr : (storeVar ty ad v).run Try.prog w = .ok () w1) (hK : K (a.put o.dst undef) w1) : Step Try.prog o a w K Q := by
  constructor
  unfold Oper.wp execOp
  simp only [ho, hx, hy, Instr.storeAt, Instr.sureAddr, Sem.run_bind, Sem.run_pure, Result.andThen_ok, hr]
  exact hK
theorem run_one (w : World) (r : RouteR) : (Instr.buildSlice 27 1 #[(0, .agg (RA r))]).run Try.prog w = .ok (.slice (some ⟨w.heap.size, 0, none⟩) 1 1) (w.alloc (.cells (RA r) 33)) := by
  kernel_rfl
theorem st_one {o : Oper} {a : Act} {w : World} {K : Act → World → Prop} {Q : Exit → Act → World → Prop} (x : Operand) (ho : o.op = .buildSlice 27 1 #[(0, x)]) (r : RouteR) (hx : a.eval x = .agg (RA r)) (hK : K (a.put o.dst (.slice (some ⟨w.heap.size, 0, none⟩) 1 1)) (w.alloc (.cells (RA r) 33))) : Step Try.prog o a w K Q := by
  constructor
  have hr : (execOp a.eval o).run Try.prog w = .ok (.value (.slice (some ⟨w.heap.size, 0, none⟩) 1 1)) (w.alloc (.cells (RA r) 33)) := by
    simp [execOp, ho, hx, run_one w, Result.andThen]
  unfold Oper.wp
  rw [hr]
  exact hK
/-- What may turn while the rule is being added. -/
def Gr (A : Option Addr) (n : Nat) (fin : List Value) (w w' : World) : Prop := Keep (fun k => ¬ own A k) w w' ∧ ∀ A2 c2, RowAt InsT.RT 4 w A2 (n + 1) c2 fin → RowAt InsT.RT 4 w' A2 (n + 1) c2 fin
theorem Gr.refl {A : Option Addr} {n : Nat} {fin : List Value} (w : World) : Gr A n fin w w := ⟨Keep.refl _ _, fun _ _ h => h⟩
theorem Gr.trans {A : Option Addr} {n : Nat} {fin : List Value} {w w' w'' : World} (h : Gr A n fin w w') (k : Gr A n fin w' w'') : Gr A n fin w w'' := ⟨h.1.trans k.1, fun A2 c2 z => k.2 A2 c2 (h.2 A2 c2 z)⟩
theorem Gr.of {A : Option Addr} {n : Nat} {fin : List Value} {w w' : World} (h : Below w.heap.size w w') : Gr A n fin w w' := ⟨Keep.of h, fun _ _ z => z.below h⟩
theorem Gr.blk {A : Option Addr} {n : Nat} {fin : List Value} {w w' : World} {g : Nat} {t : TypeId} {cs : Array Value} (h : Gr A n fin w w') (k : Blk w g t cs) (hg : ¬ own A g) : Blk w' g t cs := (h.1.block g hg k.lt).trans k
theorem run_store_agg {w : World} {g : Nat} {t : TypeId} {X : Array Value} (h : Blk w g t X) (o : Nat) (cs : Array Value) (hs : (Try.prog.info? t).map (·.size) = some cs.size) (hf : o + cs.size ≤ X.size) (h1 : ∀ v ∈ cs.toList, v.oneCell' = true) : (storeVar t ⟨g, o, none⟩ (.agg cs)).run Try.prog w = .ok () (w.setRow g (spl X o cs.toList)) := by
  have hst := run_store_spl (P := Try.prog) h o cs.toList (by simpa using hf) h1
  obtain ⟨i, hq, hz⟩ := Option.map_eq_some_iff.1 hs
  simp [storeVar, Value.cells, sizeOf, typeInfo, hq, hz, hst]
theorem wpList_store_run {ops : Array Oper} {rest : List Oper} {o : Oper} {a : Act} {w w1 : World} {Q : Exit → Act → World → Prop} (hw : Region.wanted o (yielded ops a.tmps) = true) (ty : TypeId) (x y : Operand) (ho : o.op = .store ty x y) (ad : Addr) (hx : a.eval x = .pointer (some ad)) (v : Value) (hy : a.eval y = v)
    (hr : (storeVar ty ad v).run Try.prog w = .ok () w1) (h : wpList Try.prog ops Q rest (a.put o.dst undef) w1) : wpList Try.prog ops Q (o :: rest) a w :=
  wpList_step fun K hK => by
    rw [if_pos hw]
    unfold Oper.wp execOp
    simp only [ho, hx, hy, Instr.storeAt, Instr.sureAddr, Sem.run_bind, Sem.run_pure, Result.andThen_ok, hr]
    exact hK _ _ h
theorem flat_set {rs : List RouteR} {i : Nat} {r : RouteR} (h : i < rs.length) : (rs.set i r).flatMap RouteR.cells = (rs.flatMap RouteR.cells).take (i * 4) ++ (r.cells ++ (rs.flatMap RouteR.cells).drop ((i + 1) * 4)) := by
  rw [set_eq h, List.flatMap_append, List.flatMap_cons, TabA.flat_take, TabA.flat_drop]
/-- An element of a row is written. -/
theorem row_set {w : World} {b n c : Nat} {rs : List RouteR} (h : RowAt RT 4 w (some ⟨b, 0, none⟩) n c (rs.flatMap RouteR.cells)) (hn : rs.length = n) {i : Nat} (hi : i < n) (r : RouteR) :
    ∃ w', (storeVar 33 ⟨b, 0 + i * 4, none⟩ (.agg (RA r))).run Try.prog w = .ok () w' ∧ RowAt RT 4 w' (some ⟨b, 0, none⟩) n c ((rs.set i r).flatMap RouteR.cells) ∧ Keep (fun k => ¬ own (some ⟨b, 0, none⟩) k) w w' := by
  obtain ⟨b', X, hA, hX, hs, ht⟩ := h.some (by omega)
  cases hA
  have hle := h.le
  have hl := h.len
  have hfit : i * 4 + (RA r).size ≤ X.size := by show i * 4 + 4 ≤ X.size; omega
  have hr := run_store_agg hX (i * 4) (RA r) (by kernel_rfl) hfit (one_ra r)
  rw [Nat.zero_add]
  refine ⟨_, hr, ⟨?_, hle, h.big, ?_, .inr ⟨b, _, rfl, setRow_heap _ _ _ (spl X (i * 4) (RA r).toList) _ _ hX, by rw [spl_size (by simpa using hfit)]; exact hs, ?_⟩⟩, Keep.row (F := fun k => ¬ own (some ⟨b, 0, none⟩) k) w b _ (fun z => z ⟨_, rfl, rfl⟩)⟩
  · rw [flat_len, List.length_set, hn]
  · intro v hv
    rw [List.mem_flatMap] at hv
    obtain ⟨x, _, hx⟩ := hv
    exact one_ra x v hx
  · have hXl : X.toList = (rs.flatMap RouteR.cells).take (i * 4) ++ (((rs.flatMap RouteR.cells).drop (i * 4)).take 4 ++ ((rs.flatMap RouteR.cells).drop ((i + 1) * 4) ++ X.toList.drop (n * 4))) := by
      have e : (rs.flatMap RouteR.cells).drop ((i + 1) * 4) = ((rs.flatMap RouteR.cells).drop (i * 4)).drop 4 := by rw [List.drop_drop]; congr 1; omega
      rw [e, ← List.append_assoc (((rs.flatMap RouteR.cells).drop (i * 4)).take 4), List.take_append_drop, ← List.append_assoc, List.take_append_drop, ← ht, List.take_append_drop]
    have sp := InsT.spl_list (vs := (RA r).toList) (o := i * 4) hXl (by rw [List.length_take, hl]; omega) (by rw [List.length_take, List.length_drop, hl]; show min 4 _ = 4; omega)
    rw [sp, flat_set (by omega), ← List.append_assoc, ← List.append_assoc, ← List.append_assoc]
    rw [show ((rs.flatMap RouteR.cells).take (i * 4) ++ (RA r).toList ++ (rs.flatMap RouteR.cells).drop ((i + 1) * 4) ++ X.toList.drop (n * 4)) = ((rs.flatMap RouteR.cells).take (i * 4) ++ r.cells ++ (rs.flatMap RouteR.cells).drop ((i + 1) * 4)) ++ X.toList.drop (n * 4) from rfl]
    refine List.take_left' ?_
    rw [List.length_append, List.length_append, List.length_take, List.length_drop, hl, len_ra]
    omega
set_option maxRecDepth 100000 in
set_option maxHeartbeats 4000000 in
theorem add_full (F : Nat → Prop) (g : Nat) (rs : List RouteR) (r : RouteR) (w : World) (h : RtAt F w g rs) (hF : ∀ k, F k → k < w.heap.size) (ha : r.x0.size ≤ maxLen) (hv : r.x2.size ≤ maxLen) (hok : addB r.x0 r.x1 r.x2 r.x3 = true) (hth : thereB rs (pfx r.x0 r.x1) r.x1 = false) (hfull : 64 ≤ rs.length) :
    Calls Try.prog 10 #[.pointer (some ⟨g, 0, none⟩), .agg (RA r)] w fun e w' => e = .returned (.int .i64 7) ∧ RtAt F w' g (rs) ∧ Keep F w w' := by
  obtain ⟨hfb, hvb, hpb⟩ := code_ok r hok
  have good := good_new hok
  obtain ⟨n, hn⟩ : ∃ n, rs.length = n := ⟨_, rfl⟩
  have few := h.few
  rw [hn] at few
  have RN := Lib.hid hn
  have qs := pfx_size r.x0 r.x1
  have H := Lib.hid h
  have HF := Lib.hid hF
  obtain ⟨mm, hmm⟩ : ∃ mm, (if fitB r.x0.size r.x1 then r.x1 else 0) = mm := ⟨_, rfl⟩
  obtain ⟨ec, hec⟩ : ∃ ec, (if fitB r.x0.size r.x1 then (0 : Int) else 1) = ec := ⟨_, rfl⟩
  obtain ⟨q, hq⟩ : ∃ q, pfx r.x0 r.x1 = q := ⟨_, rfl⟩
  have MC := Lib.hid (fun W => masked_any r.x0 r.x1 ha W)
  rw [hmm, hec, hq] at MC
  have VC := Lib.hid (fun W => via_c r ha hv W)
  have B0 := Lib.hid ((Below.refl w.heap.size w).alloc (Nat.le_refl _) (.cells (RA r) 33))
  have K0 := Lib.hid (Blk.new w 33 (RA r))
  have RP : (loadVar 31 ⟨w.heap.size, 0, none⟩).run Try.prog (w.alloc (.cells (RA r) 33)) = .ok (.agg #[.string r.x0, .int .i64 r.x1]) (w.alloc (.cells (RA r) 33)) := Part.run_part _ w.heap.size 0 31 [.string r.x0, .int .i64 r.x1] _ Try.underlying31 rfl (by kernel_rfl) (TabOps.blk_part K0.out 0 2)
  obtain rfl : ec = 0 := by rw [← hec, hfb]; rfl
  obtain rfl : mm = r.x1 := by rw [← hmm, hfb]; rfl
  rw [hvb] at VC
  rw [hq] at hth good qs
  have GD := Lib.hid good
  have HQ := Lib.hid hq
  have HTH := Lib.hid hth
  have TN : Hid (Tab (addL rs r.x0 r.x1 r.x2 r.x3)) := Lib.hid (h.tab.add _ _ _ _)
  obtain ⟨A, c, hg0, hx0, hFg, hFA, hgA⟩ := h.ex
  rw [hn] at hg0 hx0 hfull
  have HG := Lib.hid hg0
  have HX := Lib.hid hx0
  have GL := Lib.hid hg0.lt
  have X1 := Lib.hid hFg
  have X2 := Lib.hid hFA
  have X3 := Lib.hid hgA
  obtain ⟨i, hi⟩ : ∃ i, placeN rs q r.x1 = i := ⟨_, rfl⟩
  have HI := Lib.hid hi
  have iln : i ≤ n := by rw [← hi, ← hn]; exact placeN_le _ _ _
  have QS := Lib.hid qs
  have AL : Hid (addL rs r.x0 r.x1 r.x2 r.x3 = rs) := Lib.hid (by
    unfold addL
    rw [hok, if_pos rfl, hq, hth, hi]
    rw [if_neg (by simp), if_pos (by omega)])
  clear h hF hq hmm hec hfb ha hv hvb hok hth good hg0 hx0 hFg hFA hgA hi hn qs
  go_enter Try.func10, Try.ntmps10
  go_wp2_with (refine Store.at_load 31 (.tmp 12) ?_ ?_; exact rfl; refine Part.wpList_load_part rfl 31 (.tmp 12) rfl w.heap.size 0 [.string r.x0, .int .i64 r.x1] rfl RP ?_)
  refine (MC.out _).mono ?_
  rintro e w2 ⟨rfl, hb2⟩
  have B2 := Lib.hid (B0.out.trans (hb2.mono B0.out.size))
  have L2 : Hid (w.heap.size < w2.heap.size) := Lib.hid (by have := hb2.size; simp at this; omega)
  have KR2 := Lib.hid (K0.out.below hb2 K0.out.lt)
  have J2 := Lib.hid (Blk.new w2 31 #[.string ⟨#[]⟩, .int .i64 0])
  have K3 := Lib.hid (Part.setRow_blk J2.out #[.string q, .int .i64 r.x1])
  have B3 : Hid (Below w.heap.size w ((w2.alloc (.cells #[.string ⟨#[]⟩, .int .i64 0] 31)).setRow w2.heap.size #[.string q, .int .i64 r.x1])) := Lib.hid (setRow_bel (B2.out.alloc B2.out.size _) B2.out.size _)
  have KR3 : Hid (Blk ((w2.alloc (.cells #[.string ⟨#[]⟩, .int .i64 0] 31)).setRow w2.heap.size #[.string q, .int .i64 r.x1]) w.heap.size 33 (RA r)) := Lib.hid ((setRow_other _ _ _ _ (by have := L2.out; omega)).trans (Blk.alloc KR2.out _))
  clear hb2 RP K0 B0 B2 KR2 MC
  go_wp2_with (first | (refine Store.at_store 31 (.tmp 5) (.tmp 15) ?_ ?_; exact rfl; refine wpList_store_row rfl 31 (.tmp 5) (.tmp 15) rfl w2.heap.size #[.string q, .int .i64 r.x1] rfl rfl 31 _ J2.out (by kernel_rfl) rfl (one_pf _ _) ?_) | (refine Store.at_load 33 (.tmp 3) ?_ ?_; exact rfl; refine Loads.wpList_load_w rfl 33 (.tmp 3) rfl w.heap.size rfl 33 (RA r) (0, 0) _ (KR3.out) Try.underlying33 rfl (by kernel_rfl) ?_))
  refine (VC.out _).mono ?_
  rintro e w4 ⟨rfl, hb4⟩
  have B4 := Lib.hid (B3.out.trans (hb4.mono B3.out.size))
  have KR4 := Lib.hid (KR3.out.below hb4 KR3.out.lt)
  have K4 := Lib.hid (K3.out.below hb4 K3.out.lt)
  have B5 : Hid (Below w.heap.size w (w4.setRow w.heap.size #[.string q, .int .i64 r.x1, .string r.x2, .int .i64 r.x3])) := Lib.hid (setRow_bel B4.out (Nat.le_refl _) _)
  have KR5 : Hid (Blk (w4.setRow w.heap.size #[.string q, .int .i64 r.x1, .string r.x2, .int .i64 r.x3]) w.heap.size 33 #[.string q, .int .i64 r.x1, .string r.x2, .int .i64 r.x3]) := Lib.hid (Part.setRow_blk KR4.out _)
  have K5 : Hid (Blk (w4.setRow w.heap.size #[.string q, .int .i64 r.x1, .string r.x2, .int .i64 r.x3]) w2.heap.size 31 #[.string q, .int .i64 r.x1]) := Lib.hid ((setRow_other _ _ _ _ (by have := L2.out; omega)).trans K4.out)
  have G5 := Lib.hid (HG.out.below B5.out GL.out)
  have R5 := Lib.hid (HX.out.below B5.out)
  have PL := Lib.hid (place_c g A n c rs q r.x1 (w4.setRow w.heap.size #[.string q, .int .i64 r.x1, .string r.x2, .int .i64 r.x3]) G5.out R5.out RN.out few H.out.tab (by have := QS.out; omega))
  rw [HTH.out, HI.out] at PL
  clear hb4 VC K3 J2 KR3 B3 HG HX
  go_wp2_with (first
    | (refine Store.at_load 3 (.tmp 25) ?_ ?_; exact rfl; refine Store2.wpList_load_cell rfl 3 (.tmp 25) rfl w.heap.size 3 (.int .i64 r.x3) rfl _ Try.underlying3 rfl 33 _ KR4.out rfl ?_)
    | (refine Store.at_load 31 (.tmp 5) ?_ ?_; exact rfl; refine Loads.wpList_load_w rfl 31 (.tmp 5) rfl w2.heap.size rfl 31 #[.string q, .int .i64 r.x1] (0, 0) _ (K4.out) Try.underlying31 rfl (by kernel_rfl) ?_)
    | (refine Store.at_store 31 (.tmp 30) (.tmp 29) ?_ ?_; exact rfl; refine Store.wpList_store_two rfl 31 (.tmp 30) (.tmp 29) rfl w.heap.size 0 (.string q) (.int .i64 r.x1) rfl rfl 33 _ KR4.out (by simp) (by kernel_rfl) rfl rfl #[.string q, .int .i64 r.x1, .string r.x2, .int .i64 r.x3] rfl ?_)
    | (refine Store.at_load 31 (.tmp 5) ?_ ?_; exact rfl; refine Loads.wpList_load_w rfl 31 (.tmp 5) rfl w2.heap.size rfl 31 #[.string q, .int .i64 r.x1] (0, 0) _ (K5.out) Try.underlying31 rfl (by kernel_rfl) ?_))
  generalize w4.setRow w.heap.size #[.string q, .int .i64 r.x1, .string r.x2, .int .i64 r.x3] = w5 at *
  refine PL.out.mono ?_
  rintro e w6 ⟨rfl, hb6⟩
  have B6 := Lib.hid (B5.out.trans (hb6.mono B5.out.size))
  have G6 := Lib.hid (G5.out.below hb6 G5.out.lt)
  have R6 := Lib.hid (R5.out.below hb6)
  have K6 := Lib.hid (KR5.out.below hb6 KR5.out.lt)
  clear hb6 PL K4 K5 KR4 KR5 G5 R5 B5 B4
  have c1 := G6.out.cell 1
  have g3 : decide ((64 : Int) ≤ (n : Int)) = true := decide_eq_true (by omega)
  have g3' : decide (64 ≤ n) = true := decide_eq_true hfull
  go_wp2_with fail
  go_ret
  exact ⟨rfl, H.out.below B6.out, Keep.of B6.out⟩
set_option maxRecDepth 100000 in
set_option maxHeartbeats 4000000 in
theorem add_there (F : Nat → Prop) (g : Nat) (rs : List RouteR) (r : RouteR) (w : World) (h : RtAt F w g rs) (hF : ∀ k, F k → k < w.heap.size) (ha : r.x0.size ≤ maxLen) (hv : r.x2.size ≤ maxLen) (hok : addB r.x0 r.x1 r.x2 r.x3 = true) (hth : thereB rs (pfx r.x0 r.x1) r.x1 = true) :
    Calls Try.prog 10 #[.pointer (some ⟨g, 0, none⟩), .agg (RA r)] w fun e w' => e = .returned (.int .i64 0) ∧ RtAt F w' g (addL rs r.x0 r.x1 r.x2 r.x3) ∧ Keep F w w' := by
  obtain ⟨hfb, hvb, hpb⟩ := code_ok r hok
  have good := good_new hok
  obtain ⟨n, hn⟩ : ∃ n, rs.length = n := ⟨_, rfl⟩
  have few := h.few
  rw [hn] at few
  have RN := Lib.hid hn
  have qs := pfx_size r.x0 r.x1
  have H := Lib.hid h
  have HF := Lib.hid hF
  obtain ⟨mm, hmm⟩ : ∃ mm, (if fitB r.x0.size r.x1 then r.x1 else 0) = mm := ⟨_, rfl⟩
  obtain ⟨ec, hec⟩ : ∃ ec, (if fitB r.x0.size r.x1 then (0 : Int) else 1) = ec := ⟨_, rfl⟩
  obtain ⟨q, hq⟩ : ∃ q, pfx r.x0 r.x1 = q := ⟨_, rfl⟩
  have MC := Lib.hid (fun W => masked_any r.x0 r.x1 ha W)
  rw [hmm, hec, hq] at MC
  have VC := Lib.hid (fun W => via_c r ha hv W)
  have B0 := Lib.hid ((Below.refl w.heap.size w).alloc (Nat.le_refl _) (.cells (RA r) 33))
  have K0 := Lib.hid (Blk.new w 33 (RA r))
  have RP : (loadVar 31 ⟨w.heap.size, 0, none⟩).run Try.prog (w.alloc (.cells (RA r) 33)) = .ok (.agg #[.string r.x0, .int .i64 r.x1]) (w.alloc (.cells (RA r) 33)) := Part.run_part _ w.heap.size 0 31 [.string r.x0, .int .i64 r.x1] _ Try.underlying31 rfl (by kernel_rfl) (TabOps.blk_part K0.out 0 2)
  obtain rfl : ec = 0 := by rw [← hec, hfb]; rfl
  obtain rfl : mm = r.x1 := by rw [← hmm, hfb]; rfl
  rw [hvb] at VC
  rw [hq] at hth good qs
  have GD := Lib.hid good
  have HQ := Lib.hid hq
  have HTH := Lib.hid hth
  have TN : Hid (Tab (addL rs r.x0 r.x1 r.x2 r.x3)) := Lib.hid (h.tab.add _ _ _ _)
  obtain ⟨A, c, hg0, hx0, hFg, hFA, hgA⟩ := h.ex
  rw [hn] at hg0 hx0
  have HG := Lib.hid hg0
  have HX := Lib.hid hx0
  have GL := Lib.hid hg0.lt
  have X1 := Lib.hid hFg
  have X2 := Lib.hid hFA
  have X3 := Lib.hid hgA
  obtain ⟨i, hi⟩ : ∃ i, placeN rs q r.x1 = i := ⟨_, rfl⟩
  have HI := Lib.hid hi
  have iln : i ≤ n := by rw [← hi, ← hn]; exact placeN_le _ _ _
  have QS := Lib.hid qs
  have AL : Hid (addL rs r.x0 r.x1 r.x2 r.x3 = rs.set i (⟨q, r.x1, r.x2, r.x3⟩ : RouteR)) := Lib.hid (by
    unfold addL
    rw [hok, if_pos rfl, hq, hth, hi]
    rw [if_pos rfl])
  clear h hF hq hmm hec hfb ha hv hvb hok hth good hg0 hx0 hFg hFA hgA hi hn qs
  go_enter Try.func10, Try.ntmps10
  go_wp2_with (refine Store.at_load 31 (.tmp 12) ?_ ?_; exact rfl; refine Part.wpList_load_part rfl 31 (.tmp 12) rfl w.heap.size 0 [.string r.x0, .int .i64 r.x1] rfl RP ?_)
  refine (MC.out _).mono ?_
  rintro e w2 ⟨rfl, hb2⟩
  have B2 := Lib.hid (B0.out.trans (hb2.mono B0.out.size))
  have L2 : Hid (w.heap.size < w2.heap.size) := Lib.hid (by have := hb2.size; simp at this; omega)
  have KR2 := Lib.hid (K0.out.below hb2 K0.out.lt)
  have J2 := Lib.hid (Blk.new w2 31 #[.string ⟨#[]⟩, .int .i64 0])
  have K3 := Lib.hid (Part.setRow_blk J2.out #[.string q, .int .i64 r.x1])
  have B3 : Hid (Below w.heap.size w ((w2.alloc (.cells #[.string ⟨#[]⟩, .int .i64 0] 31)).setRow w2.heap.size #[.string q, .int .i64 r.x1])) := Lib.hid (setRow_bel (B2.out.alloc B2.out.size _) B2.out.size _)
  have KR3 : Hid (Blk ((w2.alloc (.cells #[.string ⟨#[]⟩, .int .i64 0] 31)).setRow w2.heap.size #[.string q, .int .i64 r.x1]) w.heap.size 33 (RA r)) := Lib.hid ((setRow_other _ _ _ _ (by have := L2.out; omega)).trans (Blk.alloc KR2.out _))
  clear hb2 RP K0 B0 B2 KR2 MC
  go_wp2_with (first | (refine Store.at_store 31 (.tmp 5) (.tmp 15) ?_ ?_; exact rfl; refine wpList_store_row rfl 31 (.tmp 5) (.tmp 15) rfl w2.heap.size #[.string q, .int .i64 r.x1] rfl rfl 31 _ J2.out (by kernel_rfl) rfl (one_pf _ _) ?_) | (refine Store.at_load 33 (.tmp 3) ?_ ?_; exact rfl; refine Loads.wpList_load_w rfl 33 (.tmp 3) rfl w.heap.size rfl 33 (RA r) (0, 0) _ (KR3.out) Try.underlying33 rfl (by kernel_rfl) ?_))
  refine (VC.out _).mono ?_
  rintro e w4 ⟨rfl, hb4⟩
  have B4 := Lib.hid (B3.out.trans (hb4.mono B3.out.size))
  have KR4 := Lib.hid (KR3.out.below hb4 KR3.out.lt)
  have K4 := Lib.hid (K3.out.below hb4 K3.out.lt)
  have B5 : Hid (Below w.heap.size w (w4.setRow w.heap.size #[.string q, .int .i64 r.x1, .string r.x2, .int .i64 r.x3])) := Lib.hid (setRow_bel B4.out (Nat.le_refl _) _)
  have KR5 : Hid (Blk (w4.setRow w.heap.size #[.string q, .int .i64 r.x1, .string r.x2, .int .i64 r.x3]) w.heap.size 33 #[.string q, .int .i64 r.x1, .string r.x2, .int .i64 r.x3]) := Lib.hid (Part.setRow_blk KR4.out _)
  have K5 : Hid (Blk (w4.setRow w.heap.size #[.string q, .int .i64 r.x1, .string r.x2, .int .i64 r.x3]) w2.heap.size 31 #[.string q, .int .i64 r.x1]) := Lib.hid ((setRow_other _ _ _ _ (by have := L2.out; omega)).trans K4.out)
  have G5 := Lib.hid (HG.out.below B5.out GL.out)
  have R5 := Lib.hid (HX.out.below B5.out)
  have PL := Lib.hid (place_c g A n c rs q r.x1 (w4.setRow w.heap.size #[.string q, .int .i64 r.x1, .string r.x2, .int .i64 r.x3]) G5.out R5.out RN.out few H.out.tab (by have := QS.out; omega))
  rw [HTH.out, HI.out] at PL
  clear hb4 VC K3 J2 KR3 B3 HG HX
  go_wp2_with (first
    | (refine Store.at_load 3 (.tmp 25) ?_ ?_; exact rfl; refine Store2.wpList_load_cell rfl 3 (.tmp 25) rfl w.heap.size 3 (.int .i64 r.x3) rfl _ Try.underlying3 rfl 33 _ KR4.out rfl ?_)
    | (refine Store.at_load 31 (.tmp 5) ?_ ?_; exact rfl; refine Loads.wpList_load_w rfl 31 (.tmp 5) rfl w2.heap.size rfl 31 #[.string q, .int .i64 r.x1] (0, 0) _ (K4.out) Try.underlying31 rfl (by kernel_rfl) ?_)
    | (refine Store.at_store 31 (.tmp 30) (.tmp 29) ?_ ?_; exact rfl; refine Store.wpList_store_two rfl 31 (.tmp 30) (.tmp 29) rfl w.heap.size 0 (.string q) (.int .i64 r.x1) rfl rfl 33 _ KR4.out (by simp) (by kernel_rfl) rfl rfl #[.string q, .int .i64 r.x1, .string r.x2, .int .i64 r.x3] rfl ?_)
    | (refine Store.at_load 31 (.tmp 5) ?_ ?_; exact rfl; refine Loads.wpList_load_w rfl 31 (.tmp 5) rfl w2.heap.size rfl 31 #[.string q, .int .i64 r.x1] (0, 0) _ (K5.out) Try.underlying31 rfl (by kernel_rfl) ?_))
  generalize w4.setRow w.heap.size #[.string q, .int .i64 r.x1, .string r.x2, .int .i64 r.x3] = w5 at *
  refine PL.out.mono ?_
  rintro e w6 ⟨rfl, hb6⟩
  have B6 := Lib.hid (B5.out.trans (hb6.mono B5.out.size))
  have G6 := Lib.hid (G5.out.below hb6 G5.out.lt)
  have R6 := Lib.hid (R5.out.below hb6)
  have K6 := Lib.hid (KR5.out.below hb6 KR5.out.lt)
  clear hb6 PL K4 K5 KR4 KR5 G5 R5 B5 B4
  have IL : Hid (i < n) := Lib.hid (by have := there_lt HTH.out; rw [HI.out, RN.out] at this; exact this)
  obtain ⟨b, X, rfl, -, -, -⟩ := R6.out.some (by have := IL.out; omega)
  have OC := Lib.hid (fun W => own_c (⟨q, r.x1, r.x2, r.x3⟩ : RouteR) W (Nat.le_trans (show q.size ≤ 16 from (good_size GD.out).1) (by unfold maxT; omega)) (Nat.le_trans (show r.x2.size ≤ 16 from (good_size GD.out).2) (by unfold maxT; omega)))
  go_wp2_with fail
  have XT : Hid (∀ V, Below w6.drew.heap.size w6.drew V → Blk V g 54 #[FN, .slice (some ⟨b, 0, none⟩) n c]) := Lib.hid fun V hV => Blk.below (show Blk w6.drew g 54 _ from G6.out) hV (Blk.lt G6.out)
  have XR : Hid (∀ V, Below w6.drew.heap.size w6.drew V → Blk V w.heap.size 33 #[.string q, .int .i64 r.x1, .string r.x2, .int .i64 r.x3]) := Lib.hid fun V hV => Blk.below (show Blk w6.drew w.heap.size 33 #[.string q, .int .i64 r.x1, .string r.x2, .int .i64 r.x3] from K6.out) hV (Blk.lt K6.out)
  refine wp_region_free [0, 1, 2, 3, 4, 5, 6] 7 [8] (fun w1 w2 => Below w1.heap.size w1 w2) (fun k' w' v => match k' with
    | 0 => v = .pointer (some ⟨g, 0, none⟩)
    | 1 => v = .pointer (some ⟨g, 0, none⟩)
    | 2 => v = .pointer (some ⟨g, 1, none⟩)
    | 3 => v = .slice (some ⟨b, 0, none⟩) n c
    | 4 => v = .int .i64 (((i : Nat) : Int))
    | 5 => v = .agg #[.string q, .int .i64 r.x1, .string r.x2, .int .i64 r.x3]
    | _ => v = .agg #[.string q, .int .i64 r.x1, .string r.x2, .int .i64 r.x3]) (by kernel_rfl) (by kernel_rfl) (Below.refl _ _) (fun _ _ _ h k => h.trans (k.mono h.size)) (fun k' w1 w2 v h => match k' with
    | 0 => fun x => x
    | 1 => fun x => x
    | 2 => fun x => x
    | 3 => fun x => x
    | 4 => fun x => x
    | 5 => fun x => x
    | _ + 6 => fun x => x) (fun _ _ _ _ _ h => h) ?_ _ (by rfl) ?_
  · refine obs_cons (by rfl) (fun vals w' hgr hdep K hK => ?_) (obs_cons (by rfl) (fun vals w' hgr hdep K hK => ?_) (obs_cons (by rfl) (fun vals w' hgr hdep K hK => ?_) (obs_cons (by rfl) (fun vals w' hgr hdep K hK => ?_) (obs_cons (by rfl) (fun vals w' hgr hdep K hK => ?_) (obs_cons (by rfl) (fun vals w' hgr hdep K hK => ?_) (obs_cons (by rfl) (fun vals w' hgr hdep K hK => ?_) (obs_nil)))))))
    · exact wp_move (.tmp 0) rfl _ (at_out _ (by kernel_rfl) rfl) (hK _ _ (Below.refl _ _) rfl)
    · exact MapS.st_nil (.tmp 51) rfl _ ((at_dst 0 (by kernel_rfl)).trans (hdep 0 (by simp) (by kernel_rfl))) (hK _ _ (Below.refl _ _) rfl)
    · exact wp_field (.tmp 52) rfl _ _ ((at_dst 1 (by kernel_rfl)).trans (hdep 1 (by simp) (by kernel_rfl))) (by kernel_rfl) (hK _ _ (Below.refl _ _) rfl)
    · exact wp_load1 (.tmp 53) rfl ⟨g, 1, none⟩ ((at_dst 2 (by kernel_rfl)).trans (hdep 2 (by simp) (by kernel_rfl))) Try.underlying27 rfl _ ((XT.out w' hgr).cell 1) (hK _ _ (Below.refl _ _) rfl)
    · exact wp_move (.tmp 7) rfl _ (at_out _ (by kernel_rfl) rfl) (hK _ _ (Below.refl _ _) rfl)
    · exact Part.st_load_part 33 (.tmp 3) rfl w.heap.size 0 [.string q, .int .i64 r.x1, .string r.x2, .int .i64 r.x3] (at_out _ (by kernel_rfl) rfl) (Part.run_part _ _ _ _ _ _ Try.underlying33 rfl (by kernel_rfl) (blk_part (XR.out w' hgr) 0 4)) (hK _ _ (Below.refl _ _) rfl)
    · exact wp_call 26 [.tmp 56] _ rfl ent_own [.agg #[.string q, .int .i64 r.x1, .string r.x2, .int .i64 r.x3]] (Draw.list1 ((at_dst 5 (by kernel_rfl)).trans (hdep 5 (by simp) (by kernel_rfl)))) (fun v w'' => v = .agg #[.string q, .int .i64 r.x1, .string r.x2, .int .i64 r.x3] ∧ Below w'.heap.size w' w'') ((OC.out w').mono fun e w'' ⟨h1, h2⟩ => ⟨_, h1, rfl, h2⟩) (fun v w'' ⟨h1, h2⟩ => hK _ _ h2 h1)
  · intro vals w' hgr hG
    have e3 : vals 3 = .slice (some ⟨b, 0, none⟩) n c := hG 3 (by simp)
    have e4 : vals 4 = .int .i64 ((i : Nat) : Int) := hG 4 (by simp)
    have e6 : vals 6 = .agg #[.string q, .int .i64 r.x1, .string r.x2, .int .i64 r.x3] := hG 6 (by simp)
    have hU : Below w6.heap.size w6 w' := Draw.below_1 hgr
    obtain ⟨w8, RS, hr8, hk8⟩ := row_set (R6.out.below hU) RN.out IL.out (⟨q, r.x1, r.x2, r.x3⟩ : RouteR)
    refine Part.st_elem_at (N := 4) (.tmp 54) (.tmp 55) rfl Try.underlying27 (by kernel_rfl) b 0 n c i ((at_dst 3 (by kernel_rfl)).trans e3) ((at_dst 4 (by kernel_rfl)).trans e4) IL.out ?_
    refine wpAnyH_next 8 _ rfl rfl (by kernel_rfl) (st_store_run 33 (.tmp 58) (.tmp 57) rfl ⟨b, 0 + i * 4, none⟩ (put_tmps_eq (fill_size _ _ _) (by kernel_rfl)) _ (put_tmps_ne (by rfl) ((at_dst 6 (by kernel_rfl)).trans e6)) RS ⟨trivial, wpAnyH_done (by kernel_rfl) ?_ _⟩)
    have B7 := Lib.hid (B6.out.trans (hU.mono B6.out.size))
    have G7 := Lib.hid (G6.out.below hU G6.out.lt)
    have E : Hid (RtAt F w8 g (addL rs r.x0 r.x1 r.x2 r.x3) ∧ Keep F w w8) := Lib.hid (by
      refine ⟨⟨⟨some ⟨b, 0, none⟩, c, ?_, ?_, X1.out, X2.out, X3.out⟩, TN.out, by rw [AL.out, List.length_set]; exact H.out.few⟩, (Keep.of B7.out).trans (hk8.mono fun k f _ z => X2.out k z f)⟩
      · rw [AL.out, List.length_set, RN.out]
        exact (hk8.block g X3.out G7.out.lt).trans G7.out
      · rw [AL.out, List.length_set, RN.out]
        exact hr8)
    clear hG hgr hU RS hr8 hk8 XT XR G6 R6 K6 OC e3 e4 e6
    simp only [fill, dstAt, List.getElem?_cons_zero, List.getElem?_cons_succ, Option.bind_some, Act.put, List.setIfInBounds_toArray, List.set_cons_zero, List.set_cons_succ]
    generalize vals 0 = z0, vals 1 = z1, vals 2 = z2, vals 3 = z3, vals 4 = z4, vals 5 = z5, vals 6 = z6 at *
    go_wp2_with fail
    go_ret
    exact ⟨rfl, E.out.1, E.out.2⟩
set_option maxRecDepth 100000 in
set_option maxHeartbeats 4000000 in
theorem add_new (F : Nat → Prop) (g : Nat) (rs : List RouteR) (r : RouteR) (w : World) (h : RtAt F w g rs) (hF : ∀ k, F k → k < w.heap.size) (ha : r.x0.size ≤ maxLen) (hv : r.x2.size ≤ maxLen) (hok : addB r.x0 r.x1 r.x2 r.x3 = true) (hth : thereB rs (pfx r.x0 r.x1) r.x1 = false) (hfull : ¬ 64 ≤ rs.length) :
    Calls Try.prog 10 #[.pointer (some ⟨g, 0, none⟩), .agg (RA r)] w fun e w' => e = .returned (.int .i64 0) ∧ RtAt F w' g (addL rs r.x0 r.x1 r.x2 r.x3) ∧ Keep F w w' := by
  obtain ⟨hfb, hvb, hpb⟩ := code_ok r hok
  have good := good_new hok
  obtain ⟨n, hn⟩ : ∃ n, rs.length = n := ⟨_, rfl⟩
  have few := h.few
  rw [hn] at few
  have RN := Lib.hid hn
  have qs := pfx_size r.x0 r.x1
  have H := Lib.hid h
  have HF := Lib.hid hF
  obtain ⟨mm, hmm⟩ : ∃ mm, (if fitB r.x0.size r.x1 then r.x1 else 0) = mm := ⟨_, rfl⟩
  obtain ⟨ec, hec⟩ : ∃ ec, (if fitB r.x0.size r.x1 then (0 : Int) else 1) = ec := ⟨_, rfl⟩
  obtain ⟨q, hq⟩ : ∃ q, pfx r.x0 r.x1 = q := ⟨_, rfl⟩
  have MC := Lib.hid (fun W => masked_any r.x0 r.x1 ha W)
  rw [hmm, hec, hq] at MC
  have VC := Lib.hid (fun W => via_c r ha hv W)
  have B0 := Lib.hid ((Below.refl w.heap.size w).alloc (Nat.le_refl _) (.cells (RA r) 33))
  have K0 := Lib.hid (Blk.new w 33 (RA r))
  have RP : (loadVar 31 ⟨w.heap.size, 0, none⟩).run Try.prog (w.alloc (.cells (RA r) 33)) = .ok (.agg #[.string r.x0, .int .i64 r.x1]) (w.alloc (.cells (RA r) 33)) := Part.run_part _ w.heap.size 0 31 [.string r.x0, .int .i64 r.x1] _ Try.underlying31 rfl (by kernel_rfl) (TabOps.blk_part K0.out 0 2)
  obtain rfl : ec = 0 := by rw [← hec, hfb]; rfl
  obtain rfl : mm = r.x1 := by rw [← hmm, hfb]; rfl
  rw [hvb] at VC
  rw [hq] at hth good qs
  have GD := Lib.hid good
  have HQ := Lib.hid hq
  have HTH := Lib.hid hth
  have TN : Hid (Tab (addL rs r.x0 r.x1 r.x2 r.x3)) := Lib.hid (h.tab.add _ _ _ _)
  obtain ⟨A, c, hg0, hx0, hFg, hFA, hgA⟩ := h.ex
  rw [hn] at hg0 hx0 hfull
  have HG := Lib.hid hg0
  have HX := Lib.hid hx0
  have GL := Lib.hid hg0.lt
  have NBX : Hid (∀ k, own A k → k < w.heap.size) := Lib.hid fun k hk => hx0.lt hk
  have X1 := Lib.hid hFg
  have X2 := Lib.hid hFA
  have X3 := Lib.hid hgA
  obtain ⟨i, hi⟩ : ∃ i, placeN rs q r.x1 = i := ⟨_, rfl⟩
  have HI := Lib.hid hi
  have iln : i ≤ n := by rw [← hi, ← hn]; exact placeN_le _ _ _
  have QS := Lib.hid qs
  have AL : Hid (addL rs r.x0 r.x1 r.x2 r.x3 = rs.take i ++ (⟨q, r.x1, r.x2, r.x3⟩ : RouteR) :: rs.drop i) := Lib.hid (by
    unfold addL
    rw [hok, if_pos rfl, hq, hth, hi]
    rw [if_neg (by simp), if_neg (by omega)])
  clear h hF hq hmm hec hfb ha hv hvb hok hth good hg0 hx0 hFg hFA hgA hi hn qs
  go_enter Try.func10, Try.ntmps10
  go_wp2_with (refine Store.at_load 31 (.tmp 12) ?_ ?_; exact rfl; refine Part.wpList_load_part rfl 31 (.tmp 12) rfl w.heap.size 0 [.string r.x0, .int .i64 r.x1] rfl RP ?_)
  refine (MC.out _).mono ?_
  rintro e w2 ⟨rfl, hb2⟩
  have B2 := Lib.hid (B0.out.trans (hb2.mono B0.out.size))
  have L2 : Hid (w.heap.size < w2.heap.size) := Lib.hid (by have := hb2.size; simp at this; omega)
  have KR2 := Lib.hid (K0.out.below hb2 K0.out.lt)
  have J2 := Lib.hid (Blk.new w2 31 #[.string ⟨#[]⟩, .int .i64 0])
  have K3 := Lib.hid (Part.setRow_blk J2.out #[.string q, .int .i64 r.x1])
  have B3 : Hid (Below w.heap.size w ((w2.alloc (.cells #[.string ⟨#[]⟩, .int .i64 0] 31)).setRow w2.heap.size #[.string q, .int .i64 r.x1])) := Lib.hid (setRow_bel (B2.out.alloc B2.out.size _) B2.out.size _)
  have KR3 : Hid (Blk ((w2.alloc (.cells #[.string ⟨#[]⟩, .int .i64 0] 31)).setRow w2.heap.size #[.string q, .int .i64 r.x1]) w.heap.size 33 (RA r)) := Lib.hid ((setRow_other _ _ _ _ (by have := L2.out; omega)).trans (Blk.alloc KR2.out _))
  clear hb2 RP K0 B0 B2 KR2 MC
  go_wp2_with (first | (refine Store.at_store 31 (.tmp 5) (.tmp 15) ?_ ?_; exact rfl; refine wpList_store_row rfl 31 (.tmp 5) (.tmp 15) rfl w2.heap.size #[.string q, .int .i64 r.x1] rfl rfl 31 _ J2.out (by kernel_rfl) rfl (one_pf _ _) ?_) | (refine Store.at_load 33 (.tmp 3) ?_ ?_; exact rfl; refine Loads.wpList_load_w rfl 33 (.tmp 3) rfl w.heap.size rfl 33 (RA r) (0, 0) _ (KR3.out) Try.underlying33 rfl (by kernel_rfl) ?_))
  refine (VC.out _).mono ?_
  rintro e w4 ⟨rfl, hb4⟩
  have B4 := Lib.hid (B3.out.trans (hb4.mono B3.out.size))
  have KR4 := Lib.hid (KR3.out.below hb4 KR3.out.lt)
  have K4 := Lib.hid (K3.out.below hb4 K3.out.lt)
  have B5 : Hid (Below w.heap.size w (w4.setRow w.heap.size #[.string q, .int .i64 r.x1, .string r.x2, .int .i64 r.x3])) := Lib.hid (setRow_bel B4.out (Nat.le_refl _) _)
  have KR5 : Hid (Blk (w4.setRow w.heap.size #[.string q, .int .i64 r.x1, .string r.x2, .int .i64 r.x3]) w.heap.size 33 #[.string q, .int .i64 r.x1, .string r.x2, .int .i64 r.x3]) := Lib.hid (Part.setRow_blk KR4.out _)
  have K5 : Hid (Blk (w4.setRow w.heap.size #[.string q, .int .i64 r.x1, .string r.x2, .int .i64 r.x3]) w2.heap.size 31 #[.string q, .int .i64 r.x1]) := Lib.hid ((setRow_other _ _ _ _ (by have := L2.out; omega)).trans K4.out)
  have G5 := Lib.hid (HG.out.below B5.out GL.out)
  have R5 := Lib.hid (HX.out.below B5.out)
  have PL := Lib.hid (place_c g A n c rs q r.x1 (w4.setRow w.heap.size #[.string q, .int .i64 r.x1, .string r.x2, .int .i64 r.x3]) G5.out R5.out RN.out few H.out.tab (by have := QS.out; omega))
  rw [HTH.out, HI.out] at PL
  clear hb4 VC K3 J2 KR3 B3 HG HX
  go_wp2_with (first
    | (refine Store.at_load 3 (.tmp 25) ?_ ?_; exact rfl; refine Store2.wpList_load_cell rfl 3 (.tmp 25) rfl w.heap.size 3 (.int .i64 r.x3) rfl _ Try.underlying3 rfl 33 _ KR4.out rfl ?_)
    | (refine Store.at_load 31 (.tmp 5) ?_ ?_; exact rfl; refine Loads.wpList_load_w rfl 31 (.tmp 5) rfl w2.heap.size rfl 31 #[.string q, .int .i64 r.x1] (0, 0) _ (K4.out) Try.underlying31 rfl (by kernel_rfl) ?_)
    | (refine Store.at_store 31 (.tmp 30) (.tmp 29) ?_ ?_; exact rfl; refine Store.wpList_store_two rfl 31 (.tmp 30) (.tmp 29) rfl w.heap.size 0 (.string q) (.int .i64 r.x1) rfl rfl 33 _ KR4.out (by simp) (by kernel_rfl) rfl rfl #[.string q, .int .i64 r.x1, .string r.x2, .int .i64 r.x3] rfl ?_)
    | (refine Store.at_load 31 (.tmp 5) ?_ ?_; exact rfl; refine Loads.wpList_load_w rfl 31 (.tmp 5) rfl w2.heap.size rfl 31 #[.string q, .int .i64 r.x1] (0, 0) _ (K5.out) Try.underlying31 rfl (by kernel_rfl) ?_))
  generalize w4.setRow w.heap.size #[.string q, .int .i64 r.x1, .string r.x2, .int .i64 r.x3] = w5 at *
  refine PL.out.mono ?_
  rintro e w6 ⟨rfl, hb6⟩
  have B6 := Lib.hid (B5.out.trans (hb6.mono B5.out.size))
  have G6 := Lib.hid (G5.out.below hb6 G5.out.lt)
  have R6 := Lib.hid (R5.out.below hb6)
  have K6 := Lib.hid (KR5.out.below hb6 KR5.out.lt)
  clear hb6 PL K4 K5 KR4 KR5 G5 R5 B5 B4
  have c1 := G6.out.cell 1
  have g3 : decide ((64 : Int) ≤ (n : Int)) = false := decide_eq_false (by omega)
  have g3' : decide (64 ≤ n) = false := decide_eq_false hfull
  have N64 := Lib.hid (show n < 64 by omega)
  have HIN := Lib.hid iln
  have OC := Lib.hid (fun W => own_c (⟨q, r.x1, r.x2, r.x3⟩ : RouteR) W (Nat.le_trans (show q.size ≤ 16 from (good_size GD.out).1) (by unfold maxT; omega)) (Nat.le_trans (show r.x2.size ≤ 16 from (good_size GD.out).2) (by unfold maxT; omega)))
  have fits : Hid ((rs.take i ++ (⟨q, r.x1, r.x2, r.x3⟩ : RouteR) :: rs.drop i).length = n + 1 ∧ (rs.take i ++ (⟨q, r.x1, r.x2, r.x3⟩ : RouteR) :: rs.drop i).flatMap RouteR.cells = (rs.flatMap RouteR.cells).take (i * 4) ++ ((RA (⟨q, r.x1, r.x2, r.x3⟩ : RouteR)).toList ++ (rs.flatMap RouteR.cells).drop (i * 4))) := Lib.hid ⟨by have := RN.out; simp; omega, by rw [List.flatMap_append, List.flatMap_cons, TabA.flat_take, TabA.flat_drop]; rfl⟩
  go_wp2_with fail
  clear c1
  obtain ⟨fin, hfin⟩ : ∃ fin, fin = (rs.flatMap RouteR.cells).take (i * 4) ++ ((RA (⟨q, r.x1, r.x2, r.x3⟩ : RouteR)).toList ++ (rs.flatMap RouteR.cells).drop (i * 4)) := ⟨_, rfl⟩
  have FIN := Lib.hid hfin
  clear hfin
  obtain ⟨S0, hS0⟩ : ∃ S0, S0 = w6.heap.size := ⟨_, rfl⟩
  have SZ := Lib.hid hS0
  clear hS0
  have OWN : Hid (∀ k, S0 ≤ k → ¬ own A k) := Lib.hid fun k hk z => by
    have := R6.out.lt z
    have := SZ.out
    omega
  have NB : Hid (¬ own A w.heap.size) := Lib.hid fun z => by
    obtain ⟨Y, hY⟩ := R6.out.type z
    have e0 := K6.out
    unfold Blk at e0
    rw [hY] at e0
    have := NBX.out _ z
    omega
  have SZ' : Hid (S0 ≤ w6.drew.heap.size) := Lib.hid (by rw [SZ.out]; exact Nat.le_refl _)
  have XT : Hid (∀ V, Gr A n fin w6.drew V → Blk V g 54 #[FN, .slice A n c]) := Lib.hid fun V hV => hV.blk (show Blk w6.drew g _ _ from G6.out) X3.out
  have XR : Hid (∀ V, Gr A n fin w6.drew V → Blk V w.heap.size 33 #[.string q, .int .i64 r.x1, .string r.x2, .int .i64 r.x3]) := Lib.hid fun V hV => hV.blk (show Blk w6.drew w.heap.size _ _ from K6.out) NB.out
  refine FreeO.wp_region_freeO [0, 1, 2, 3, 4, 5, 6, 7, 8, 9] 10 [11, 12] [] (fun j V => j = 9 → RowAt InsT.RT 4 V A n c (rs.flatMap RouteR.cells)) (Gr A n fin) (fun k' w' v => match k' with
    | 0 => v = .pointer (some ⟨g, 0, none⟩)
    | 1 => v = .pointer (some ⟨g, 0, none⟩)
    | 2 => v = .pointer (some ⟨g, 0, none⟩)
    | 3 => v = .pointer (some ⟨g, 1, none⟩)
    | 4 => v = .slice A n c
    | 5 => v = .int .i64 (((i : Nat) : Int))
    | 6 => v = .agg #[.string q, .int .i64 r.x1, .string r.x2, .int .i64 r.x3]
    | 7 => v = .agg #[.string q, .int .i64 r.x1, .string r.x2, .int .i64 r.x3]
    | 8 => ∃ vb, v = .slice (some ⟨vb, 0, none⟩) 1 1 ∧ Blk w' vb 33 (RA (⟨q, r.x1, r.x2, r.x3⟩ : RouteR)) ∧ S0 ≤ vb
    | _ => ∃ A' c', v = .slice A' (n + 1) c' ∧ RowAt InsT.RT 4 w' A' (n + 1) c' fin ∧ (A' = A ∨ ∃ k, A' = some ⟨k, 0, none⟩ ∧ S0 ≤ k)) (by kernel_rfl) (by kernel_rfl) (fun q hq => by cases hq) (Gr.refl _) (fun j hj e => R6.out.keep fun _ _ _ => rfl) (fun _ _ _ h k => h.trans k) (fun k' w1 w2 v h => match k' with
    | 0 => fun x => x
    | 1 => fun x => x
    | 2 => fun x => x
    | 3 => fun x => x
    | 4 => fun x => x
    | 5 => fun x => x
    | 6 => fun x => x
    | 7 => fun x => x
    | 8 => fun ⟨vb, e1, e2, e3⟩ => ⟨vb, e1, h.blk e2 (OWN.out vb e3), e3⟩
    | _ + 9 => fun ⟨A', c', e1, e2, e3⟩ => ⟨A', c', e1, h.2 A' c' e2, e3⟩) (fun _ _ _ _ _ h => h) ?_ _ (by rfl) ?_
  · refine FreeO.obsO_cons (by rfl) (fun vals w' hgr hN hdep K hK => ?_) (FreeO.obsO_cons (by rfl) (fun vals w' hgr hN hdep K hK => ?_) (FreeO.obsO_cons (by rfl) (fun vals w' hgr hN hdep K hK => ?_) (FreeO.obsO_cons (by rfl) (fun vals w' hgr hN hdep K hK => ?_) (FreeO.obsO_cons (by rfl) (fun vals w' hgr hN hdep K hK => ?_) (FreeO.obsO_cons (by rfl) (fun vals w' hgr hN hdep K hK => ?_) (FreeO.obsO_cons (by rfl) (fun vals w' hgr hN hdep K hK => ?_) (FreeO.obsO_cons (by rfl) (fun vals w' hgr hN hdep K hK => ?_) (FreeO.obsO_cons (by rfl) (fun vals w' hgr hN hdep K hK => ?_) (FreeO.obsO_cons (by rfl) (fun vals w' hgr hN hdep K hK => ?_) (FreeO.obsO_nil))))))))))
    · exact wp_move (.tmp 0) rfl _ (at_out _ (by kernel_rfl) rfl) (hK _ _ (Gr.refl _) (fun _ _ _ h => h) rfl)
    · exact wp_move (.tmp 0) rfl _ (at_out _ (by kernel_rfl) rfl) (hK _ _ (Gr.refl _) (fun _ _ _ h => h) rfl)
    · exact MapS.st_nil (.tmp 38) rfl _ ((at_dst 1 (by kernel_rfl)).trans (hdep 1 (by simp) (by kernel_rfl))) (hK _ _ (Gr.refl _) (fun _ _ _ h => h) rfl)
    · exact wp_field (.tmp 39) rfl _ _ ((at_dst 2 (by kernel_rfl)).trans (hdep 2 (by simp) (by kernel_rfl))) (by kernel_rfl) (hK _ _ (Gr.refl _) (fun _ _ _ h => h) rfl)
    · exact wp_load1 (.tmp 40) rfl ⟨g, 1, none⟩ ((at_dst 3 (by kernel_rfl)).trans (hdep 3 (by simp) (by kernel_rfl))) Try.underlying27 rfl _ ((XT.out w' hgr).cell 1) (hK _ _ (Gr.refl _) (fun _ _ _ h => h) rfl)
    · exact wp_move (.tmp 7) rfl _ (at_out _ (by kernel_rfl) rfl) (hK _ _ (Gr.refl _) (fun _ _ _ h => h) rfl)
    · exact Part.st_load_part 33 (.tmp 3) rfl w.heap.size 0 [.string q, .int .i64 r.x1, .string r.x2, .int .i64 r.x3] (at_out _ (by kernel_rfl) rfl) (Part.run_part _ _ _ _ _ _ Try.underlying33 rfl (by kernel_rfl) (blk_part (XR.out w' hgr) 0 4)) (hK _ _ (Gr.refl _) (fun _ _ _ h => h) rfl)
    · exact wp_call 26 [.tmp 43] _ rfl ent_own [.agg #[.string q, .int .i64 r.x1, .string r.x2, .int .i64 r.x3]] (Draw.list1 ((at_dst 6 (by kernel_rfl)).trans (hdep 6 (by simp) (by kernel_rfl)))) (fun v w'' => v = .agg #[.string q, .int .i64 r.x1, .string r.x2, .int .i64 r.x3] ∧ Below w'.heap.size w' w'') ((OC.out w').mono fun e w'' ⟨h1, h2⟩ => ⟨_, h1, rfl, h2⟩) (fun v w'' ⟨h1, h2⟩ => hK _ _ (Gr.of h2) (fun j _ _ hn e => (hn e).below h2) h1)
    · exact st_one (.tmp 44) rfl (⟨q, r.x1, r.x2, r.x3⟩ : RouteR) ((at_dst 7 (by kernel_rfl)).trans (hdep 7 (by simp) (by kernel_rfl))) (hK _ _ (Gr.of ((Below.refl _ _).alloc (Nat.le_refl _) _)) (fun j _ _ hn e => (hn e).below ((Below.refl _ _).alloc (Nat.le_refl _) _)) ⟨_, rfl, Blk.new _ _ _, Nat.le_trans SZ'.out hgr.1.size⟩)
    · obtain ⟨vb, e8, k8, l8⟩ := hdep 8 (by simp) (by kernel_rfl)
      refine wp_call 27 [.tmp 41, .tmp 42, .tmp 45] _ rfl ent_insert [.slice A n c, .int .i64 ((i : Nat) : Int), .slice (some ⟨vb, 0, none⟩) 1 1] (list3 ((at_dst 4 (by kernel_rfl)).trans (hdep 4 (by simp) (by kernel_rfl))) ((at_dst 5 (by kernel_rfl)).trans (hdep 5 (by simp) (by kernel_rfl))) ((at_dst 8 (by kernel_rfl)).trans e8)) (fun v w3 => (∃ A' c', v = .slice A' (n + 1) c' ∧ RowAt InsT.RT 4 w3 A' (n + 1) c' fin ∧ (A' = A ∨ ∃ k, A' = some ⟨k, 0, none⟩ ∧ S0 ≤ k)) ∧ Gr A n fin w' w3) ((InsT.insert_route A n c i _ vb (RA (⟨q, r.x1, r.x2, r.x3⟩ : RouteR)) w' (hN rfl) k8 rfl (one_ra _) (by have := N64.out; omega) HIN.out (OWN.out vb l8)).mono ?_) (fun v w3 h => hK v w3 h.2 (fun j _ hne _ e => absurd e hne) h.1)
      rintro e w3 ⟨⟨A', c', rfl, q1, q2⟩, q3, q4⟩
      rw [← FIN.out] at q1 q4
      exact ⟨_, rfl, ⟨A', c', rfl, q1, q2.imp id fun ⟨k, e1, e2⟩ => ⟨k, e1, Nat.le_trans (Nat.le_trans SZ'.out hgr.1.size) e2⟩⟩, q3, q4⟩
  · intro vals w' hgr hG
    obtain ⟨A', c', e9, hrow, hA⟩ := hG 9 (by simp)
    rw [FIN.out, ← fits.out.2] at hrow
    have HR8 := Lib.hid hrow
    have G8 := Lib.hid (hgr.blk (show Blk w6.drew g 54 #[FN, .slice A n c] from G6.out) X3.out)
    have K8 : Hid (Keep F w w') := Lib.hid ((Keep.of B6.out).trans ((((Keep.refl _ w6).drewN 1).trans hgr.1).mono fun k f _ z => X2.out k z f))
    have O8 : Hid (¬ own A' g ∧ ∀ k, own A' k → ¬ F k) := Lib.hid (by
      rcases hA with rfl | ⟨k, rfl, hk⟩
      · exact ⟨X3.out, X2.out⟩
      · have e1 := G6.out.lt
        have e2 := SZ.out
        refine ⟨fun z => ?_, fun k' z f => ?_⟩
        · obtain ⟨x, hx, hb⟩ := z
          cases hx
          have hb : k = g := hb
          omega
        · obtain ⟨x, hx, hb⟩ := z
          cases hx
          have hb : k = k' := hb
          have := HF.out _ f
          have := B6.out.size
          omega)
    refine MapS.st_nil (.tmp 37) rfl ⟨g, 0, none⟩ ((at_dst 0 (by kernel_rfl)).trans (hG 0 (by simp))) ?_
    refine wpAnyH_next 11 _ rfl rfl (by kernel_rfl) (wp_field (.tmp 47) rfl _ (.pointer (some ⟨g, 1, none⟩)) (put_tmps_eq (fill_size _ _ _) (by kernel_rfl)) (by kernel_rfl) ⟨trivial, ?_⟩)
    refine wpAnyH_next 12 _ rfl rfl (by kernel_rfl) (st_store_run 27 (.tmp 48) (.tmp 46) rfl ⟨g, 1, none⟩ (put_tmps_eq (put_size (fill_size _ _ _)) (by kernel_rfl)) _ (put_tmps_ne (by rfl) (put_tmps_ne (by rfl) ((at_dst 9 (by kernel_rfl)).trans e9))) (Store.run_store_one G8.out (by simp) (by kernel_rfl) rfl #[FN, .slice A' (n + 1) c'] rfl rfl) ⟨trivial, wpAnyH_done (by kernel_rfl) ?_ _⟩)
    have E : Hid (RtAt F (w'.setRow g #[FN, .slice A' (n + 1) c']) g (addL rs r.x0 r.x1 r.x2 r.x3) ∧ Keep F w (w'.setRow g #[FN, .slice A' (n + 1) c'])) := Lib.hid (by
      refine ⟨⟨⟨A', c', ?_, ?_, X1.out, O8.out.2, O8.out.1⟩, TN.out, by rw [AL.out, fits.out.1]; have := N64.out; omega⟩, K8.out.trans (Keep.row _ _ _ X1.out)⟩
      · rw [AL.out, fits.out.1]
        exact setRow_heap _ _ _ _ _ _ G8.out
      · rw [AL.out, fits.out.1]
        exact HR8.out.keep fun k hk _ => setRow_other _ _ _ _ (fun e => O8.out.1 (e ▸ hk)))
    clear hG hgr hrow hA e9 XR XT K6 G6 R6 G8 K8 O8 HR8 OWN SZ SZ' FIN
    simp only [fill, dstAt, List.getElem?_cons_zero, List.getElem?_cons_succ, Option.bind_some, Act.put, List.setIfInBounds_toArray, List.set_cons_zero, List.set_cons_succ]
    generalize vals 0 = z0, vals 1 = z1, vals 2 = z2, vals 3 = z3, vals 4 = z4, vals 5 = z5, vals 6 = z6, vals 7 = z7, vals 8 = z8, vals 9 = z9 at *
    go_wp2_with fail
    go_ret
    exact ⟨rfl, E.out.1, E.out.2⟩
theorem add_c (F : Nat → Prop) (g : Nat) (rs : List RouteR) (r : RouteR) (w : World) (h : RtAt F w g rs) (hF : ∀ k, F k → k < w.heap.size) (ha : r.x0.size ≤ maxLen) (hv : r.x2.size ≤ maxLen) :
    Calls Try.prog 10 #[.pointer (some ⟨g, 0, none⟩), .agg (RA r)] w fun e w' => e = .returned (.int .i64 (addE rs r.x0 r.x1 r.x2 r.x3)) ∧ RtAt F w' g (addL rs r.x0 r.x1 r.x2 r.x3) ∧ Keep F w w' := by
  cases hb : addB r.x0 r.x1 r.x2 r.x3 with
  | false =>
    have e1 : addE rs r.x0 r.x1 r.x2 r.x3 = 1 := by unfold addE; rw [hb]; rfl
    have e2 : addL rs r.x0 r.x1 r.x2 r.x3 = rs := by unfold addL; rw [hb]; rfl
    rw [e1, e2]
    exact add_bad F g rs r w h hF ha hv hb
  | true =>
    cases ht : thereB rs (pfx r.x0 r.x1) r.x1 with
    | true =>
      have e1 : addE rs r.x0 r.x1 r.x2 r.x3 = 0 := by unfold addE; rw [hb, ht]; rfl
      rw [e1]
      exact add_there F g rs r w h hF ha hv hb ht
    | false =>
      by_cases hf : 64 ≤ rs.length
      · have e1 : addE rs r.x0 r.x1 r.x2 r.x3 = 7 := by unfold addE; rw [hb, ht, if_pos rfl, if_neg (by simp), if_pos hf]
        have e2 : addL rs r.x0 r.x1 r.x2 r.x3 = rs := by unfold addL; rw [hb, ht, if_pos rfl, if_neg (by simp), if_pos hf]
        rw [e1, e2]
        exact add_full F g rs r w h hF ha hv hb ht hf
      · have e1 : addE rs r.x0 r.x1 r.x2 r.x3 = 0 := by unfold addE; rw [hb, ht, if_pos rfl, if_neg (by simp), if_neg hf]
        rw [e1]
        exact add_new F g rs r w h hF ha hv hb ht hf
end Go.Proofs.Ytnabjhdamofpgaa.Rt6
