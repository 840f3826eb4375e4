/- The law IcmpKinds. -/
import Derived.Test.YthmleabmklnmcaaDoorLawAnswers
import Derived.Test.YthmleabmklnmcaaDoorMakeR
set_option linter.unusedVariables false
namespace Go.Proofs.YthmleabmklnmcaaDoor.LawKinds
open Go.RowKit Go.Sort Go.Proofs.YthmleabmklnmcaaDoor.Sums Go.Proofs.YthmleabmklnmcaaDoor.Words Go.Proofs.YthmleabmklnmcaaDoor.Mem Go.Proofs.YthmleabmklnmcaaDoor.Ahead Go.Proofs.YthmleabmklnmcaaDoor.IcmD Go.Proofs.YthmleabmklnmcaaDoor.Blk Go.Proofs.YthmleabmklnmcaaDoor.Bits Go.Proofs.YthmleabmklnmcaaDoor.InetSum Go.Proofs.YthmleabmklnmcaaDoor.Steps Go.Proofs.YthmleabmklnmcaaDoor.Free Go.Proofs.YthmleabmklnmcaaDoor.Cut
open Go.Proofs.YthmleabmklnmcaaDoor.Com Go.Proofs.YthmleabmklnmcaaDoor.Fam Go.Proofs.YthmleabmklnmcaaDoor.Kind Go.Proofs.YthmleabmklnmcaaDoor.Make Go.Proofs.YthmleabmklnmcaaDoor.IcmR Go.Proofs.YthmleabmklnmcaaDoor.MakeR Go.Proofs.YthmleabmklnmcaaDoor.IcmA Go.Proofs.YthmleabmklnmcaaDoor.LawAnswers

theorem ent_awake : Enters Tryd.prog 13 := enters_of Tryd.func13 (by kernel_rfl) rfl
theorem ent_kind : Enters Tryd.prog 19 := enters_of Tryd.func19 (by kernel_rfl) rfl
theorem ent_kindr : Enters Tryd.prog 20 := enters_of Tryd.func20 (by kernel_rfl) rfl
theorem ent_same : Enters Tryd.prog 12 := enters_of Tryd.func12 (by kernel_rfl) rfl
theorem ent_error : Enters Tryd.prog 21 := enters_of Tryd.func21 (by kernel_rfl) rfl
theorem ent_errorr : Enters Tryd.prog 22 := enters_of Tryd.func22 (by kernel_rfl) rfl
theorem eql_int (a : Int) (x y : Operand) (w : World) : (do eqGuard .eql 3 x y (.int .i64 a) (.int .i64 a); binOp .eql 3 (.int .i64 a) (.int .i64 a) : Sem Value).run Tryd.prog w = .ok (.bool true) w := by
  simp [go_sem, eqGuard]
theorem eql_errno (a : Int) (x y : Operand) (w : World) : (do eqGuard .eql 27 x y (.int .i64 a) (.int .i64 a); binOp .eql 27 (.int .i64 a) (.int .i64 a) : Sem Value).run Tryd.prog w = .ok (.bool true) w := by
  simp [go_sem, eqGuard]
theorem eql_bool (a : Bool) (x y : Operand) (w : World) : (do eqGuard .eql 4 x y (.bool a) (.bool a); binOp .eql 4 (.bool a) (.bool a) : Sem Value).run Tryd.prog w = .ok (.bool true) w := by
  simp [go_sem, eqGuard]
theorem eql_str (s : ByteArray) (x y : Operand) (w : World) : (do eqGuard .eql 9 x y (.string s) (.string s); binOp .eql 9 (.string s) (.string s) : Sem Value).run Tryd.prog w = .ok (.bool true) w := by
  simp [go_sem, eqGuard]
theorem st_pick {o : Oper} {a : Act} {w : World} {K : Act → World → Prop} {Q : Exit → Act → World → Prop} (c x y : Operand) (ho : o.op = .pick c x y) (v : Value) (hc : a.eval c = .bool true) (hx : a.eval x = v) (hK : K (a.put o.dst v) w) : Step Tryd.prog o a w K Q :=
  wp_value v (by simp [execOp, ho, hc, hx, asBool]) hK
theorem list2 {f : Operand → Value} {x y : Operand} {u v : Value} (h1 : f x = u) (h2 : f y = v) : [x, y].map f = [u, v] := by simp [h1, h2]

/-- What is made, and its data. -/
def mq (k : Int) (wide : Bool) (rest : Int) : Ic := if mkErr k rest = 0 then ⟨(made k wide).1, (made k wide).2, rest⟩ else Ic.zero
def mn (k rest : Int) (n : Nat) : Nat := if mkErr k rest = 0 then n else 0
def ml (k rest : Int) (l : List Int) : List Int := if mkErr k rest = 0 then l else []
theorem mk_or (k rest : Int) : mkErr k rest = 0 ∨ mkErr k rest = 1 := by unfold mkErr; split <;> simp
theorem gm_open {k : Int} {wide : Bool} {rest : Int} {n : Nat} {l : List Int} {w : World} {e : Ending} {w' : World} (h : Gm k wide rest n l w e w') :
    ∃ A' c', e = .returned (.tuple #[.agg #[.int .i64 (mq k wide rest).typ, .int .i64 (mq k wide rest).code, .int .i64 (mq k wide rest).rest, .slice A' (mn k rest n) c'], .int .i64 (mkErr k rest)]) ∧ Holds w' w'.heap.size A' (mn k rest n) c' (ml k rest l) ∧ Below w.heap.size w w' := by
  obtain ⟨g, hb⟩ := h
  rcases g with ⟨z, A', c', e, o⟩ | ⟨z, e⟩
  · unfold mq mn ml
    rw [if_pos z, if_pos z, if_pos z, z]
    exact ⟨A', c', e, o.holds, hb⟩
  · have z1 := (mk_or k rest).resolve_left z
    unfold mq mn ml
    rw [if_neg z, if_neg z, if_neg z, z1]
    exact ⟨none, 0, e, Holds.nil _ _ _, hb⟩

theorem kinds_big (p : Ic) (A : Option Addr) (n c : Nat) (wide : Bool) (k rest : Int) (w : World) (hn : 2000 < n) (h3 : n ≤ 140737488355328) :
    Calls Tryd.prog 5 #[.agg #[.int .i64 p.typ, .int .i64 p.code, .int .i64 p.rest, .slice A n c], .bool wide, .int .i64 k, .int .i64 rest] w (Yes w) := by
  have B0 := Lib.hid ((Below.refl w.heap.size w).alloc (Nat.le_refl _) (.cells #[.int .i64 p.typ, .int .i64 p.code, .int .i64 p.rest, .slice A n c] 24))
  have k3 := (Blk.new w 24 #[.int .i64 p.typ, .int .i64 p.code, .int .i64 p.rest, .slice A n c]).cell 3
  have g : ((2000 : Int) < (n : Int)) = True := eq_true (by omega)
  clear hn
  go_enter Tryd.func5, Tryd.ntmps5
  go_wp2_with fail
  go_ret
  exact ⟨rfl, B0.out⟩

set_option maxHeartbeats 4000000 in
set_option maxRecDepth 100000 in
theorem kinds_small (p : Ic) (A : Option Addr) (n c : Nat) (l : List Int) (wide : Bool) (k rest : Int) (w : World) (h : Holds w w.heap.size A n c l) (hn : n ≤ 2000) (hf : Fam w) :
    Calls Tryd.prog 5 #[.agg #[.int .i64 p.typ, .int .i64 p.code, .int .i64 p.rest, .slice A n c], .bool wide, .int .i64 k, .int .i64 rest] w (Yes w) := by
  have B0 := Lib.hid ((Below.refl w.heap.size w).alloc (Nat.le_refl _) (.cells #[.int .i64 p.typ, .int .i64 p.code, .int .i64 p.rest, .slice A n c] 24))
  have P0 := Lib.hid (Blk.new w 24 #[.int .i64 p.typ, .int .i64 p.code, .int .i64 p.rest, .slice A n c])
  have F0 := Lib.hid (hf.alloc (.cells #[.int .i64 p.typ, .int .i64 p.code, .int .i64 p.rest, .slice A n c] 24))
  have H0 := Lib.hid ((h.below B0.out).more B0.out.size)
  have k3 := P0.out.cell 3
  have g : ((2000 : Int) < (n : Int)) = False := eq_false (by omega)
  have M1 := Lib.hid (make_any k wide rest A n c l _ _ H0.out (Nat.le_refl _) (by omega) F0.out)
  clear h hf
  go_enter Tryd.func5, Tryd.ntmps5
  go_wp2_with fail
  refine M1.out.mono ?_
  rintro e w1 ⟨g1, hb1⟩
  obtain ⟨A1, c1, rfl, h1, hb⟩ := gm_open ⟨g1, hb1⟩
  obtain ⟨q, hq⟩ : ∃ q, q = mq k wide rest := ⟨_, rfl⟩
  obtain ⟨er, her⟩ : ∃ er, er = mkErr k rest := ⟨_, rfl⟩
  obtain ⟨qn, hqn⟩ : ∃ qn, qn = mn k rest n := ⟨_, rfl⟩
  obtain ⟨ql, hql⟩ : ∃ ql, ql = ml k rest l := ⟨_, rfl⟩
  rw [← hqn, ← hql] at h1
  rw [← hq, ← her, ← hqn]
  have Q := Lib.hid hq
  have ER := Lib.hid her
  have QN := Lib.hid hqn
  have QL := Lib.hid hql
  have B1 := Lib.hid (B0.out.trans (hb.mono B0.out.size))
  have P1 := Lib.hid (P0.out.below hb P0.out.lt)
  have F1 := Lib.hid (F0.out.below hb)
  have H1 := Lib.hid ((H0.out.below hb).more hb.size)
  have X2 := Lib.hid (Blk.new w1 24 #[.int .i64 q.typ, .int .i64 q.code, .int .i64 q.rest, .slice A1 qn c1])
  have B2 := Lib.hid (B1.out.alloc B1.out.size (.cells #[.int .i64 q.typ, .int .i64 q.code, .int .i64 q.rest, .slice A1 qn c1] 24))
  have P2 := Lib.hid (P1.out.alloc (.cells #[.int .i64 q.typ, .int .i64 q.code, .int .i64 q.rest, .slice A1 qn c1] 24))
  have F2 := Lib.hid (F1.out.alloc (.cells #[.int .i64 q.typ, .int .i64 q.code, .int .i64 q.rest, .slice A1 qn c1] 24))
  have g2 := (Below.refl _ w1).alloc (Nat.le_refl _) (.cells #[.int .i64 q.typ, .int .i64 q.code, .int .i64 q.rest, .slice A1 qn c1] 24)
  have H2 := Lib.hid ((H1.out.below g2).more g2.size)
  have D2 := Lib.hid ((h1.below g2).more g2.size)
  have p3 := P2.out.cell 3
  have M2 := Lib.hid (make_ref k wide rest A n c l _ _ H2.out (Nat.le_refl _) (by omega))
  obtain ⟨gx, hgx⟩ : ∃ gx, gx = w1.heap.size := ⟨_, rfl⟩
  clear hb hb1 g1 h1 g2 B0 P0 F0 H0 B1 P1 F1 H1 M1 k3 hq her hqn hql
  go_wp2_with fail
  refine M2.out.mono ?_
  rintro e w3 ⟨g3, hb3⟩
  obtain ⟨A3, c3, rfl, h3, hb⟩ := gm_open ⟨g3, hb3⟩
  rw [← QN.out, ← QL.out] at h3
  rw [← Q.out, ← ER.out, ← QN.out]
  have X3 := Lib.hid (X2.out.below hb X2.out.lt)
  have B3 := Lib.hid (B2.out.trans (hb.mono B2.out.size))
  have P3 := Lib.hid (P2.out.below hb P2.out.lt)
  have F3 := Lib.hid (F2.out.below hb)
  have D3 := Lib.hid ((D2.out.below hb).more hb.size)
  have Y4 := Lib.hid (Blk.new w3 24 #[.int .i64 q.typ, .int .i64 q.code, .int .i64 q.rest, .slice A3 qn c3])
  have X4 := Lib.hid (X3.out.alloc (.cells #[.int .i64 q.typ, .int .i64 q.code, .int .i64 q.rest, .slice A3 qn c3] 24))
  have B4 := Lib.hid (B3.out.alloc B3.out.size (.cells #[.int .i64 q.typ, .int .i64 q.code, .int .i64 q.rest, .slice A3 qn c3] 24))
  have P4 := Lib.hid (P3.out.alloc (.cells #[.int .i64 q.typ, .int .i64 q.code, .int .i64 q.rest, .slice A3 qn c3] 24))
  have F4 := Lib.hid (F3.out.alloc (.cells #[.int .i64 q.typ, .int .i64 q.code, .int .i64 q.rest, .slice A3 qn c3] 24))
  have g4 := (Below.refl _ w3).alloc (Nat.le_refl _) (.cells #[.int .i64 q.typ, .int .i64 q.code, .int .i64 q.rest, .slice A3 qn c3] 24)
  have D4 := Lib.hid ((D3.out.below g4).more g4.size)
  have E4 := Lib.hid ((h3.below g4).more g4.size)
  obtain ⟨gy, hgy⟩ : ∃ gy, gy = w3.heap.size := ⟨_, rfl⟩
  clear hb hb3 g3 h3 g4 X2 B2 P2 F2 H2 D2 M2 p3 X3 B3 P3 F3 D3
  go_wp2_with fail
  rw [← hgy] at Y4 ⊢
  rw [← hgx] at X4 ⊢
  clear hgx hgy
  generalize w3.alloc (.cells #[.int .i64 q.typ, .int .i64 q.code, .int .i64 q.rest, .slice A3 qn c3] 24) = w4 at *
  have PW := Lib.hid P4.out.drew
  have XW := Lib.hid X4.out.drew
  have YW := Lib.hid Y4.out.drew
  have GR : Hid (∀ w', Below w4.drew.heap.size w4.drew w' → Below w4.heap.size w4 w') := Lib.hid fun w' hw => (below_drewN (Below.refl w4.heap.size w4) 1).trans hw
  have FW : Hid (∀ w', Below w4.drew.heap.size w4.drew w' → Fam w') := Lib.hid fun w' hw => F4.out.below (GR.out w' hw)
  refine wp_region_freeP [0, 1, 2, 3, 4, 5, 6, 7, 8, 9, 10, 11, 12, 13, 14, 15, 16, 17, 18, 19, 20, 21, 22, 23, 24, 25, 26] 27 [] [(1, true), (10, true), (15, true), (20, true)] (fun w1 w2 => Below w1.heap.size w1 w2) (fun k' w' v => match k' with
    | 0 => v = .bool true
    | 1 => v = .bool true
    | 2 => v = .agg #[.int .i64 p.typ, .int .i64 p.code, .int .i64 p.rest, .slice A n c]
    | 3 => v = .bool wide
    | 4 => v = .int .i64 (kind p.typ p.code wide)
    | 5 => v = .agg #[.int .i64 p.typ, .int .i64 p.code, .int .i64 p.rest, .slice A n c]
    | 6 => v = .bool wide
    | 7 => v = .int .i64 (kind p.typ p.code wide)
    | 8 => v = .bool true
    | 9 => v = .bool true
    | 10 => v = .bool true
    | 11 => v = .agg #[.int .i64 q.typ, .int .i64 q.code, .int .i64 q.rest, .slice A1 qn c1]
    | 12 => v = .agg #[.int .i64 q.typ, .int .i64 q.code, .int .i64 q.rest, .slice A3 qn c3]
    | 13 => v = .bool true
    | 14 => v = .bool true
    | 15 => v = .bool true
    | 16 => v = .int .i64 er
    | 17 => v = .int .i64 er
    | 18 => v = .bool true
    | 19 => v = .bool true
    | 20 => v = .bool true
    | 21 => v = .int .i64 k
    | 22 => v = .bool (tells k)
    | 23 => v = .int .i64 k
    | 24 => v = .bool (tells k)
    | 25 => v = .bool true
    | _ => v = .bool true) (by kernel_rfl) (by kernel_rfl) (fun q hq w v hv => ?_) (Below.refl _ _) (fun _ _ _ h k => h.trans (k.mono h.size)) (fun k' w1 w2 v h => match k' with
    | 0 => fun x => x
    | 1 => fun x => x
    | 2 => fun x => x
    | 3 => fun x => x
    | 4 => fun x => x
    | 5 => fun x => x
    | 6 => fun x => x
    | 7 => fun x => x
    | 8 => fun x => x
    | 9 => fun x => x
    | 10 => fun x => x
    | 11 => fun x => x
    | 12 => fun x => x
    | 13 => fun x => x
    | 14 => fun x => x
    | 15 => fun x => x
    | 16 => fun x => x
    | 17 => fun x => x
    | 18 => fun x => x
    | 19 => fun x => x
    | 20 => fun x => x
    | 21 => fun x => x
    | 22 => fun x => x
    | 23 => fun x => x
    | 24 => fun x => x
    | 25 => fun x => x
    | _ + 26 => fun x => x) (fun _ _ _ _ _ h => h) ?_ _ (by rfl) ?_
  · simp only [List.mem_cons, List.not_mem_nil, or_false] at hq
    rcases hq with rfl | rfl | rfl | rfl <;> exact hv
  · refine obs_cons (by rfl) (fun vals w' hgr hdep K hK => ?_) (obs_cons (by rfl) (fun vals w' hgr hdep K hK => ?_) (obs_cons (by rfl) (fun vals w' hgr hdep K hK => ?_) (obs_cons (by rfl) (fun vals w' hgr hdep K hK => ?_) (obs_cons (by rfl) (fun vals w' hgr hdep K hK => ?_) (obs_cons (by rfl) (fun vals w' hgr hdep K hK => ?_) (obs_cons (by rfl) (fun vals w' hgr hdep K hK => ?_) (obs_cons (by rfl) (fun vals w' hgr hdep K hK => ?_) (obs_cons (by rfl) (fun vals w' hgr hdep K hK => ?_) (obs_cons (by rfl) (fun vals w' hgr hdep K hK => ?_) (obs_cons (by rfl) (fun vals w' hgr hdep K hK => ?_) (obs_cons (by rfl) (fun vals w' hgr hdep K hK => ?_) (obs_cons (by rfl) (fun vals w' hgr hdep K hK => ?_) (obs_cons (by rfl) (fun vals w' hgr hdep K hK => ?_) (obs_cons (by rfl) (fun vals w' hgr hdep K hK => ?_) (obs_cons (by rfl) (fun vals w' hgr hdep K hK => ?_) (obs_cons (by rfl) (fun vals w' hgr hdep K hK => ?_) (obs_cons (by rfl) (fun vals w' hgr hdep K hK => ?_) (obs_cons (by rfl) (fun vals w' hgr hdep K hK => ?_) (obs_cons (by rfl) (fun vals w' hgr hdep K hK => ?_) (obs_cons (by rfl) (fun vals w' hgr hdep K hK => ?_) (obs_cons (by rfl) (fun vals w' hgr hdep K hK => ?_) (obs_cons (by rfl) (fun vals w' hgr hdep K hK => ?_) (obs_cons (by rfl) (fun vals w' hgr hdep K hK => ?_) (obs_cons (by rfl) (fun vals w' hgr hdep K hK => ?_) (obs_cons (by rfl) (fun vals w' hgr hdep K hK => ?_) (obs_cons (by rfl) (fun vals w' hgr hdep K hK => ?_) (obs_nil)))))))))))))))))))))))))))
    · exact wp_call 13 [] _ rfl ent_awake [] rfl (fun v w'' => v = .bool true ∧ Below w'.heap.size w' w'') ((awake_any w' (FW.out w' hgr)).mono fun e w'' ⟨h1, h2⟩ => ⟨_, h1, rfl, h2⟩) (fun v w'' ⟨h1, h2⟩ => hK v _ h2 h1)
    · exact wp_move (.tmp 35) rfl _ ((at_dst 0 (by kernel_rfl)).trans (hdep 0 (by simp) (by kernel_rfl))) (hK _ _ (Below.refl _ _) rfl)
    · exact st_load_row 24 (.tmp 4) rfl w.heap.size (at_out _ (by kernel_rfl) rfl) 24 #[.int .i64 p.typ, .int .i64 p.code, .int .i64 p.rest, .slice A n c] (0, 0) _ (PW.out.below hgr PW.out.lt) Tryd.underlying24 rfl (by kernel_rfl) (hK _ _ (Below.refl _ _) rfl)
    · exact wp_move (.tmp 1) rfl _ (at_out _ (by kernel_rfl) rfl) (hK _ _ (Below.refl _ _) rfl)
    · exact wp_call 19 [.tmp 37, .tmp 38] _ rfl ent_kind [.agg #[.int .i64 p.typ, .int .i64 p.code, .int .i64 p.rest, .slice A n c], .bool wide] (list2 ((at_dst 2 (by kernel_rfl)).trans (hdep 2 (by simp) (by kernel_rfl))) ((at_dst 3 (by kernel_rfl)).trans (hdep 3 (by simp) (by kernel_rfl)))) (fun v w'' => v = .int .i64 (kind p.typ p.code wide) ∧ Below w'.heap.size w' w'') ((kind_any p wide A n c w' (FW.out w' hgr)).mono fun e w'' ⟨h1, h2⟩ => ⟨_, h1, rfl, h2⟩) (fun v w'' ⟨h1, h2⟩ => hK v _ h2 h1)
    · exact st_load_row 24 (.tmp 4) rfl w.heap.size (at_out _ (by kernel_rfl) rfl) 24 #[.int .i64 p.typ, .int .i64 p.code, .int .i64 p.rest, .slice A n c] (0, 0) _ (PW.out.below hgr PW.out.lt) Tryd.underlying24 rfl (by kernel_rfl) (hK _ _ (Below.refl _ _) rfl)
    · exact wp_move (.tmp 1) rfl _ (at_out _ (by kernel_rfl) rfl) (hK _ _ (Below.refl _ _) rfl)
    · exact wp_call 20 [.tmp 40, .tmp 41] _ rfl ent_kindr [.agg #[.int .i64 p.typ, .int .i64 p.code, .int .i64 p.rest, .slice A n c], .bool wide] (list2 ((at_dst 5 (by kernel_rfl)).trans (hdep 5 (by simp) (by kernel_rfl))) ((at_dst 6 (by kernel_rfl)).trans (hdep 6 (by simp) (by kernel_rfl)))) (fun v w'' => v = .int .i64 (kind p.typ p.code wide) ∧ Below w'.heap.size w' w'') ((kind_ref p.typ p.code p.rest wide A n c w').mono fun e w'' ⟨h1, h2⟩ => ⟨_, h1, rfl, h2⟩) (fun v w'' ⟨h1, h2⟩ => hK v _ h2 h1)
    · exact wp_bin (.tmp 39) (.tmp 42) rfl _ _ _ ((at_dst 4 (by kernel_rfl)).trans (hdep 4 (by simp) (by kernel_rfl))) ((at_dst 7 (by kernel_rfl)).trans (hdep 7 (by simp) (by kernel_rfl))) (eql_int _ _ _ _) (hK _ _ (Below.refl _ _) rfl)
    · exact st_pick (.tmp 36) (.tmp 43) _ rfl _ ((at_dst 1 (by kernel_rfl)).trans (hdep 1 (by simp) (by kernel_rfl))) ((at_dst 8 (by kernel_rfl)).trans (hdep 8 (by simp) (by kernel_rfl))) (hK _ _ (Below.refl _ _) rfl)
    · exact wp_move (.tmp 44) rfl _ ((at_dst 9 (by kernel_rfl)).trans (hdep 9 (by simp) (by kernel_rfl))) (hK _ _ (Below.refl _ _) rfl)
    · exact st_load_row 24 (.tmp 9) rfl gx (at_out _ (by kernel_rfl) rfl) 24 #[.int .i64 q.typ, .int .i64 q.code, .int .i64 q.rest, .slice A1 qn c1] (0, 0) _ (XW.out.below hgr XW.out.lt) Tryd.underlying24 rfl (by kernel_rfl) (hK _ _ (Below.refl _ _) rfl)
    · exact st_load_row 24 (.tmp 11) rfl gy (at_out _ (by kernel_rfl) rfl) 24 #[.int .i64 q.typ, .int .i64 q.code, .int .i64 q.rest, .slice A3 qn c3] (0, 0) _ (YW.out.below hgr YW.out.lt) Tryd.underlying24 rfl (by kernel_rfl) (hK _ _ (Below.refl _ _) rfl)
    · exact wp_call 12 [.tmp 46, .tmp 47] _ rfl ent_same [.agg #[.int .i64 q.typ, .int .i64 q.code, .int .i64 q.rest, .slice A1 qn c1], .agg #[.int .i64 q.typ, .int .i64 q.code, .int .i64 q.rest, .slice A3 qn c3]] (list2 ((at_dst 11 (by kernel_rfl)).trans (hdep 11 (by simp) (by kernel_rfl))) ((at_dst 12 (by kernel_rfl)).trans (hdep 12 (by simp) (by kernel_rfl)))) (fun v w'' => v = .bool true ∧ Below w'.heap.size w' w'') ((same_yes q A1 qn c1 A3 qn c3 ql _ w' ((D4.out.below (GR.out w' hgr)).more (GR.out w' hgr).size) ((E4.out.below (GR.out w' hgr)).more (GR.out w' hgr).size) (Nat.le_refl _)).mono fun e w'' ⟨h1, h2⟩ => ⟨_, h1, rfl, h2⟩) (fun v w'' ⟨h1, h2⟩ => hK v _ h2 h1)
    · exact st_pick (.tmp 45) (.tmp 48) _ rfl _ ((at_dst 10 (by kernel_rfl)).trans (hdep 10 (by simp) (by kernel_rfl))) ((at_dst 13 (by kernel_rfl)).trans (hdep 13 (by simp) (by kernel_rfl))) (hK _ _ (Below.refl _ _) rfl)
    · exact wp_move (.tmp 49) rfl _ ((at_dst 14 (by kernel_rfl)).trans (hdep 14 (by simp) (by kernel_rfl))) (hK _ _ (Below.refl _ _) rfl)
    · exact wp_move (.tmp 10) rfl _ (at_out _ (by kernel_rfl) rfl) (hK _ _ (Below.refl _ _) rfl)
    · exact wp_move (.tmp 12) rfl _ (at_out _ (by kernel_rfl) rfl) (hK _ _ (Below.refl _ _) rfl)
    · exact wp_bin (.tmp 51) (.tmp 52) rfl _ _ _ ((at_dst 16 (by kernel_rfl)).trans (hdep 16 (by simp) (by kernel_rfl))) ((at_dst 17 (by kernel_rfl)).trans (hdep 17 (by simp) (by kernel_rfl))) (eql_errno _ _ _ _) (hK _ _ (Below.refl _ _) rfl)
    · exact st_pick (.tmp 50) (.tmp 53) _ rfl _ ((at_dst 15 (by kernel_rfl)).trans (hdep 15 (by simp) (by kernel_rfl))) ((at_dst 18 (by kernel_rfl)).trans (hdep 18 (by simp) (by kernel_rfl))) (hK _ _ (Below.refl _ _) rfl)
    · exact wp_move (.tmp 54) rfl _ ((at_dst 19 (by kernel_rfl)).trans (hdep 19 (by simp) (by kernel_rfl))) (hK _ _ (Below.refl _ _) rfl)
    · exact wp_move (.tmp 2) rfl _ (at_out _ (by kernel_rfl) rfl) (hK _ _ (Below.refl _ _) rfl)
    · exact wp_call 21 [.tmp 56] _ rfl ent_error [.int .i64 k] (congrArg (fun z => [z]) ((at_dst 21 (by kernel_rfl)).trans (hdep 21 (by simp) (by kernel_rfl)))) (fun v w'' => v = .bool (tells k) ∧ w' = w'') ((error_any k w').mono fun e w'' ⟨h1, h2⟩ => ⟨_, h1, rfl, h2⟩) (fun v w'' ⟨h1, h2⟩ => by subst h2; exact hK v _ (Below.refl _ _) h1)
    · exact wp_move (.tmp 2) rfl _ (at_out _ (by kernel_rfl) rfl) (hK _ _ (Below.refl _ _) rfl)
    · exact wp_call 22 [.tmp 58] _ rfl ent_errorr [.int .i64 k] (congrArg (fun z => [z]) ((at_dst 23 (by kernel_rfl)).trans (hdep 23 (by simp) (by kernel_rfl)))) (fun v w'' => v = .bool (tells k) ∧ w' = w'') ((error_ref k w').mono fun e w'' ⟨h1, h2⟩ => ⟨_, h1, rfl, h2⟩) (fun v w'' ⟨h1, h2⟩ => by subst h2; exact hK v _ (Below.refl _ _) h1)
    · exact wp_bin (.tmp 57) (.tmp 59) rfl _ _ _ ((at_dst 22 (by kernel_rfl)).trans (hdep 22 (by simp) (by kernel_rfl))) ((at_dst 24 (by kernel_rfl)).trans (hdep 24 (by simp) (by kernel_rfl))) (eql_bool _ _ _ _) (hK _ _ (Below.refl _ _) rfl)
    · exact st_pick (.tmp 55) (.tmp 60) _ rfl _ ((at_dst 20 (by kernel_rfl)).trans (hdep 20 (by simp) (by kernel_rfl))) ((at_dst 25 (by kernel_rfl)).trans (hdep 25 (by simp) (by kernel_rfl))) (hK _ _ (Below.refl _ _) rfl)
  · intro vals w' hgr hG
    refine st_assign (.tmp 61) _ rfl ((at_dst 26 (by kernel_rfl)).trans (hG 26 (by simp))) (wpAnyH_done (by kernel_rfl) ?_ _)
    have B8 := Lib.hid (B4.out.trans ((GR.out _ hgr).mono B4.out.size))
    clear hG hgr
    simp only [fill, dstAt, List.getElem?_cons_zero, List.getElem?_cons_succ, Option.bind_some, Act.put, List.setIfInBounds_toArray, List.set_cons_zero, List.set_cons_succ]
    go_wp2_with fail
    go_ret
    exact ⟨rfl, B8.out⟩
theorem kinds_any (p : Ic) (A : Option Addr) (n c : Nat) (l : List Int) (wide : Bool) (k rest : Int) (w : World) (h : Holds w w.heap.size A n c l) (h3 : n ≤ 140737488355328) (hf : Fam w) :
    Calls Tryd.prog 5 #[.agg #[.int .i64 p.typ, .int .i64 p.code, .int .i64 p.rest, .slice A n c], .bool wide, .int .i64 k, .int .i64 rest] w (Yes w) := by
  by_cases hn : 2000 < n
  · exact kinds_big p A n c wide k rest w hn h3
  · exact kinds_small p A n c l wide k rest w h (by omega) hf
end Go.Proofs.YthmleabmklnmcaaDoor.LawKinds
