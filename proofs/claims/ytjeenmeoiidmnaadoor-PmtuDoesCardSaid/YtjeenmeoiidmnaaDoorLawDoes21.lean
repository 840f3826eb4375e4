/- PmtuDoes: a script of calls, the code beside the document. -/
import Derived.Test.YtjeenmeoiidmnaaDoorPmtA
import Derived.Test.YtjeenmeoiidmnaaDoorPmt7
import Derived.Test.YtjeenmeoiidmnaaDoorFew21
import Derived.Test.YtjeenmeoiidmnaaDoorObj
set_option linter.unusedVariables false
set_option maxRecDepth 100000
namespace Go.Proofs.YtjeenmeoiidmnaaDoor.LawDoes21
open Go.RowKit Go.Proofs.YtjeenmeoiidmnaaDoor.Sums Go.Proofs.YtjeenmeoiidmnaaDoor.Mem Go.Proofs.YtjeenmeoiidmnaaDoor.Blk Go.Proofs.YtjeenmeoiidmnaaDoor.RowN Go.Proofs.YtjeenmeoiidmnaaDoor.RowA Go.Proofs.YtjeenmeoiidmnaaDoor.Free Go.Proofs.YtjeenmeoiidmnaaDoor.Steps Go.Proofs.YtjeenmeoiidmnaaDoor.ArgT Go.Proofs.YtjeenmeoiidmnaaDoor.Part Go.Proofs.YtjeenmeoiidmnaaDoor.MapK Go.Proofs.YtjeenmeoiidmnaaDoor.Obj Go.Proofs.YtjeenmeoiidmnaaDoor.PmtM Go.Proofs.YtjeenmeoiidmnaaDoor.PmtD Go.Proofs.YtjeenmeoiidmnaaDoor.Pmt1 Go.Proofs.YtjeenmeoiidmnaaDoor.Pmt5 Go.Proofs.YtjeenmeoiidmnaaDoor.Pmt6 Go.Proofs.YtjeenmeoiidmnaaDoor.Pmt7 Go.Proofs.YtjeenmeoiidmnaaDoor.PmtA Go.Proofs.YtjeenmeoiidmnaaDoor.Few21

theorem st_lenT {o : Oper} {a : Act} {w : World} {K : Act → World → Prop} {Q : Exit → Act → World → Prop} {tS tE : TypeId} (hu : Tryd.prog.underlying tS = some (.slice tE)) (x : Operand) (ho : o.op = .call { callee := .builtin .len, args := #[x], argTypes := #[tS] }) (A : Option Addr) (n c : Nat) (hx : a.eval x = .slice A n c) (hK : K (a.put o.dst (.int .i64 (n : Int))) w) : Step Tryd.prog o a w K Q := by
  refine wp_value _ ?_ hK
  simp [execOp, ho, resolve, invoke, hx, builtin, Builtin.len_, run_underlying hu, goInt, Result.andThen]
theorem b_neqi (a b : Int) (r : Bool) (h : (a != b) = r) (x y : Operand) (w : World) : (do eqGuard .neq 3 x y (.int .i64 a) (.int .i64 b); binOp .neq 3 (.int .i64 a) (.int .i64 b) : Sem Value).run Tryd.prog w = .ok (.bool r) w := by
  subst h
  simp [go_sem, eqGuard]
abbrev TO : TypeId := 31
def opCs (r : Op21R) : Array Value := #[.int .i64 r.x0, .int .i64 r.x1, .string r.x2, .bool r.x3]
theorem one_op (r : Op21R) : (opCs r).all (·.oneCell') = true := by simp [opCs, Value.oneCell']
abbrev Pc (g : Nat) (es : List Ent) : (Nat → Prop) → World → Prop := fun F w => PcAt F w g es
abbrev Pr (x : Nat) (es : List Ent) : (Nat → Prop) → World → Prop := fun F w => PrAt F w x es
abbrev T2 (g x : Nat) (es fs : List Ent) (P : Nat → Prop) (w : World) : Prop := Two (Pc g es) (Pr x fs) P w
section
variable {g x : Nat} {es fs : List Ent} {P : Nat → Prop} {w : World}
theorem cget (h : T2 g x es fs P w) (now : Int) (d : ByteArray) (n : Int) (n1 : -3000000000 ≤ now) (n2 : now ≤ 3000000000) : Calls Tryd.prog 10 #[.pointer (some ⟨g, 0, none⟩), .int .i64 now, .string d, .int .i64 n] w fun e w' => e = .returned (.tuple #[.int .i64 (askA now d n es).1, .int .i64 (askA now d n es).2]) ∧ T2 g x es fs P w' ∧ Keep P w w' :=
  h.call (pr_obj x fs) fun F hF hb => (get_c F g es now d n w hF n1 n2).mono fun e w' ⟨h1, h2⟩ => ⟨⟨h1, hF.below h2⟩, Keep.of h2⟩
theorem rget (h : T2 g x es fs P w) (now : Int) (d : ByteArray) (n : Int) (n1 : -3000000000 ≤ now) (n2 : now ≤ 3000000000) : Calls Tryd.prog 11 #[.pointer (some ⟨x, 0, none⟩), .int .i64 now, .string d, .int .i64 n] w fun e w' => e = .returned (.tuple #[.int .i64 (askA now d n fs).1, .int .i64 (askA now d n fs).2]) ∧ T2 g x es fs P w' ∧ Keep P w w' :=
  (h.swap.call (pc_obj g es) (R := fun e _ => e = .returned (.tuple #[.int .i64 (askA now d n fs).1, .int .i64 (askA now d n fs).2])) (X' := Pr x fs) fun F hF hb => (get_r F x fs now d n w hF n1 n2).mono fun e w' ⟨h1, h2⟩ => h2 ▸ ⟨⟨h1, hF⟩, Keep.refl _ _⟩).mono fun e w' ⟨h1, h2, h3⟩ => ⟨h1, h2.swap, h3⟩
theorem ctell (h : T2 g x es fs P w) (now : Int) (d : ByteArray) (n : Int) (nn : -2000000000 ≤ now ∧ now ≤ 2000000000) : Calls Tryd.prog 12 #[.pointer (some ⟨g, 0, none⟩), .int .i64 now, .string d, .int .i64 n] w fun e w' => e = .returned (.tuple #[.int .i64 (tellA now d n es).1, .int .i64 (tellA now d n es).2]) ∧ T2 g x (tellL now d n es) fs P w' ∧ Keep P w w' :=
  h.call (pr_obj x fs) fun F hF hb => tell_c F g es now d n w hF nn
theorem rtell (h : T2 g x es fs P w) (now : Int) (d : ByteArray) (n : Int) (nn : -2000000000 ≤ now ∧ now ≤ 2000000000) : Calls Tryd.prog 13 #[.pointer (some ⟨x, 0, none⟩), .int .i64 now, .string d, .int .i64 n] w fun e w' => e = .returned (.tuple #[.int .i64 (tellA now d n fs).1, .int .i64 (tellA now d n fs).2]) ∧ T2 g x es (tellL now d n fs) P w' ∧ Keep P w w' :=
  (h.swap.call (pc_obj g es) (R := fun e _ => e = .returned (.tuple #[.int .i64 (tellA now d n fs).1, .int .i64 (tellA now d n fs).2])) (X' := Pr x (tellL now d n fs)) fun F hF hb => tell_r F x fs now d n w hF hb nn).mono fun e w' ⟨h1, h2, h3⟩ => ⟨h1, h2.swap, h3⟩
theorem t2_up (h : T2 g x es fs P w) {w' : World} (hb : Below w.heap.size w w') : T2 g x es fs P w' := Two.up (pc_obj g es) (pr_obj x fs) h hb
theorem ccount (h : T2 g x es fs P w) : Calls Tryd.prog 14 #[.pointer (some ⟨g, 0, none⟩)] w fun e w' => e = .returned (.int .i64 (es.length : Int)) ∧ w = w' := by
  obtain ⟨F, G, h1, _⟩ := h
  exact count_c F g es w h1
theorem xrow (h : T2 g x es fs P w) : ∃ A c, w.cell? ⟨x, 0, none⟩ = some (.slice A fs.length c) := by
  obtain ⟨F, G, _, ⟨⟨A, c, h2, _⟩, _⟩, _⟩ := h
  exact ⟨A, c, h2.cell 0⟩
end
theorem two_new {P : Nat → Prop} {w0 w1 : World} {g : Nat} (hp : PcAt (fun k => k < w0.heap.size) w1 g []) (hs : w0.heap.size ≤ w1.heap.size) (hP : ∀ k, P k → k < w0.heap.size) : T2 g w1.heap.size [] [] P (w1.alloc (.cells #[.slice none 0 0] RT)) := by
  have S : Solo (Pc g []) P w1 := ⟨_, hp, fun k hk => by omega, hP⟩
  refine S.two (pc_obj g []) ((Below.refl w1.heap.size w1).alloc (Nat.le_refl _) _) ⟨⟨none, 0, ?_, RowX.nil KT 3 _, fun z => Nat.lt_irrefl _ z, fun k hk => ?_⟩, Good.nil⟩ fun k z => Nat.lt_of_lt_of_le (hP k z) hs
  · exact Blk.new w1 RT #[.slice none 0 0]
  · obtain ⟨a, e, _⟩ := hk
    cases e
theorem ent_count : Enters Tryd.prog 14 := enters_of Tryd.func14 (by kernel_rfl) rfl
/-- What a round of the loop knows. -/
def Box (w : World) (b : Nat) : Nat → Prop := fun k => k < w.heap.size ∨ k = b
set_option maxHeartbeats 8000000 in
theorem does_any (A : Option Addr) (n c : Nat) (rs : List Op21R) (w : World) (h : Op21Rows w A n rs) (hT : Tab w) : Calls Tryd.prog 3 #[.slice A n c] w fun e w' => e = .returned (.bool true) ∧ Below w.heap.size w w' := by
  have F0 := Lib.hid (few_any A n c rs w h)
  have ROWS := Lib.hid h
  have AW : Hid (∀ V, Below w.heap.size w V → Calls Tryd.prog 15 #[] V fun e w' => e = .returned (.bool true) ∧ Below V.heap.size V w') := Lib.hid fun V k => awake_any V (hT.up k (Nat.le_refl _))
  have N0 := Lib.hid (fun V => new_c (fun k => k < V.heap.size) V (fun k hk => hk))
  clear h hT
  go_enter Tryd.func3, Tryd.ntmps3
  go_wp2_with fail
  refine F0.out.mono ?_
  rintro e w1 ⟨fb, rfl, hfb, hb1⟩
  cases fb with
  | false =>
    clear hfb F0 ROWS N0 AW
    go_wp2_with fail
    go_ret
    exact ⟨rfl, hb1⟩
  | true =>
    obtain ⟨hn, hall⟩ := hfb rfl
    have FEW := Lib.hid hall
    have B1 := Lib.hid hb1
    clear hfb hall hb1 F0
    go_wp2_with fail
    refine (N0.out w1).mono ?_
    rintro e w2 ⟨⟨g, rfl, hp⟩, hb⟩
    have TT := Lib.hid (two_new (P := fun k => k < w.heap.size) hp hb.size (fun k hk => Nat.lt_of_lt_of_le hk B1.out.size))
    have B2 := Lib.hid ((B1.out.trans (hb.mono B1.out.size)).alloc (B1.out.trans (hb.mono B1.out.size)).size (.cells #[.slice none 0 0] RT))
    clear hp hb N0 B1
    go_wp2_with fail
    obtain ⟨x, hx⟩ : ∃ x, w2.heap.size = x := ⟨_, rfl⟩
    rw [hx] at TT ⊢
    clear hx
    go_loopw [5] (fun iv wr => ∃ (i : Nat) (es : List Ent), iv = .int .i64 (i : Int) ∧ i ≤ n ∧ Hid (T2 g x es es (fun k => k < w.heap.size) wr) ∧ Hid (Below w.heap.size w wr)) (fun iv _ => n - (intOf iv).toNat)
    case atStart => exact ⟨0, [], rfl, by omega, TT, B2⟩
    case round =>
      clear TT B2
      obtain ⟨i, es, rfl, hi, HS, HB⟩ := hrel
      by_cases hlt : i < n
      · obtain ⟨b, o, rfl, hbl, hall⟩ := ROWS.out.2 (by omega)
        have hr : rs[i]? = some (rs[i]'(by rw [ROWS.out.1]; exact hlt)) := List.getElem?_eq_getElem _
        generalize rs[i]'(by rw [ROWS.out.1]; exact hlt) = r at hr
        obtain ⟨-, cl⟩ := hall i r hr
        have FIT := Lib.hid (FEW.out i r hr)
        have RP := Lib.hid (run_part wr b (o + i * 4) TO r.cells _ Tryd.underlying31 rfl (by kernel_rfl) ((show At w b (o + i * 4) r.cells from cl).below HB.out hbl))
        have J := Blk.new wr TO #[.int .i64 0, .int .i64 0, .string ⟨#[]⟩, .bool false]
        have NK : Blk ((wr.alloc (.cells #[.int .i64 0, .int .i64 0, .string ⟨#[]⟩, .bool false] TO)).setRow wr.heap.size (opCs r)) wr.heap.size TO (opCs r) := setRow_heap _ _ _ _ _ _ J
        have BN := Com.setRow_bel ((Below.refl wr.heap.size wr).alloc (Nat.le_refl _) (.cells #[.int .i64 0, .int .i64 0, .string ⟨#[]⟩, .bool false] TO)) (Nat.le_refl _) (opCs r)
        have one := Lib.hid (one_op r)
        obtain ⟨w3, hw3⟩ : ∃ w3, w3 = (wr.alloc (.cells #[.int .i64 0, .int .i64 0, .string ⟨#[]⟩, .bool false] TO)).setRow wr.heap.size (opCs r) := ⟨_, rfl⟩
        have W3 := Lib.hid hw3.symm
        rw [← hw3] at NK BN
        have K3 := Lib.hid NK
        have B3 := Lib.hid (HB.out.trans (BN.mono HB.out.size))
        have T3 : Hid (T2 g x es es (fun k => k < w.heap.size ∨ k = wr.heap.size) w3) := Lib.hid (Two.below (pc_obj g es) (pr_obj x es) HS.out BN fun k z => z.imp id fun e => ⟨by omega, by rw [e]; exact K3.out.lt⟩)
        obtain ⟨bx, hbx⟩ : ∃ bx, wr.heap.size = bx := ⟨_, rfl⟩
        have BXE := Lib.hid hbx
        have BXW : Hid (w.heap.size ≤ bx) := Lib.hid (by rw [← hbx]; exact HB.out.size)
        rw [hbx] at K3 T3
        have RD : Hid (∀ V, Keep (fun k => k < w.heap.size ∨ k = bx) w3 V → Blk V bx TO (opCs r)) := Lib.hid fun V hV => (hV.block bx (.inr rfl) K3.out.lt).trans K3.out
        have BW : Hid (∀ V, Keep (fun k => k < w.heap.size ∨ k = bx) w3 V → Below w.heap.size w V) := Lib.hid fun V hV => B3.out.trans (hV.below B3.out.size fun k hk => .inl hk)
        have c3 : w3.cell? ⟨bx, 3, none⟩ = some (.bool r.x3) := K3.out.cell 3
        have c0 : w3.cell? ⟨bx, 0, none⟩ = some (.int .i64 r.x0) := K3.out.cell 0
        have c2 : w3.cell? ⟨bx, 2, none⟩ = some (.string r.x2) := K3.out.cell 2
        have c1 : w3.cell? ⟨bx, 1, none⟩ = some (.int .i64 r.x1) := K3.out.cell 1
        clear hall cl hr hw3 NK BN hbx HS B3 K3
        cases q : r.x3 with
        | false =>
          rw [q] at c3
          have CC := Lib.hid (ctell T3.out r.x0 r.x2 r.x1 (by have := FIT.out.2; omega))
          obtain ⟨p, hp⟩ : ∃ p, tellA r.x0 r.x2 r.x1 es = p := ⟨_, rfl⟩
          have HP := Lib.hid hp
          rw [hp] at CC
          clear hp q
          obtain ⟨ls, hls⟩ : ∃ ls, tellL r.x0 r.x2 r.x1 es = ls := ⟨_, rfl⟩
          have HLS := Lib.hid hls
          rw [hls] at CC
          clear hls
          have ep : (p.1 != p.1) = false := by simp
          have ep2 : (p.2 != p.2) = false := by simp
          go_wp2_with (first
            | (refine Part.wpList_load_part rfl TO (.tmp 31) rfl b (o + i * 4) (opCs r).toList rfl RP.out ?_)
            | (refine wpList_store_row rfl TO (.tmp 6) (.tmp 32) rfl wr.heap.size (opCs r) rfl rfl TO _ J (by kernel_rfl) rfl one.out ?_; rw [W3.out, BXE.out]; clear J RP))
          refine CC.out.mono ?_
          rintro e w4 ⟨rfl, ht, hk⟩
          have T4 := Lib.hid ht
          have K4 := Lib.hid hk
          have d0 : w4.cell? ⟨bx, 0, none⟩ = some (.int .i64 r.x0) := (RD.out w4 hk).cell 0
          have d2 : w4.cell? ⟨bx, 2, none⟩ = some (.string r.x2) := (RD.out w4 hk).cell 2
          have d1 : w4.cell? ⟨bx, 1, none⟩ = some (.int .i64 r.x1) := (RD.out w4 hk).cell 1
          have RR := rtell T4.out r.x0 r.x2 r.x1 (by have := FIT.out.2; omega)
          rw [HP.out, HLS.out] at RR
          have RR := Lib.hid RR
          clear ht hk CC c0 c1 c2 c3 T3
          go_wp2_with fail
          refine RR.out.mono ?_
          rintro e w5 ⟨rfl, ht, hk⟩
          have T5 := Lib.hid ht
          have B5 := Lib.hid (BW.out w5 (K4.out.trans hk))
          clear ht hk RR d0 d1 d2 T4 K4 RD BW
          go_wp2_with fail
          refine wp_region_free [0, 1, 2, 3, 4, 5, 6] 7 [] (fun w1 w2 => Below w1.heap.size w1 w2) (fun k' w' v => match k' with
            | 0 => v = .pointer (some ⟨g, 0, none⟩)
            | 1 => v = .int .i64 (ls.length : Int)
            | 2 => v = .pointer (some ⟨x, 0, none⟩)
            | 3 => v = .pointer (some ⟨x, 0, none⟩)
            | 4 => v = .pointer (some ⟨x, 0, none⟩)
            | 5 => ∃ A c, v = .slice A ls.length c
            | _ => v = .int .i64 (ls.length : Int)) (by kernel_rfl) (by kernel_rfl) (Below.refl _ _) (fun _ _ _ h k => h.trans (k.mono h.size)) (fun k' w1 w2 v h => match k' with
            | 0 => fun x => x
            | 1 => fun x => x
            | 2 => fun x => x
            | 3 => fun x => x
            | 4 => fun x => x
            | 5 => fun x => x
            | _ + 6 => fun x => x) (fun _ _ _ _ _ h => h) ?_ _ (by rfl) ?_
          · refine obs_cons (by rfl) (fun vals w' hgr hdep K hK => ?_) (obs_cons (by rfl) (fun vals w' hgr hdep K hK => ?_) (obs_cons (by rfl) (fun vals w' hgr hdep K hK => ?_) (obs_cons (by rfl) (fun vals w' hgr hdep K hK => ?_) (obs_cons (by rfl) (fun vals w' hgr hdep K hK => ?_) (obs_cons (by rfl) (fun vals w' hgr hdep K hK => ?_) (obs_cons (by rfl) (fun vals w' hgr hdep K hK => ?_) obs_nil))))))
            · exact wp_move (.tmp 3) rfl _ (at_out _ (by kernel_rfl) rfl) (hK _ _ (Below.refl _ _) rfl)
            · exact wp_call 14 [.tmp 95] _ rfl ent_count [.pointer (some ⟨g, 0, none⟩)] (Draw.list1 ((at_dst 0 (by kernel_rfl)).trans (hdep 0 (by simp) (by kernel_rfl)))) (fun v w'' => Below w'.heap.size w' w'' ∧ v = .int .i64 (ls.length : Int)) ((ccount (t2_up T5.out (Draw.below_1 hgr))).mono fun e w'' ⟨h1, h2⟩ => ⟨_, h1, h2 ▸ Below.refl _ _, rfl⟩) (fun v w'' ⟨h1, h2⟩ => hK _ _ h1 h2)
            · exact wp_move (.tmp 4) rfl _ (at_out _ (by kernel_rfl) rfl) (hK _ _ (Below.refl _ _) rfl)
            · exact MapS.st_nil (.tmp 97) rfl _ ((at_dst 2 (by kernel_rfl)).trans (hdep 2 (by simp) (by kernel_rfl))) (hK _ _ (Below.refl _ _) rfl)
            · exact wp_field (.tmp 98) rfl _ _ ((at_dst 3 (by kernel_rfl)).trans (hdep 3 (by simp) (by kernel_rfl))) (by kernel_rfl) (hK _ _ (Below.refl _ _) rfl)
            · obtain ⟨A, c, hc⟩ := xrow (t2_up T5.out (Draw.below_1 hgr))
              exact wp_load1 (.tmp 99) rfl ⟨x, 0, none⟩ ((at_dst 4 (by kernel_rfl)).trans (hdep 4 (by simp) (by kernel_rfl))) Tryd.underlying27 rfl _ hc (hK _ _ (Below.refl _ _) ⟨A, c, rfl⟩)
            · obtain ⟨A, c, e1⟩ := hdep 5 (by simp) (by kernel_rfl)
              exact st_lenT Tryd.underlying27 (.tmp 100) rfl A _ c ((at_dst 5 (by kernel_rfl)).trans e1) (hK _ _ (Below.refl _ _) rfl)
          · intro vals w' hgr hG
            refine wp_bin (.tmp 96) (.tmp 101) rfl _ _ (.bool false) ((at_dst 1 (by kernel_rfl)).trans (hG 1 (by simp))) ((at_dst 6 (by kernel_rfl)).trans (hG 6 (by simp))) (b_neqi _ _ _ (by simp) _ _ _) (wpAnyH_done (by kernel_rfl) ?_ _)
            have T6 := Lib.hid (t2_up T5.out (Draw.below_1 hgr))
            have B6 := Lib.hid (B5.out.trans ((Draw.below_1 hgr).mono B5.out.size))
            clear hG hgr T5 B5
            simp only [fill, dstAt, List.getElem?_cons_zero, List.getElem?_cons_succ, Option.bind_some, Act.put, List.setIfInBounds_toArray, List.set_cons_zero, List.set_cons_succ]
            generalize vals 0 = y0, vals 1 = y1, vals 2 = y2, vals 3 = y3, vals 4 = y4, vals 5 = y5, vals 6 = y6 at *
            generalize w' = w6 at *
            go_wp2_with fail
            go_roundw
            case rel => exact ⟨i + 1, ls, by go_num, by omega, Lib.hid (Two.below (pc_obj g _) (pr_obj x _) T6.out (Below.refl _ _) fun k z => .inl (.inl z)), B6⟩
            case measure => simp [intOf]; omega
        | true =>
          rw [q] at c3
          have CC := Lib.hid (cget T3.out r.x0 r.x2 r.x1 (by have := FIT.out.2; omega) (by have := FIT.out.2; omega))
          obtain ⟨p, hp⟩ : ∃ p, askA r.x0 r.x2 r.x1 es = p := ⟨_, rfl⟩
          have HP := Lib.hid hp
          rw [hp] at CC
          clear hp q
          have ep : (p.1 != p.1) = false := by simp
          have ep2 : (p.2 != p.2) = false := by simp
          go_wp2_with (first
            | (refine Part.wpList_load_part rfl TO (.tmp 31) rfl b (o + i * 4) (opCs r).toList rfl RP.out ?_)
            | (refine wpList_store_row rfl TO (.tmp 6) (.tmp 32) rfl wr.heap.size (opCs r) rfl rfl TO _ J (by kernel_rfl) rfl one.out ?_; rw [W3.out, BXE.out]; clear J RP))
          refine CC.out.mono ?_
          rintro e w4 ⟨rfl, ht, hk⟩
          have T4 := Lib.hid ht
          have K4 := Lib.hid hk
          have d0 : w4.cell? ⟨bx, 0, none⟩ = some (.int .i64 r.x0) := (RD.out w4 hk).cell 0
          have d2 : w4.cell? ⟨bx, 2, none⟩ = some (.string r.x2) := (RD.out w4 hk).cell 2
          have d1 : w4.cell? ⟨bx, 1, none⟩ = some (.int .i64 r.x1) := (RD.out w4 hk).cell 1
          have RR := rget T4.out r.x0 r.x2 r.x1 (by have := FIT.out.2; omega) (by have := FIT.out.2; omega)
          rw [HP.out] at RR
          have RR := Lib.hid RR
          clear ht hk CC c0 c1 c2 c3 T3
          go_wp2_with fail
          refine RR.out.mono ?_
          rintro e w5 ⟨rfl, ht, hk⟩
          have T5 := Lib.hid ht
          have B5 := Lib.hid (BW.out w5 (K4.out.trans hk))
          clear ht hk RR d0 d1 d2 T4 K4 RD BW
          go_wp2_with fail
          refine wp_region_free [0, 1, 2, 3, 4, 5, 6] 7 [] (fun w1 w2 => Below w1.heap.size w1 w2) (fun k' w' v => match k' with
            | 0 => v = .pointer (some ⟨g, 0, none⟩)
            | 1 => v = .int .i64 (es.length : Int)
            | 2 => v = .pointer (some ⟨x, 0, none⟩)
            | 3 => v = .pointer (some ⟨x, 0, none⟩)
            | 4 => v = .pointer (some ⟨x, 0, none⟩)
            | 5 => ∃ A c, v = .slice A es.length c
            | _ => v = .int .i64 (es.length : Int)) (by kernel_rfl) (by kernel_rfl) (Below.refl _ _) (fun _ _ _ h k => h.trans (k.mono h.size)) (fun k' w1 w2 v h => match k' with
            | 0 => fun x => x
            | 1 => fun x => x
            | 2 => fun x => x
            | 3 => fun x => x
            | 4 => fun x => x
            | 5 => fun x => x
            | _ + 6 => fun x => x) (fun _ _ _ _ _ h => h) ?_ _ (by rfl) ?_
          · refine obs_cons (by rfl) (fun vals w' hgr hdep K hK => ?_) (obs_cons (by rfl) (fun vals w' hgr hdep K hK => ?_) (obs_cons (by rfl) (fun vals w' hgr hdep K hK => ?_) (obs_cons (by rfl) (fun vals w' hgr hdep K hK => ?_) (obs_cons (by rfl) (fun vals w' hgr hdep K hK => ?_) (obs_cons (by rfl) (fun vals w' hgr hdep K hK => ?_) (obs_cons (by rfl) (fun vals w' hgr hdep K hK => ?_) obs_nil))))))
            · exact wp_move (.tmp 3) rfl _ (at_out _ (by kernel_rfl) rfl) (hK _ _ (Below.refl _ _) rfl)
            · exact wp_call 14 [.tmp 95] _ rfl ent_count [.pointer (some ⟨g, 0, none⟩)] (Draw.list1 ((at_dst 0 (by kernel_rfl)).trans (hdep 0 (by simp) (by kernel_rfl)))) (fun v w'' => Below w'.heap.size w' w'' ∧ v = .int .i64 (es.length : Int)) ((ccount (t2_up T5.out (Draw.below_1 hgr))).mono fun e w'' ⟨h1, h2⟩ => ⟨_, h1, h2 ▸ Below.refl _ _, rfl⟩) (fun v w'' ⟨h1, h2⟩ => hK _ _ h1 h2)
            · exact wp_move (.tmp 4) rfl _ (at_out _ (by kernel_rfl) rfl) (hK _ _ (Below.refl _ _) rfl)
            · exact MapS.st_nil (.tmp 97) rfl _ ((at_dst 2 (by kernel_rfl)).trans (hdep 2 (by simp) (by kernel_rfl))) (hK _ _ (Below.refl _ _) rfl)
            · exact wp_field (.tmp 98) rfl _ _ ((at_dst 3 (by kernel_rfl)).trans (hdep 3 (by simp) (by kernel_rfl))) (by kernel_rfl) (hK _ _ (Below.refl _ _) rfl)
            · obtain ⟨A, c, hc⟩ := xrow (t2_up T5.out (Draw.below_1 hgr))
              exact wp_load1 (.tmp 99) rfl ⟨x, 0, none⟩ ((at_dst 4 (by kernel_rfl)).trans (hdep 4 (by simp) (by kernel_rfl))) Tryd.underlying27 rfl _ hc (hK _ _ (Below.refl _ _) ⟨A, c, rfl⟩)
            · obtain ⟨A, c, e1⟩ := hdep 5 (by simp) (by kernel_rfl)
              exact st_lenT Tryd.underlying27 (.tmp 100) rfl A _ c ((at_dst 5 (by kernel_rfl)).trans e1) (hK _ _ (Below.refl _ _) rfl)
          · intro vals w' hgr hG
            refine wp_bin (.tmp 96) (.tmp 101) rfl _ _ (.bool false) ((at_dst 1 (by kernel_rfl)).trans (hG 1 (by simp))) ((at_dst 6 (by kernel_rfl)).trans (hG 6 (by simp))) (b_neqi _ _ _ (by simp) _ _ _) (wpAnyH_done (by kernel_rfl) ?_ _)
            have T6 := Lib.hid (t2_up T5.out (Draw.below_1 hgr))
            have B6 := Lib.hid (B5.out.trans ((Draw.below_1 hgr).mono B5.out.size))
            clear hG hgr T5 B5
            simp only [fill, dstAt, List.getElem?_cons_zero, List.getElem?_cons_succ, Option.bind_some, Act.put, List.setIfInBounds_toArray, List.set_cons_zero, List.set_cons_succ]
            generalize vals 0 = y0, vals 1 = y1, vals 2 = y2, vals 3 = y3, vals 4 = y4, vals 5 = y5, vals 6 = y6 at *
            generalize w' = w6 at *
            go_wp2_with fail
            go_roundw
            case rel => exact ⟨i + 1, es, by go_num, by omega, Lib.hid (Two.below (pc_obj g _) (pr_obj x _) T6.out (Below.refl _ _) fun k z => .inl (.inl z)), B6⟩
            case measure => simp [intOf]; omega
      · have e : i = n := by omega
        subst e
        have AA := Lib.hid (AW.out wr HB.out)
        clear HS
        go_wp2_with fail
        refine AA.out.mono ?_
        rintro e w9 ⟨rfl, hb⟩
        have B9 := Lib.hid (HB.out.trans (hb.mono HB.out.size))
        clear hb
        go_wp2_with fail
        go_ret
        exact ⟨rfl, B9.out⟩
end Go.Proofs.YtjeenmeoiidmnaaDoor.LawDoes21
