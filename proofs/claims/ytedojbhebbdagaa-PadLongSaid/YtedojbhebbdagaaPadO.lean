/- The document's words of layer 12: the contract of Open. -/
import Derived.Test.YtedojbhebbdagaaPadR
import Derived.Test.YtedojbhebbdagaaOps
import Derived.Lib.SliceRun
set_option linter.unusedVariables false
namespace Go.Proofs.Ytedojbhebbdagaa.PadO
open Go.RowKit Go.Proofs.Ytedojbhebbdagaa.Sums Go.Proofs.Ytedojbhebbdagaa.Mem Go.Proofs.Ytedojbhebbdagaa.Blk Go.Proofs.Ytedojbhebbdagaa.Bits Go.Proofs.Ytedojbhebbdagaa.Ints Go.Proofs.Ytedojbhebbdagaa.Free Go.Proofs.Ytedojbhebbdagaa.Steps Go.Proofs.Ytedojbhebbdagaa.Ops Go.Proofs.Ytedojbhebbdagaa.PadR

/-- How much stands behind, as the row tells; is it in order? -/
def told (l : List Int) : Nat := (l.getD (l.length - 2) 0).toNat
def okO (l : List Int) : Bool := decide (told l + 2 ≤ l.length) && (List.range (told l)).all fun i => decide (l.getD (l.length - 2 - told l + i) 0 = (i : Int) + 1)

theorem byte_bd {l : List Int} (h : Bytes l) (i : Nat) : 0 ≤ l.getD i 0 ∧ l.getD i 0 ≤ 255 := by
  rw [List.getD_eq_getElem?_getD]
  cases e : l[i]? with
  | none => decide
  | some z => exact h z (List.mem_of_getElem? e)
theorem open_more (A : Option Addr) (n c : Nat) (w : World) (hn : n < 2) : Calls Try.prog 11 #[.slice A n c] w fun e w' => e = .returned (.tuple #[.slice none 0 0, .int .i64 0, .int .i64 8]) ∧ w = w' := by
  have g : decide ((n : Int) < 2) = true := decide_eq_true (by omega)
  go_enter Try.func11, Try.ntmps11
  go_wp2_with fail
  go_ret3
  exact ⟨rfl, rfl⟩

theorem byte_elem (w : World) : (sizeOf (Try.prog.elem 22)).run Try.prog w = .ok 1 w := by kernel_rfl
theorem cut_to (A : Option Addr) (n c k : Nat) (hk : k ≤ n) (hn : n ≤ c) : ∃ A1, (A1 = A) ∧ ∀ w, (Instr.sliceAt 22 (.slice A n c) none (some (.int .i64 (k : Int))) none).run Try.prog w = .ok (.slice A1 k c) w := by
  refine ⟨A, rfl, fun w => ?_⟩
  rw [run_sliceAt_slice (P := Try.prog) (h := (by kernel_rfl)), run_slice_h (P := Try.prog) (w := w) (t := 22) (a := A) (len := n) (cap := c) (ht := (by kernel_rfl)) .i64 (k : Int) (by omega) (by omega), byte_elem]
  simp only [Result.andThen_ok, sliced, Int.toNat_natCast, Nat.zero_mul, Nat.sub_zero]
  by_cases h : c = 0
  · rw [if_pos h]
  · rw [if_neg h]
    cases A with
    | none => rfl
    | some a => simp [Addr.add]
theorem b_sub (a b : Int) (x y : Operand) (w : World) (h0 : -9223372036854775808 ≤ a - b) (h1 : a - b ≤ 9223372036854775807) : (do eqGuard .sub 3 x y (.int .i64 a) (.int .i64 b); binOp .sub 3 (.int .i64 a) (.int .i64 b) : Sem Value).run Try.prog w = .ok (.int .i64 (a - b)) w := by
  have e : IntKind.i64.wrap (a - b) = a - b := IntWalk.i64_in _ (by omega)
  simp [go_sem, eqGuard, e]
theorem st_byte_atz {o : Oper} {a : Act} {w : World} {K : Act → World → Prop} {Q : Exit → Act → World → Prop} (x y : Operand) (ho : o.op = .indexAddr 22 x y)
    (b p n c i : Nat) (z : Int) (hx : a.eval x = .slice (some ⟨b, p, none⟩) n c) (hy : a.eval y = .int .i64 z) (hz : z = (i : Int)) (hi : i < n)
    (h : K (a.put o.dst (.pointer (some ⟨b, p + i, none⟩))) w) : Step Try.prog o a w K Q := by
  subst hz
  exact st_byte_at (w := w) (Q := Q) x y ho b p n c i hx hy hi h
theorem ent_both : Enters Try.prog 7 := enters_of Try.func7 (by kernel_rfl) rfl
theorem all_up {w w' : World} {g : Nat} {rs : List Both.Row} (h : Both.All w w.heap.size g rs) (hb : Below w.heap.size w w') : Both.All w' w'.heap.size g rs :=
  ⟨Nat.lt_of_lt_of_le h.1 hb.size, fun k r hr => ⟨(hb.cell (p := ⟨g, k, none⟩) h.1).trans (h.2 k r hr).1, ((h.2 k r hr).2.below hb).more hb.size⟩⟩
theorem run_rows_1 (w : World) (v : Value) : (Instr.buildSlice 34 1 #[(0, v)]).run Try.prog w = (Instr.buildSlice 34 1 #[(0, v)]).run Try.prog w := rfl
theorem st_rows_1 {o : Oper} {a : Act} {w : World} {K : Act → World → Prop} {Q : Exit → Act → World → Prop} (x1 : Operand) (ho : o.op = .buildSlice 34 1 #[(0, x1)]) (A : Option Addr) (n c : Nat) (h1 : a.eval x1 = .slice A n c)
    (hK : K (a.put o.dst (.slice (some ⟨w.heap.size, 0, none⟩) 1 1)) (w.alloc (.cells #[.slice A n c] 22))) : Step Try.prog o a w K Q := by
  constructor
  have hb : (Instr.buildSlice 34 1 #[(0, .slice A n c)]).run Try.prog w = .ok (.slice (some ⟨w.heap.size, 0, none⟩) 1 1) (w.alloc (.cells #[.slice A n c] 22)) := by kernel_rfl
  have hr : (execOp a.eval o).run Try.prog w = .ok (.value (.slice (some ⟨w.heap.size, 0, none⟩) 1 1)) (w.alloc (.cells #[.slice A n c] 22)) := by
    simp [execOp, ho, h1, hb, Result.andThen]
  unfold Oper.wp
  rw [hr]
  exact hK
theorem all_take {l : List Int} {m b : Nat} : (List.range m).all (fun i => decide (l.getD (b + i) 0 = (i : Int) + 1)) = true ↔ ∀ i, i < m → l.getD (b + i) 0 = (i : Int) + 1 := by
  simp [List.all_eq_true]

set_option maxHeartbeats 2000000 in
set_option maxRecDepth 100000 in
/-- A row of two bytes and more is opened, or told that it is out of order. -/
theorem open_ref (A : Option Addr) (n c : Nat) (l : List Int) (w : World) (B : Nat) (h : Holds w B A n c l) (hB : B ≤ w.heap.size) (hn : 2 ≤ n) (h3 : n ≤ 1000000) :
    Calls Try.prog 11 #[.slice A n c] w fun e w' => (okO l = false ∧ e = .returned (.tuple #[.slice none 0 0, .int .i64 0, .int .i64 130]) ∧ w = w') ∨
      (okO l = true ∧ ∃ v, e = .returned (.tuple #[v, .int .i64 (l.getD (n - 1) 0), .int .i64 0]) ∧ Owns w' w.heap.size v (n - 2 - told l) (l.take (n - 2 - told l)) ∧ Below w.heap.size w w') := by
  obtain ⟨b, p, rfl, hbx⟩ := h.2.2.2.2 (by omega)
  clear hbx
  have HK := Lib.hid h
  have hnc := h.2.1
  have LN := Lib.hid h.1
  have BY := Lib.hid (fun i => byte_bd h.2.2.2.1 i)
  obtain ⟨n2, hn2⟩ : ∃ n2, n2 = n - 2 := ⟨_, rfl⟩
  have f0 : (n : Int) - 2 = (n2 : Int) := by omega
  have f1 : IntKind.i64.wrap ((n : Int) - 2) = (n2 : Int) := by rw [IntWalk.i64_in _ (by omega)]; exact f0
  have c2 := cell_getD h n2 (by omega)
  obtain ⟨m, hm⟩ : ∃ m, m = told l := ⟨_, rfl⟩
  have TM : l.getD n2 0 = (m : Int) := by
    rw [hm, told, h.1, ← hn2]
    have := BY.out n2
    omega
  have mb : m ≤ 255 := by have := BY.out n2; omega
  rw [TM] at c2
  have OK : Hid (okO l = (decide (m + 2 ≤ n) && (List.range m).all fun i => decide (l.getD (n2 - m + i) 0 = (i : Int) + 1))) := Lib.hid (by unfold okO; rw [← hm, h.1, hn2])
  have TH := Lib.hid hm
  have N2 := Lib.hid hn2
  have g : decide ((n : Int) < 2) = false := decide_eq_false (by omega)
  have bn2 : n2 < n := by omega
  rw [← hm]
  clear h hm TM
  by_cases hf : m + 2 ≤ n
  · obtain ⟨f, hfr⟩ : ∃ f, f = n2 - m := ⟨_, rfl⟩
    have f2 : IntKind.i64.wrap ((n2 : Int) - (m : Int)) = (f : Int) := by rw [IntWalk.i64_in _ (by omega)]; omega
    have g2 : decide ((f : Int) < 0) = false := decide_eq_false (by omega)
    have FE : Hid (n - 2 - m = f) := Lib.hid (by omega)
    have FN : Hid (f + m = n2 ∧ n2 + 2 = n) := Lib.hid (by omega)
    rw [← hfr, decide_eq_true hf, Bool.true_and] at OK
    rw [FE.out]
    obtain ⟨n1, hn1⟩ : ∃ n1, n1 = n - 1 := ⟨_, rfl⟩
    rw [← hn1]
    have C1' := cell_getD HK.out n1 (by omega)
    have q1 : (n : Int) - 1 = (n1 : Int) := by omega
    have l1 : n1 < n := by omega
    have HT : Hid (Holds w B (some ⟨b, p, none⟩) f c (l.take f)) := Lib.hid (HK.out.upto (by omega))
    have fb : f ≤ 1000000 := by omega
    have fnn : f ≤ n := by omega
    obtain ⟨y, hy⟩ : ∃ y, y = l.getD n1 0 := ⟨_, rfl⟩
    obtain ⟨lf, hlf⟩ : ∃ lf, lf = l.take f := ⟨_, rfl⟩
    have lb : 0 ≤ y ∧ y ≤ 255 := by rw [hy]; exact BY.out n1
    rw [← hy] at C1' ⊢
    rw [← hlf] at HT ⊢
    have C1C := Lib.hid C1'
    have XC : Hid (∀ w' : World, Below w.drew.heap.size w.drew w' → w'.cell? ⟨b, p + n1, none⟩ = some (.int .u8 y) ∧ Holds w' B (some ⟨b, p, none⟩) f c lf ∧ B ≤ w'.heap.size ∧ w.heap.size ≤ w'.heap.size) := Lib.hid fun w' hw => by
      have hx := (below_drewN (Below.refl w.heap.size w) 1).trans hw
      have cx := cell_getD (HK.out.below (hx.mono hB)) n1 l1
      rw [← hy] at cx
      exact ⟨cx, HT.out.below (hx.mono hB), Nat.le_trans hB hx.size, hx.size⟩
    clear hn2 hfr hf f0 hn1 hy hlf C1' C1C
    go_enter Try.func11, Try.ntmps11
    go_wp2_with fail
    clear c2 f1 f2
    go_loopw [7] (fun kv wr => ∃ i : Nat, kv = .int .i64 (i : Int) ∧ i ≤ m ∧ Hid (∀ t, t < i → l.getD (f + t) 0 = (t : Int) + 1) ∧ Hid (wr = w)) (fun kv _ => m - (intOf kv).toNat)
    case atStart => exact ⟨0, rfl, by omega, Lib.hid (fun t ht => by omega), Lib.hid rfl⟩
    case round =>
      obtain ⟨i, rfl, hi, HA, HW⟩ := hrel
      obtain rfl := HW.out
      by_cases hlt : i < m
      · obtain ⟨s, hs⟩ : ∃ s, s = f + i := ⟨_, rfl⟩
        have fn := FN.out
        have q1 : IntKind.i64.wrap ((f : Int) + (i : Int)) = (s : Int) := by rw [IntWalk.i64_in _ (by omega)]; omega
        have cs := cell_getD HK.out s (by omega)
        have sb : s < n := by omega
        have yb := BY.out s
        have NX : Hid (l.getD s 0 = (i : Int) + 1 → ∀ t, t < i + 1 → l.getD (f + t) 0 = (t : Int) + 1) := Lib.hid fun e t ht => by
          by_cases q : t = i
          · subst q; rw [← hs]; exact e
          · exact HA.out t (by omega)
        have BAD : Hid (l.getD s 0 ≠ (i : Int) + 1 → okO l = false) := Lib.hid fun e => by
          rw [OK.out, List.all_eq_false]
          exact ⟨i, List.mem_range.2 hlt, by rw [← hs]; simpa using e⟩
        generalize l.getD s 0 = y at *
        obtain ⟨Y, rfl⟩ : ∃ Y : Nat, y = (Y : Int) := ⟨y.toNat, by omega⟩
        have u1 : IntKind.i64.wrap (Y : Int) = (Y : Int) := IntWalk.i64_in _ (by omega)
        have u2 : IntKind.i64.wrap ((i : Int) + 1) = (i : Int) + 1 := IntWalk.i64_in _ (by omega)
        clear fn hs HA
        by_cases e : (Y : Int) = (i : Int) + 1
        · have g5 : ((Y : Int) != (i : Int) + 1) = false := by simp [e]
          have HA2 := Lib.hid (NX.out e)
          clear NX BAD e
          go_wp2_with fail
          go_roundw
          case rel => exact ⟨i + 1, by go_num, by omega, HA2, Lib.hid (by trivial)⟩
          case measure => simp [intOf]; omega
        · have g5 : ((Y : Int) != (i : Int) + 1) = true := by rw [bne_iff_ne]; exact e
          have F := Lib.hid (BAD.out e)
          clear NX BAD e
          go_wp2_with fail
          go_ret3
          exact .inl ⟨F.out, rfl, rfl⟩
      · obtain rfl : i = m := by omega
        have OT : Hid (okO l = true) := Lib.hid (by rw [OK.out]; exact all_take.2 HA.out)
        obtain ⟨A1, eA, CT⟩ := cut_to (some ⟨b, p, none⟩) n c f fnn hnc
        subst eA
        have C1 := Lib.hid CT
        clear CT HA
        go_wp2_with fail
        refine wp_region_free [0, 1, 2, 3, 4, 5, 6, 7, 8, 9, 10, 11, 12] 13 [14] (fun w1 w2 => Below w1.heap.size w1 w2) (fun k' w' v => match k' with
          | 0 => v = .slice (some ⟨b, p, none⟩) n c
          | 1 => v = .int .i64 ((f : Int))
          | 2 => v = .slice (some ⟨b, p, none⟩) f c
          | 3 => ∃ g1, v = .slice (some ⟨g1, 0, none⟩) 1 1 ∧ Both.All w' w'.heap.size g1 [⟨some ⟨b, p, none⟩, f, c, lf⟩]
          | 4 => Owns w' wr.heap.size v f lf
          | 5 => v = .slice (some ⟨b, p, none⟩) n c
          | 6 => v = .slice (some ⟨b, p, none⟩) n c
          | 7 => v = .int .i64 ((n : Int))
          | 8 => v = .int .i64 ((n : Int) - 1)
          | 9 => v = .pointer (some ⟨b, p + n1, none⟩)
          | 10 => v = .int .u8 y
          | 11 => v = .int .i64 y
          | _ => Owns w' wr.heap.size v f lf) (by kernel_rfl) (by kernel_rfl) (Below.refl _ _) (fun _ _ _ h k => h.trans (k.mono h.size)) (fun k' w1 w2 v h => match k' with
          | 0 => fun x => x
          | 1 => fun x => x
          | 2 => fun x => x
          | 3 => fun ⟨g1, e, x⟩ => ⟨g1, e, all_up x h⟩
          | 4 => fun x => x.below h (Nat.le_refl _)
          | 5 => fun x => x
          | 6 => fun x => x
          | 7 => fun x => x
          | 8 => fun x => x
          | 9 => fun x => x
          | 10 => fun x => x
          | 11 => fun x => x
          | _ + 12 => fun x => x.below h (Nat.le_refl _)) (fun _ _ _ _ _ h => h) ?_ _ (by rfl) ?_
        · refine obs_cons (by rfl) (fun vals w' hgr hdep K hK => ?_) (obs_cons (by rfl) (fun vals w' hgr hdep K hK => ?_) (obs_cons (by rfl) (fun vals w' hgr hdep K hK => ?_) (obs_cons (by rfl) (fun vals w' hgr hdep K hK => ?_) (obs_cons (by rfl) (fun vals w' hgr hdep K hK => ?_) (obs_cons (by rfl) (fun vals w' hgr hdep K hK => ?_) (obs_cons (by rfl) (fun vals w' hgr hdep K hK => ?_) (obs_cons (by rfl) (fun vals w' hgr hdep K hK => ?_) (obs_cons (by rfl) (fun vals w' hgr hdep K hK => ?_) (obs_cons (by rfl) (fun vals w' hgr hdep K hK => ?_) (obs_cons (by rfl) (fun vals w' hgr hdep K hK => ?_) (obs_cons (by rfl) (fun vals w' hgr hdep K hK => ?_) (obs_cons (by rfl) (fun vals w' hgr hdep K hK => ?_) (obs_nil)))))))))))))
          · exact wp_move (.tmp 0) rfl _ (at_out _ (by kernel_rfl) rfl) (hK _ _ (Below.refl _ _) rfl)
          · exact wp_move (.tmp 6) rfl _ (at_out _ (by kernel_rfl) rfl) (hK _ _ (Below.refl _ _) rfl)
          · exact wp_slice (.tmp 40) rfl _ _ none (some (.int .i64 (f : Int))) none ((at_dst 0 (by kernel_rfl)).trans (hdep 0 (by simp) (by kernel_rfl))) rfl (congrArg some ((at_dst 1 (by kernel_rfl)).trans (hdep 1 (by simp) (by kernel_rfl)))) rfl (C1.out w') (hK _ _ (Below.refl _ _) rfl)
          · exact st_rows_1 (.tmp 42) rfl _ _ _ ((at_dst 2 (by kernel_rfl)).trans (hdep 2 (by simp) (by kernel_rfl))) (hK _ _ ((Below.refl _ _).alloc (Nat.le_refl _) _) ⟨_, rfl, by have := Both.All.lit (XC.out w' hgr).2.2.1 [⟨some ⟨b, p, none⟩, f, c, lf⟩] #[.slice (some ⟨b, p, none⟩) f c] 22 rfl (Both.mem1 (XC.out w' hgr).2.1); simpa using this⟩)
          · obtain ⟨g1, eg, al⟩ := hdep 3 (by simp) (by kernel_rfl)
            exact wp_call 7 [.tmp 43] _ rfl ent_both [.slice (some ⟨g1, 0, none⟩) 1 1] (congrArg (fun z => [z]) ((at_dst 3 (by kernel_rfl)).trans eg)) (fun v w'' => Owns w'' wr.heap.size v f lf ∧ Below w'.heap.size w' w'') ((Both.both_any g1 1 1 _ w' al rfl (by decide) (by show f + 0 ≤ 1048576; omega)).mono fun e w'' ⟨v, h1, h2, h3⟩ => ⟨v, h1, by simpa [Both.total, Both.flat] using h2.mono (XC.out w' hgr).2.2.2, h3⟩) (fun v w'' ⟨h1, h2⟩ => hK v _ h2 h1)
          · exact wp_move (.tmp 0) rfl _ (at_out _ (by kernel_rfl) rfl) (hK _ _ (Below.refl _ _) rfl)
          · exact wp_move (.tmp 0) rfl _ (at_out _ (by kernel_rfl) rfl) (hK _ _ (Below.refl _ _) rfl)
          · exact st_len_bytes (.tmp 46) rfl _ _ _ ((at_dst 6 (by kernel_rfl)).trans (hdep 6 (by simp) (by kernel_rfl))) (hK _ _ (Below.refl _ _) rfl)
          · exact wp_bin (.tmp 47) (.const (.int .i64 1)) rfl _ _ _ ((at_dst 7 (by kernel_rfl)).trans (hdep 7 (by simp) (by kernel_rfl))) rfl (b_sub _ _ _ _ _ (by omega) (by omega)) (hK _ _ (Below.refl _ _) rfl)
          · exact st_byte_atz (.tmp 45) (.tmp 48) rfl b p n c n1 _ ((at_dst 5 (by kernel_rfl)).trans (hdep 5 (by simp) (by kernel_rfl))) ((at_dst 8 (by kernel_rfl)).trans (hdep 8 (by simp) (by kernel_rfl))) q1 l1 (hK _ _ (Below.refl _ _) rfl)
          · exact wp_load1 (.tmp 49) rfl ⟨b, p + n1, none⟩ ((at_dst 9 (by kernel_rfl)).trans (hdep 9 (by simp) (by kernel_rfl))) Try.underlying5 rfl _ ((XC.out w' hgr).1) (hK _ _ (Below.refl _ _) rfl)
          · exact wp_conv (.tmp 50) rfl _ _ ((at_dst 10 (by kernel_rfl)).trans (hdep 10 (by simp) (by kernel_rfl))) (conv_int _ _ (by omega) (by omega)) (hK _ _ (Below.refl _ _) rfl)
          · exact st_assign (.tmp 44) _ rfl (at_dst 4 (by kernel_rfl)) (hK _ _ (Below.refl _ _) (hdep 4 (by simp) (by kernel_rfl)))
        · intro vals w' hgr hG
          have o4 : Owns w' wr.heap.size (vals 12) f lf := hG 12 (by simp)
          refine st_assign (.tmp 51) _ rfl ((at_dst 11 (by kernel_rfl)).trans (hG 11 (by simp))) ?_
          refine wpAnyH_next 14 _ rfl rfl (by kernel_rfl) (st_assign (.const (.int .i64 0)) _ rfl rfl ⟨trivial, wpAnyH_done (by kernel_rfl) ?_ _⟩)
          have OX := Lib.hid o4
          have BX := Lib.hid ((below_drewN (Below.refl wr.heap.size wr) 1).trans hgr)
          clear hG hgr o4 XC C1 HT HK
          simp only [fill, dstAt, List.getElem?_cons_zero, List.getElem?_cons_succ, Option.bind_some, Act.put, List.setIfInBounds_toArray, List.set_cons_zero, List.set_cons_succ]
          generalize vals 0 = z0, vals 1 = z1, vals 2 = z2, vals 3 = z3, vals 4 = z4, vals 5 = z5, vals 6 = z6, vals 7 = z7, vals 8 = z8, vals 9 = z9, vals 10 = z10, vals 11 = z11, vals 12 = z12 at *
          go_wp2_with fail
          go_ret3
          exact .inr ⟨OT.out, _, rfl, OX.out, BX.out⟩
  · have OF : Hid (okO l = false) := Lib.hid (by rw [OK.out, decide_eq_false hf, Bool.false_and])
    have f2 : IntKind.i64.wrap ((n2 : Int) - (m : Int)) = (n2 : Int) - (m : Int) := IntWalk.i64_in _ (by omega)
    have g2 : decide ((n2 : Int) - (m : Int) < 0) = true := decide_eq_true (by omega)
    have g3 : ((n2 : Int) - (m : Int) < 0) = True := eq_true (by omega)
    have g4 : ((n2 : Int) < (m : Int)) = True := eq_true (by omega)
    clear hf hn2 f0 OK
    go_enter Try.func11, Try.ntmps11
    go_wp2_with fail
    go_ret3
    exact .inl ⟨OF.out, rfl, rfl⟩
end Go.Proofs.Ytedojbhebbdagaa.PadO
