/- The document's Exts: two rows of options, the same or not. -/
import Derived.Test.YtjhfginopbjldaaDoorOpts
import Derived.Test.YtjhfginopbjldaaDoorSteps
import Derived.Laws.StructEq
import Derived.Deep.Fields
import Derived.LoopTactic
set_option linter.unusedVariables false
namespace Go.Proofs.YtjhfginopbjldaaDoor.Exts
open Go.RowKit Go.Proofs.YtjhfginopbjldaaDoor.Sums Go.Proofs.YtjhfginopbjldaaDoor.Mem Go.Proofs.YtjhfginopbjldaaDoor.Blk Go.Proofs.YtjhfginopbjldaaDoor.Free Go.Proofs.YtjhfginopbjldaaDoor.Steps Go.Proofs.YtjhfginopbjldaaDoor.Opts

/-- A row of options lies there. -/
def Row (w : World) (v : Value) (l : List (Int × ByteArray)) : Prop :=
  ∃ A c, v = .slice A l.length c ∧ ∀ i k d, l[i]? = some (k, d) → ∃ a, A = some a ∧ a.block < w.heap.size ∧ w.cell? (a.add (i * 2)) = some (.int .i64 k) ∧ w.cell? (a.add (i * 2 + 1)) = some (.string d)

theorem add_block (a : Addr) (n : Nat) : (a.add n).block = a.block := by unfold Addr.add; split <;> rfl
theorem Row.below {w w' : World} {v : Value} {l : List (Int × ByteArray)} (h : Row w v l) (hb : Below w.heap.size w w') : Row w' v l := by
  obtain ⟨A, c, rfl, hc⟩ := h
  refine ⟨A, c, rfl, fun i k d hi => ?_⟩
  obtain ⟨a, rfl, hlt, h1, h2⟩ := hc i k d hi
  exact ⟨a, rfl, Nat.lt_of_lt_of_le hlt hb.size, (hb.cell (by rw [add_block]; exact hlt)).trans h1, (hb.cell (by rw [add_block]; exact hlt)).trans h2⟩
theorem cells_at : ∀ (l : List (Int × ByteArray)) (i : Nat) (k : Int) (d : ByteArray), l[i]? = some (k, d) → (cells l)[i * 2]? = some (.int .i64 k) ∧ (cells l)[i * 2 + 1]? = some (.string d)
  | (k', d') :: r, 0, k, d, h => by
    simp at h
    obtain ⟨rfl, rfl⟩ := h
    exact ⟨rfl, rfl⟩
  | (k', d') :: r, i + 1, k, d, h => by
    have := cells_at r i k d (by simpa using h)
    have e1 : (i + 1) * 2 = i * 2 + 1 + 1 := by omega
    rw [e1]
    simpa [cells] using this
theorem Row.of_owns {w : World} {B : Nat} {v : Value} {l : List (Int × ByteArray)} (h : w.ownsRow B 45 2 v l.length (cells l)) : Row w v l := by
  have hc := fun g => h.cells (g := g)
  have hl := h.lt
  rcases h.2 with ⟨rfl, hn⟩ | ⟨g, cap, cur, rfl, hg, hh, _⟩
  · refine ⟨none, 0, by rw [hn], fun i k d hi => ?_⟩
    rw [List.length_eq_zero_iff.1 hn] at hi
    cases hi
  · refine ⟨some ⟨g, 0, none⟩, cap, rfl, fun i k d hi => ⟨_, rfl, (hl g rfl).2, ?_, ?_⟩⟩
    · exact hc g rfl _ _ (cells_at l i k d hi).1
    · exact hc g rfl _ _ (cells_at l i k d hi).2
theorem Row.nil (w : World) : Row w (.slice none 0 0) [] := ⟨none, 0, rfl, fun i k d h => by cases h⟩

/-- One of a row's structs is loaded. -/
theorem st_load_pair {o : Oper} {a : Act} {w : World} {K : Act → World → Prop} {Q : Exit → Act → World → Prop} (x : Operand) (ho : o.op = .load 45 x)
    (ad : Addr) (i : Nat) (k : Int) (d : ByteArray) (hx : a.eval x = .pointer (some (ad.add (i * 2)))) (h1 : w.cell? (ad.add (i * 2)) = some (.int .i64 k)) (h2 : w.cell? (ad.add (i * 2 + 1)) = some (.string d))
    (h : K (a.put o.dst (.agg #[.int .i64 k, .string d])) w) : Step Tryd.prog o a w K Q := by
  refine wp_value (.agg #[.int .i64 k, .string d]) ?_ h
  have hl : (loadCells (ad.add (i * 2)) 2).run Tryd.prog w = .ok #[.int .i64 k, .string d] w := by
    refine run_loadCells_list (P := Tryd.prog) w (ad.add (i * 2)) [.int .i64 k, .string d] fun j v hv => ?_
    match j, hv with
    | 0, hv =>
      simp at hv
      subst hv
      rw [Go.Deep.add_add]
      exact h1
    | 1, hv =>
      simp at hv
      subst hv
      rw [Go.Deep.add_add]
      exact h2
  obtain ⟨inf, hi, _, hsz, _⟩ := info_parts ext_info
  have hagg : (isAgg 45).run Tryd.prog w = .ok true w := by
    unfold isAgg
    rw [Sem.run_bind, run_underlying Tryd.underlying45 w]
    simp
  simp [execOp, ho, hx, Instr.loadAt, Instr.sureAddr, loadVar, Sem.run_bind, hagg, sizeOf, typeInfo, hi, hsz, hl, Result.andThen]

/-- A place in a row of structs. -/
theorem st_at {o : Oper} {a : Act} {w : World} {K : Act → World → Prop} {Q : Exit → Act → World → Prop} (x y : Operand) (ho : o.op = .indexAddr 36 x y)
    (ad : Addr) (n c i : Nat) (hx : a.eval x = .slice (some ad) n c) (hy : a.eval y = .int .i64 (i : Int)) (hi : i < n)
    (h : K (a.put o.dst (.pointer (some (ad.add (i * 2))))) w) : Step Tryd.prog o a w K Q := by
  refine wp_value (.pointer (some (ad.add (i * 2)))) ?_ h
  obtain ⟨inf, hif, _, hsz, _⟩ := info_parts ext_info
  have h1 : (0 : Int) ≤ (i : Int) ∧ (i : Int) < (n : Int) := by omega
  simp [execOp, ho, hx, hy, Instr.indexAt, asIntOf, Sem.run_bind, run_underlying Tryd.underlying36 w, sizeOf, typeInfo, hif, hsz, h1, hi, Result.andThen]

theorem neq_ext (k k' : Int) (d d' : ByteArray) (x y : Operand) (w : World) : (do eqGuard .neq 45 x y (.agg #[.int .i64 k, .string d]) (.agg #[.int .i64 k', .string d']); binOp .neq 45 (.agg #[.int .i64 k, .string d]) (.agg #[.int .i64 k', .string d']) : Sem Value).run Tryd.prog w = .ok (.bool (!(k == k' && d.toList == d'.toList))) w := by
  have u3 := Tryd.underlying3
  have u9 := Tryd.underlying9
  have hS : Tryd.prog.underlying 45 = some (.struct (Tryd.prog.fieldsOf 45)) := by kernel_rfl
  rw [Sem.run_bind, run_eqGuard_agg w .neq 45 x y _ _ (by kernel_rfl), Result.andThen_ok, run_neq_struct, show (10000 : Nat) = 9999 + 1 from rfl, run_equalIn_agg w 9999 45 _ _ hS (by kernel_rfl)]
  simp only [Program.fieldsOf, Tryd.underlying45]
  go_simp
  by_cases h1 : k = k' <;> by_cases h2 : d.toList = d'.toList <;> simp [h1, h2]

theorem toList_eq (a b : ByteArray) : (a.toList == b.toList) = decide (a = b) := by
  by_cases h : a = b
  · subst h; simp
  · have : a.toList ≠ b.toList := fun e => h (by
      cases a; cases b
      rw [ByteArray.toList_eq, ByteArray.toList_eq] at e
      simp at e
      rw [e])
    simp [h, this]

set_option maxHeartbeats 2000000 in
theorem exts_any (v v' : Value) (l l' : List (Int × ByteArray)) (w : World) (h : Row w v l) (h' : Row w v' l') (hl : l.length ≤ 1048576) :
    Calls Tryd.prog 20 #[v, v'] w fun e w' => e = .returned (.bool (decide (l = l'))) ∧ Below w.heap.size w w' := by
  have H := Lib.hid h
  have H' := Lib.hid h'
  obtain ⟨A, c, rfl, hc⟩ := h
  obtain ⟨A', c', rfl, hc'⟩ := h'
  by_cases hn : l.length = l'.length
  · obtain ⟨n, hN⟩ : ∃ n, n = l'.length := ⟨_, rfl⟩
    have n1 := Lib.hid (hn.trans hN.symm)
    have n2 := Lib.hid hN.symm
    rw [hn] at H hl ⊢
    rw [← hN] at H H' hl ⊢
    clear hc hc' hn hN
    go_enter Tryd.func20, Tryd.ntmps20
    go_wp2_with fail
    go_loopw [5] (fun s wr => ∃ k : Nat, s = .int .i64 (k : Int) ∧ k ≤ n ∧ Hid (l.take k = l'.take k) ∧ Below w.heap.size w wr) (fun s _ => n - (intOf s).toNat)
    case atStart => exact ⟨0, rfl, by omega, Lib.hid rfl, Below.refl _ _⟩
    case round =>
      obtain ⟨k, rfl, hk, ht, hb⟩ := hrel
      by_cases hk2 : k = n
      · have hlt : decide (k < n) = false := by simp [hk2]
        have fin : l = l' := by
          have := ht.out
          have q1 := n1.out
          have q2 := n2.out
          rw [List.take_of_length_le (by omega), List.take_of_length_le (by omega)] at this
          exact this
        clear hk2
        go_wp2_with fail
        go_ret
        exact ⟨by simp [fin], hb⟩
      · have hlt : decide (k < n) = true := by
          rw [decide_eq_true_eq]; omega
        have q1 := n1.out
        have q2 := n2.out
        obtain ⟨a, d, e1⟩ : ∃ a d, l[k]? = some (a, d) := ⟨_, _, List.getElem?_eq_getElem (by omega)⟩
        obtain ⟨a', d', e1'⟩ : ∃ a d, l'[k]? = some (a, d) := ⟨_, _, List.getElem?_eq_getElem (by omega)⟩
        have HB := Lib.hid (hb.size)
        have R0 := Lib.hid (H.out.below hb)
        have R0' := Lib.hid (H'.out.below hb)
        have hb0 := Lib.hid hb
        have hi : k < n := by omega
        clear q1 q2
        clear hk2 hb hk H H'
        go_wp2_with fail
        refine wp_region_free [0, 1, 2, 3, 4, 5, 6, 7] 8 [] (fun w1 w2 => Below w1.heap.size w1 w2) (fun j w' u => match j with
          | 0 => u = .slice A n c
          | 1 => u = .int .i64 (k : Int)
          | 2 => ∃ p, A = some p ∧ u = .pointer (some (p.add (k * 2)))
          | 3 => u = .agg #[.int .i64 a, .string d]
          | 4 => u = .slice A' n c'
          | 5 => u = .int .i64 (k : Int)
          | 6 => ∃ p, A' = some p ∧ u = .pointer (some (p.add (k * 2)))
          | _ => u = .agg #[.int .i64 a', .string d']) (by kernel_rfl) (by kernel_rfl) (Below.refl _ _) (fun _ _ _ h k => h.trans (k.mono h.size)) (fun k w1 w2 v h => match k with
          | 0 => fun x => x
          | 1 => fun x => x
          | 2 => fun x => x
          | 3 => fun x => x
          | 4 => fun x => x
          | 5 => fun x => x
          | 6 => fun x => x
          | _ + 7 => fun x => x) (fun _ _ _ _ _ h => h) ?_ _ (by rfl) ?_
        · refine obs_cons (by rfl) (fun vals w' hgr hdep K hK => ?_) (obs_cons (by rfl) (fun vals w' hgr hdep K hK => ?_) (obs_cons (by rfl) (fun vals w' hgr hdep K hK => ?_) (obs_cons (by rfl) (fun vals w' hgr hdep K hK => ?_) (obs_cons (by rfl) (fun vals w' hgr hdep K hK => ?_) (obs_cons (by rfl) (fun vals w' hgr hdep K hK => ?_) (obs_cons (by rfl) (fun vals w' hgr hdep K hK => ?_) (obs_cons (by rfl) (fun vals w' hgr hdep K hK => ?_) obs_nil)))))))
          · exact wp_move (.tmp 0) rfl _ (at_out _ (by kernel_rfl) rfl) (hK _ _ (Below.refl _ _) rfl)
          · exact wp_move (.tmp 5) rfl _ (at_out _ (by kernel_rfl) rfl) (hK _ _ (Below.refl _ _) rfl)
          · obtain ⟨A1, c1, q1, hc⟩ := R0.out
            injection q1 with q1 q2 q3
            subst q1
            obtain ⟨p, rfl, _⟩ := hc k a d e1
            have h0 : vals 0 = .slice (some p) n c := hdep 0 (by simp) (by kernel_rfl)
            have h1 : vals 1 = .int .i64 (k : Int) := hdep 1 (by simp) (by kernel_rfl)
            exact st_at (.tmp 17) (.tmp 18) rfl p n c k ((at_dst 0 (by kernel_rfl)).trans h0) ((at_dst 1 (by kernel_rfl)).trans h1) hi (hK _ _ (Below.refl _ _) ⟨p, rfl, rfl⟩)
          · obtain ⟨p, e, h2⟩ : ∃ p, A = some p ∧ vals 2 = .pointer (some (p.add (k * 2))) := hdep 2 (by simp) (by kernel_rfl)
            obtain ⟨A1, c1, q1, hc⟩ := R0.out.below (below_drewN (Below.refl _ _) 1 |>.trans hgr)
            injection q1 with q1 q2 q3
            subst q1 e
            obtain ⟨p', q, hlt1, g1, g2⟩ := hc k a d e1
            injection q with q
            subst q
            exact st_load_pair (.tmp 19) rfl p k a d ((at_dst 2 (by kernel_rfl)).trans h2) g1 g2 (hK _ _ (Below.refl _ _) rfl)
          · exact wp_move (.tmp 1) rfl _ (at_out _ (by kernel_rfl) rfl) (hK _ _ (Below.refl _ _) rfl)
          · exact wp_move (.tmp 5) rfl _ (at_out _ (by kernel_rfl) rfl) (hK _ _ (Below.refl _ _) rfl)
          · obtain ⟨A1, c1, q1, hc⟩ := R0'.out
            injection q1 with q1 q2 q3
            subst q1
            obtain ⟨p, rfl, _⟩ := hc k a' d' e1'
            have h0 : vals 4 = .slice (some p) n c' := hdep 4 (by simp) (by kernel_rfl)
            have h1 : vals 5 = .int .i64 (k : Int) := hdep 5 (by simp) (by kernel_rfl)
            exact st_at (.tmp 21) (.tmp 22) rfl p n c' k ((at_dst 4 (by kernel_rfl)).trans h0) ((at_dst 5 (by kernel_rfl)).trans h1) hi (hK _ _ (Below.refl _ _) ⟨p, rfl, rfl⟩)
          · obtain ⟨p, e, h2⟩ : ∃ p, A' = some p ∧ vals 6 = .pointer (some (p.add (k * 2))) := hdep 6 (by simp) (by kernel_rfl)
            obtain ⟨A1, c1, q1, hc⟩ := R0'.out.below (below_drewN (Below.refl _ _) 1 |>.trans hgr)
            injection q1 with q1 q2 q3
            subst q1 e
            obtain ⟨p', q, hlt1, g1, g2⟩ := hc k a' d' e1'
            injection q with q
            subst q
            exact st_load_pair (.tmp 23) rfl p k a' d' ((at_dst 6 (by kernel_rfl)).trans h2) g1 g2 (hK _ _ (Below.refl _ _) rfl)
        · intro vals w' hgr hG
          have h3 : vals 3 = .agg #[.int .i64 a, .string d] := hG 3 (by simp)
          have h7 : vals 7 = .agg #[.int .i64 a', .string d'] := hG 7 (by simp)
          refine wp_bin (.tmp 20) (.tmp 24) rfl _ _ _ ((at_dst 3 (by kernel_rfl)).trans h3) ((at_dst 7 (by kernel_rfl)).trans h7) (neq_ext a a' d d' _ _ w') (wpAnyH_done (by kernel_rfl) ?_ _)
          have BW := Lib.hid (hb0.out.trans ((below_drewN (Below.refl _ _) 1 |>.trans hgr : Below wr.heap.size wr w').mono HB.out))
          have ts : l.take (k + 1) = l.take k ++ [(a, d)] := by rw [List.take_add_one, e1]; rfl
          have ts' : l'.take (k + 1) = l'.take k ++ [(a', d')] := by rw [List.take_add_one, e1']; rfl
          simp only [fill, dstAt, List.getElem?_cons_zero, List.getElem?_cons_succ, Option.bind_some, Act.put, List.setIfInBounds_toArray, List.set_cons_zero, List.set_cons_succ]
          generalize vals 0 = x0, vals 1 = x1, vals 2 = x2, vals 3 = x3, vals 4 = x4, vals 5 = x5, vals 6 = x6, vals 7 = x7
          cases hq : (a == a' && d.toList == d'.toList)
          · have no : l ≠ l' := fun e => by
              subst e
              rw [e1] at e1'
              injection e1' with e1'
              injection e1' with p1 p2
              subst p1 p2
              simp at hq
            clear ts ts' e1 e1' hG h3 h7
            go_wp2_with fail
            go_ret
            exact ⟨by simp [no], BW.out⟩
          · have eq : (a, d) = (a', d') := by
              rw [Bool.and_eq_true, toList_eq] at hq
              obtain ⟨q1, q2⟩ := hq
              rw [eq_of_beq q1, of_decide_eq_true q2]
            have NT : Hid (l.take (k + 1) = l'.take (k + 1)) := Lib.hid (by rw [ts, ts', ht.out, eq])
            clear ts ts' e1 e1' hG h3 h7 ht
            go_wp2_with fail
            go_roundw
            case rel => exact ⟨k + 1, by go_num, by omega, NT, BW.out⟩
            case measure => simp [intOf]; omega
  · have no : l ≠ l' := fun e => hn (by rw [e])
    have hnb : (((l.length : Int)) != ((l'.length : Int))) = true := by simpa using fun e => hn (by exact_mod_cast e)
    clear hc hc' H H'
    go_enter Tryd.func20, Tryd.ntmps20
    go_wp2_with fail
    go_ret
    exact ⟨by simp [no], Below.refl _ _⟩
end Go.Proofs.YtjhfginopbjldaaDoor.Exts
