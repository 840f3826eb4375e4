/- Structs compared. -/
import Derived.Test.YtppnkkpjfjhfkaaDoorM03
import Derived.Test.YtppnkkpjfjhfkaaDoorM42
import Derived.Laws.StructEq
import Derived.LoopTactic
set_option linter.unusedVariables false
namespace Go.Proofs.YtppnkkpjfjhfkaaDoor.EqL
open Go.RowKit Go.Proofs.YtppnkkpjfjhfkaaDoor.Mem Go.Proofs.YtppnkkpjfjhfkaaDoor.ArgT
set_option maxRecDepth 100000
theorem toList_eq (a b : ByteArray) : (a.toList == b.toList) = decide (a = b) := by
  by_cases h : a = b
  · subst h; simp
  · have : a.toList ≠ b.toList := fun e => h (by
      cases a; cases b
      rw [ByteArray.toList_eq, ByteArray.toList_eq] at e
      simp at e
      rw [e])
    simp [h, this]
theorem eqf_nil (d : Nat) (xs ys : Array Value) (w : World) : (Op.eqFields d xs ys []).run Tryd.prog w = .ok true w := rfl
theorem eqf_cons (d : Nat) (xs ys : Array Value) (f : Field) (fs : List Field) (w : World) (a b : Value) (r s : Bool) (hn : (f.name != "_") = true) (ha : (part f.type xs f.offset).run Tryd.prog w = .ok a w) (hb : (part f.type ys f.offset).run Tryd.prog w = .ok b w)
    (hr : (Op.equalIn d f.type a b).run Tryd.prog w = .ok r w) (hs : (Op.eqFields d xs ys fs).run Tryd.prog w = .ok s w) : (Op.eqFields d xs ys (f :: fs)).run Tryd.prog w = .ok (r && s) w := by
  have h : ¬ f.name = "_" := by simpa using hn
  simp only [Op.eqFields, ne_eq, h, not_false_eq_true, if_true, Sem.run_bind, ha, hb, hr, Result.andThen_ok]
  cases r
  · simp
  · simp [hs]
theorem eq_s (d : Nat) (a b : ByteArray) (w : World) : (Op.equalIn (d + 1) 9 (.string a) (.string b)).run Tryd.prog w = .ok (decide (a = b)) w := by
  rw [run_equalIn_string w d _ a b Tryd.underlying9, toList_eq]
theorem eq_i (d : Nat) (a b : Int) (w : World) : (Op.equalIn (d + 1) 3 (.int .i64 a) (.int .i64 b)).run Tryd.prog w = .ok (decide (a = b)) w := by
  rw [run_equalIn_int w d _ .i64 .i64 a b Tryd.underlying3]
  rfl
theorem eq_t (d : Nat) (a b : Bool) (w : World) : (Op.equalIn (d + 1) 4 (.bool a) (.bool b)).run Tryd.prog w = .ok (decide (a = b)) w := by
  rw [run_equalIn_bool' w d _ a b Tryd.underlying4]
  cases a <;> cases b <;> rfl
set_option maxHeartbeats 2000000 in
theorem eq_Sa (d : Nat) (a0 : Int) (a1 : ByteArray) (a2 : ByteArray) (a3 : ByteArray) (a4 : Bool) (a5 : Int) (b0 : Int) (b1 : ByteArray) (b2 : ByteArray) (b3 : ByteArray) (b4 : Bool) (b5 : Int) (w : World) : (Op.equalIn (d + 2) 32 (.agg #[.int .i64 a0, .string a1, .string a2, .string a3, .bool a4, .int .i64 a5]) (.agg #[.int .i64 b0, .string b1, .string b2, .string b3, .bool b4, .int .i64 b5])).run Tryd.prog w = .ok (decide (a0 = b0) && (decide (a1 = b1) && (decide (a2 = b2) && (decide (a3 = b3) && (decide (a4 = b4) && (decide (a5 = b5) && true)))))) w := by
  rw [run_equalIn_agg w (d + 1) _ _ _ (by kernel_rfl) (by kernel_rfl)]
  exact eqf_cons _ _ _ _ _ _ (.int .i64 a0) (.int .i64 b0) _ _ (by kernel_rfl) (by kernel_rfl) (by kernel_rfl) (eq_i (d + 0) a0 b0 w) (eqf_cons _ _ _ _ _ _ (.string a1) (.string b1) _ _ (by kernel_rfl) (by kernel_rfl) (by kernel_rfl) (eq_s (d + 0) a1 b1 w) (eqf_cons _ _ _ _ _ _ (.string a2) (.string b2) _ _ (by kernel_rfl) (by kernel_rfl) (by kernel_rfl) (eq_s (d + 0) a2 b2 w) (eqf_cons _ _ _ _ _ _ (.string a3) (.string b3) _ _ (by kernel_rfl) (by kernel_rfl) (by kernel_rfl) (eq_s (d + 0) a3 b3 w) (eqf_cons _ _ _ _ _ _ (.bool a4) (.bool b4) _ _ (by kernel_rfl) (by kernel_rfl) (by kernel_rfl) (eq_t (d + 0) a4 b4 w) (eqf_cons _ _ _ _ _ _ (.int .i64 a5) (.int .i64 b5) _ _ (by kernel_rfl) (by kernel_rfl) (by kernel_rfl) (eq_i (d + 0) a5 b5 w) (eqf_nil _ _ _ _))))))
set_option maxHeartbeats 2000000 in
theorem eq_Life (d : Nat) (a0 : Int) (a1 : ByteArray) (a2 : ByteArray) (a3 : ByteArray) (a4 : Bool) (a5 : Int) (a6 : Int) (a7 : Bool) (a8 : Int) (a9 : Int) (a10 : Int) (a11 : Int) (b0 : Int) (b1 : ByteArray) (b2 : ByteArray) (b3 : ByteArray) (b4 : Bool) (b5 : Int) (b6 : Int) (b7 : Bool) (b8 : Int) (b9 : Int) (b10 : Int) (b11 : Int) (w : World) : (Op.equalIn (d + 3) 34 (.agg #[.int .i64 a0, .string a1, .string a2, .string a3, .bool a4, .int .i64 a5, .int .i64 a6, .bool a7, .int .i64 a8, .int .i64 a9, .int .i64 a10, .int .i64 a11]) (.agg #[.int .i64 b0, .string b1, .string b2, .string b3, .bool b4, .int .i64 b5, .int .i64 b6, .bool b7, .int .i64 b8, .int .i64 b9, .int .i64 b10, .int .i64 b11])).run Tryd.prog w = .ok ((decide (a0 = b0) && (decide (a1 = b1) && (decide (a2 = b2) && (decide (a3 = b3) && (decide (a4 = b4) && (decide (a5 = b5) && true)))))) && (decide (a6 = b6) && (decide (a7 = b7) && (decide (a8 = b8) && (decide (a9 = b9) && (decide (a10 = b10) && (decide (a11 = b11) && true))))))) w := by
  rw [run_equalIn_agg w (d + 2) _ _ _ (by kernel_rfl) (by kernel_rfl)]
  exact eqf_cons _ _ _ _ _ _ (.agg #[.int .i64 a0, .string a1, .string a2, .string a3, .bool a4, .int .i64 a5]) (.agg #[.int .i64 b0, .string b1, .string b2, .string b3, .bool b4, .int .i64 b5]) _ _ (by kernel_rfl) (by kernel_rfl) (by kernel_rfl) (eq_Sa (d + 0) a0 a1 a2 a3 a4 a5 b0 b1 b2 b3 b4 b5 w) (eqf_cons _ _ _ _ _ _ (.int .i64 a6) (.int .i64 b6) _ _ (by kernel_rfl) (by kernel_rfl) (by kernel_rfl) (eq_i (d + 1) a6 b6 w) (eqf_cons _ _ _ _ _ _ (.bool a7) (.bool b7) _ _ (by kernel_rfl) (by kernel_rfl) (by kernel_rfl) (eq_t (d + 1) a7 b7 w) (eqf_cons _ _ _ _ _ _ (.int .i64 a8) (.int .i64 b8) _ _ (by kernel_rfl) (by kernel_rfl) (by kernel_rfl) (eq_i (d + 1) a8 b8 w) (eqf_cons _ _ _ _ _ _ (.int .i64 a9) (.int .i64 b9) _ _ (by kernel_rfl) (by kernel_rfl) (by kernel_rfl) (eq_i (d + 1) a9 b9 w) (eqf_cons _ _ _ _ _ _ (.int .i64 a10) (.int .i64 b10) _ _ (by kernel_rfl) (by kernel_rfl) (by kernel_rfl) (eq_i (d + 1) a10 b10 w) (eqf_cons _ _ _ _ _ _ (.int .i64 a11) (.int .i64 b11) _ _ (by kernel_rfl) (by kernel_rfl) (by kernel_rfl) (eq_i (d + 1) a11 b11 w) (eqf_nil _ _ _ _)))))))
def eqbLife (r s : LifeR) : Bool := (decide (r.x0 = s.x0) && (decide (r.x1 = s.x1) && (decide (r.x2 = s.x2) && (decide (r.x3 = s.x3) && (decide (r.x4 = s.x4) && (decide (r.x5 = s.x5) && true)))))) && (decide (r.x6 = s.x6) && (decide (r.x7 = s.x7) && (decide (r.x8 = s.x8) && (decide (r.x9 = s.x9) && (decide (r.x10 = s.x10) && (decide (r.x11 = s.x11) && true))))))
set_option maxHeartbeats 2000000 in
theorem eq_LifeR (r s : LifeR) (w : World) : (Op.equalIn 10000 34 (.agg r.cells.toArray) (.agg s.cells.toArray)).run Tryd.prog w = .ok (eqbLife r s) w := eq_Life 9997 r.x0 r.x1 r.x2 r.x3 r.x4 r.x5 r.x6 r.x7 r.x8 r.x9 r.x10 r.x11 s.x0 s.x1 s.x2 s.x3 s.x4 s.x5 s.x6 s.x7 s.x8 s.x9 s.x10 s.x11 w
theorem eqb_Life (r s : LifeR) : eqbLife r s = true ↔ r = s := by
  obtain ⟨a0, a1, a2, a3, a4, a5, a6, a7, a8, a9, a10, a11⟩ := r
  obtain ⟨b0, b1, b2, b3, b4, b5, b6, b7, b8, b9, b10, b11⟩ := s
  simp only [eqbLife, Bool.and_eq_true, decide_eq_true_eq, and_true, LifeR.mk.injEq, and_assoc]
end Go.Proofs.YtppnkkpjfjhfkaaDoor.EqL

/- The document's Same: two rows of lives. -/
set_option linter.unusedVariables false
namespace Go.Proofs.YtppnkkpjfjhfkaaDoor.Same17
open Go.RowKit Go.Proofs.YtppnkkpjfjhfkaaDoor.Mem Go.Proofs.YtppnkkpjfjhfkaaDoor.Blk Go.Proofs.YtppnkkpjfjhfkaaDoor.ArgT Go.Proofs.YtppnkkpjfjhfkaaDoor.Part Go.Proofs.YtppnkkpjfjhfkaaDoor.Free Go.Proofs.YtppnkkpjfjhfkaaDoor.Steps

theorem below_1 {w w' : World} (h : Below w.drew.heap.size w.drew w') : Below w.heap.size w w' := (below_drewN (Below.refl w.heap.size w) 1).trans h
theorem b_neqR (r s : LifeR) (x y : Operand) (w : World) : (do eqGuard .neq 34 x y (.agg r.cells.toArray) (.agg s.cells.toArray); binOp .neq 34 (.agg r.cells.toArray) (.agg s.cells.toArray) : Sem Value).run Tryd.prog w = .ok (.bool (!EqL.eqbLife r s)) w := by
  have hg : (eqGuard .neq 34 x y (.agg r.cells.toArray) (.agg s.cells.toArray)).run Tryd.prog w = .ok () w := run_eqGuard_agg w _ _ _ _ _ _ (by kernel_rfl)
  rw [Sem.run_bind, hg, Result.andThen_ok, run_neq_struct, EqL.eq_LifeR r s w]
  rfl

set_option maxHeartbeats 2000000 in
set_option maxRecDepth 100000 in
theorem same_lives (A : Option Addr) (n c : Nat) (rs : List LifeR) (A2 : Option Addr) (n2 c2 : Nat) (ss : List LifeR) (w : World) (h : LifeRows w A n rs) (h2 : LifeRows w A2 n2 ss) (hn : n ≤ 1048576) (hn2 : n2 ≤ 1048576) :
    Calls Tryd.prog 11 #[.slice A n c, .slice A2 n2 c2] w fun e w' => ∃ r, e = .returned (.bool r) ∧ (r = true ↔ rs = ss) ∧ Below w.heap.size w w' := by
  by_cases ne : ¬ n = n2
  · have g0 : ((n : Int) != (n2 : Int)) = true := by rw [bne_iff_ne]; omega
    have F : Hid (rs ≠ ss) := Lib.hid fun z => ne (by rw [← h.1, ← h2.1, z])
    clear h h2 ne
    go_enter Tryd.func11, Tryd.ntmps11
    go_wp2_with fail
    go_ret
    exact ⟨false, rfl, ⟨fun z => (by cases z), fun z => absurd z F.out⟩, Below.refl _ _⟩
  · replace ne : n = n2 := Decidable.of_not_not ne
    subst ne
    have g0 : ((n : Int) != (n : Int)) = false := by simp
    have H := Lib.hid h
    have H2 := Lib.hid h2
    clear h h2
    go_enter Tryd.func11, Tryd.ntmps11
    go_wp2_with fail
    go_loopw [5] (fun iv wr => ∃ i : Nat, iv = .int .i64 (i : Int) ∧ i ≤ n ∧ Hid (∀ k : Nat, k < i → rs[k]? = ss[k]?) ∧ Hid (Below w.heap.size w wr)) (fun iv _ => n - (intOf iv).toNat)
    case atStart => exact ⟨0, rfl, by omega, Lib.hid fun k hk => absurd hk (by omega), Lib.hid (Below.refl _ _)⟩
    case round =>
      obtain ⟨i, rfl, hi, HS, HB⟩ := hrel
      by_cases hlt : i < n
      · obtain ⟨b, o, rfl, hbl, hall⟩ := H.out.2 (by omega)
        obtain ⟨b2, o2, rfl, hbl2, hall2⟩ := H2.out.2 (by omega)
        have hr : rs[i]? = some (rs[i]'(by rw [H.out.1]; exact hlt)) := List.getElem?_eq_getElem _
        have hs : ss[i]? = some (ss[i]'(by rw [H2.out.1]; exact hlt)) := List.getElem?_eq_getElem _
        generalize rs[i]'(by rw [H.out.1]; exact hlt) = r at hr
        generalize ss[i]'(by rw [H2.out.1]; exact hlt) = s at hs
        have HR := Lib.hid (And.intro hr hs)
        have CL : Hid (At wr b (o + i * 12) r.cells ∧ At wr b2 (o2 + i * 12) s.cells) := Lib.hid ⟨(show At w b (o + i * 12) r.cells from (hall i r hr).2).below HB.out hbl, (show At w b2 (o2 + i * 12) s.cells from (hall2 i s hs).2).below HB.out hbl2⟩
        have BL : Hid (b < wr.heap.size ∧ b2 < wr.heap.size) := Lib.hid ⟨Nat.lt_of_lt_of_le hbl HB.out.size, Nat.lt_of_lt_of_le hbl2 HB.out.size⟩
        have LT := Lib.hid hlt
        clear hall hall2 hr hs
        go_wp2_with fail
        have X : Hid (∀ V, Below wr.drew.heap.size wr.drew V → (loadVar 34 ⟨b, o + i * 12, none⟩).run Tryd.prog V = .ok (.agg r.cells.toArray) V ∧ (loadVar 34 ⟨b2, o2 + i * 12, none⟩).run Tryd.prog V = .ok (.agg s.cells.toArray) V) := Lib.hid fun V hV =>
          ⟨run_part V b (o + i * 12) 34 r.cells _ Tryd.underlying34 rfl (by kernel_rfl) (CL.out.1.below (below_1 hV) BL.out.1), run_part V b2 (o2 + i * 12) 34 s.cells _ Tryd.underlying34 rfl (by kernel_rfl) (CL.out.2.below (below_1 hV) BL.out.2)⟩
        refine wp_region_free [0, 1, 2, 3, 4, 5, 6, 7] 8 [] (fun w1 w2 => Below w1.heap.size w1 w2) (fun k' w' v => match k' with
          | 0 => v = .slice (some ⟨b, o, none⟩) n c
          | 1 => v = .int .i64 (i : Int)
          | 2 => v = .pointer (some ⟨b, o + i * 12, none⟩)
          | 3 => v = .agg r.cells.toArray
          | 4 => v = .slice (some ⟨b2, o2, none⟩) n c2
          | 5 => v = .int .i64 (i : Int)
          | 6 => v = .pointer (some ⟨b2, o2 + i * 12, none⟩)
          | _ => v = .agg s.cells.toArray) (by kernel_rfl) (by kernel_rfl) (Below.refl _ _) (fun _ _ _ h k => h.trans (k.mono h.size)) (fun k' w1 w2 v h => match k' with
          | 0 => fun x => x
          | 1 => fun x => x
          | 2 => fun x => x
          | 3 => fun x => x
          | 4 => fun x => x
          | 5 => fun x => x
          | 6 => fun x => x
          | _ + 7 => fun x => x) (fun _ _ _ _ _ h => h) ?_ _ (by rfl) ?_
        · refine obs_cons (by rfl) (fun vals w' hgr hdep K hK => ?_) (obs_cons (by rfl) (fun vals w' hgr hdep K hK => ?_) (obs_cons (by rfl) (fun vals w' hgr hdep K hK => ?_) (obs_cons (by rfl) (fun vals w' hgr hdep K hK => ?_) (obs_cons (by rfl) (fun vals w' hgr hdep K hK => ?_) (obs_cons (by rfl) (fun vals w' hgr hdep K hK => ?_) (obs_cons (by rfl) (fun vals w' hgr hdep K hK => ?_) (obs_cons (by rfl) (fun vals w' hgr hdep K hK => ?_) obs_nil)))))))
          · exact wp_move (.tmp 0) rfl _ (at_out _ (by kernel_rfl) rfl) (hK _ _ (Below.refl _ _) rfl)
          · exact wp_move (.tmp 5) rfl _ (at_out _ (by kernel_rfl) rfl) (hK _ _ (Below.refl _ _) rfl)
          · exact st_elem_at (.tmp 17) (.tmp 18) rfl Tryd.underlying39 (by kernel_rfl) b o n c i ((at_dst 0 (by kernel_rfl)).trans (hdep 0 (by simp) (by kernel_rfl))) ((at_dst 1 (by kernel_rfl)).trans (hdep 1 (by simp) (by kernel_rfl))) LT.out (hK _ _ (Below.refl _ _) rfl)
          · exact st_load_part 34 (.tmp 19) rfl b (o + i * 12) r.cells ((at_dst 2 (by kernel_rfl)).trans (hdep 2 (by simp) (by kernel_rfl))) (X.out w' hgr).1 (hK _ _ (Below.refl _ _) rfl)
          · exact wp_move (.tmp 1) rfl _ (at_out _ (by kernel_rfl) rfl) (hK _ _ (Below.refl _ _) rfl)
          · exact wp_move (.tmp 5) rfl _ (at_out _ (by kernel_rfl) rfl) (hK _ _ (Below.refl _ _) rfl)
          · exact st_elem_at (.tmp 21) (.tmp 22) rfl Tryd.underlying39 (by kernel_rfl) b2 o2 n c2 i ((at_dst 4 (by kernel_rfl)).trans (hdep 4 (by simp) (by kernel_rfl))) ((at_dst 5 (by kernel_rfl)).trans (hdep 5 (by simp) (by kernel_rfl))) LT.out (hK _ _ (Below.refl _ _) rfl)
          · exact st_load_part 34 (.tmp 23) rfl b2 (o2 + i * 12) s.cells ((at_dst 6 (by kernel_rfl)).trans (hdep 6 (by simp) (by kernel_rfl))) (X.out w' hgr).2 (hK _ _ (Below.refl _ _) rfl)
        · intro vals w' hgr hG
          refine wp_bin (.tmp 20) (.tmp 24) rfl _ _ _ ((at_dst 3 (by kernel_rfl)).trans (hG 3 (by simp))) ((at_dst 7 (by kernel_rfl)).trans (hG 7 (by simp))) (b_neqR r s _ _ _) (wpAnyH_done (by kernel_rfl) ?_ _)
          have BN := Lib.hid (HB.out.trans ((below_1 hgr).mono HB.out.size))
          have EQ := Lib.hid (EqL.eqb_Life r s)
          clear hG hgr X CL BL HB
          simp only [fill, dstAt, List.getElem?_cons_zero, List.getElem?_cons_succ, Option.bind_some, Act.put, List.setIfInBounds_toArray, List.set_cons_zero, List.set_cons_succ]
          generalize vals 0 = z0, vals 1 = z1, vals 2 = z2, vals 3 = z3, vals 4 = z4, vals 5 = z5, vals 6 = z6, vals 7 = z7 at *
          generalize w' = w5 at *
          generalize EqL.eqbLife r s = e at *
          cases e
          · have F : Hid (rs ≠ ss) := Lib.hid fun z => by
              have q := HR.out
              rw [z] at q
              have := EQ.out.2 (Option.some.inj (q.1.symm.trans q.2))
              cases this
            clear HS EQ HR
            go_wp2_with fail
            go_ret
            exact ⟨false, rfl, ⟨fun z => (by cases z), fun z => absurd z F.out⟩, BN.out⟩
          · have HN : Hid (∀ k : Nat, k < i + 1 → rs[k]? = ss[k]?) := Lib.hid fun k hk => by
              rcases Nat.lt_or_ge k i with q | q
              · exact HS.out k q
              · obtain rfl : k = i := by omega
                rw [HR.out.1, HR.out.2, EQ.out.1 rfl]
            clear HS EQ HR
            go_wp2_with fail
            go_roundw
            case rel => exact ⟨i + 1, by go_num, by omega, HN, BN⟩
            case measure => simp [intOf]; omega
      · have e : i = n := by omega
        have F : Hid (rs = ss) := Lib.hid (by
          apply List.ext_getElem?
          intro k
          rcases Nat.lt_or_ge k n with q | q
          · exact HS.out k (by omega)
          · rw [List.getElem?_eq_none (by rw [H.out.1]; exact q), List.getElem?_eq_none (by rw [H2.out.1]; exact q)])
        clear HS e
        go_wp2_with fail
        go_ret
        exact ⟨true, rfl, ⟨fun _ => F.out, fun _ => rfl⟩, HB.out⟩
end Go.Proofs.YtppnkkpjfjhfkaaDoor.Same17

