/- The document's Same: two rows of rules. -/
import Derived.Test.YtnabjhdamofpgaaEqR
import Derived.Test.YtnabjhdamofpgaaPart
import Derived.LoopTactic
set_option linter.unusedVariables false
namespace Go.Proofs.Ytnabjhdamofpgaa.Same18
open Go.RowKit Go.Proofs.Ytnabjhdamofpgaa.Mem Go.Proofs.Ytnabjhdamofpgaa.Blk Go.Proofs.Ytnabjhdamofpgaa.ArgT Go.Proofs.Ytnabjhdamofpgaa.Part Go.Proofs.Ytnabjhdamofpgaa.Free Go.Proofs.Ytnabjhdamofpgaa.Steps

theorem below_1 {w w' : World} (h : Below w.drew.heap.size w.drew w') : Below w.heap.size w w' := (below_drewN (Below.refl w.heap.size w) 1).trans h
theorem b_neqR (r s : RouteR) (x y : Operand) (w : World) : (do eqGuard .neq 33 x y (.agg r.cells.toArray) (.agg s.cells.toArray); binOp .neq 33 (.agg r.cells.toArray) (.agg s.cells.toArray) : Sem Value).run Try.prog w = .ok (.bool (!EqR.eqbRoute r s)) w := by
  have hg : (eqGuard .neq 33 x y (.agg r.cells.toArray) (.agg s.cells.toArray)).run Try.prog w = .ok () w := run_eqGuard_agg w _ _ _ _ _ _ (by kernel_rfl)
  rw [Sem.run_bind, hg, Result.andThen_ok, run_neq_struct, EqR.eq_RouteR r s w]
  rfl

set_option maxHeartbeats 2000000 in
set_option maxRecDepth 100000 in
theorem same_routes (A : Option Addr) (n c : Nat) (rs : List RouteR) (A2 : Option Addr) (n2 c2 : Nat) (ss : List RouteR) (w : World) (h : RouteRows w A n rs) (h2 : RouteRows w A2 n2 ss) (hn : n ≤ 1048576) (hn2 : n2 ≤ 1048576) :
    Calls Try.prog 16 #[.slice A n c, .slice A2 n2 c2] w fun e w' => ∃ r, e = .returned (.bool r) ∧ (r = true ↔ rs = ss) ∧ Below w.heap.size w w' := by
  by_cases ne : ¬ n = n2
  · have g0 : ((n : Int) != (n2 : Int)) = true := by rw [bne_iff_ne]; omega
    have F : Hid (rs ≠ ss) := Lib.hid fun z => ne (by rw [← h.1, ← h2.1, z])
    clear h h2 ne
    go_enter Try.func16, Try.ntmps16
    go_wp2_with fail
    go_ret
    exact ⟨false, rfl, ⟨fun z => (by cases z), fun z => absurd z F.out⟩, Below.refl _ _⟩
  · replace ne : n = n2 := Decidable.of_not_not ne
    subst ne
    have g0 : ((n : Int) != (n : Int)) = false := by simp
    have H := Lib.hid h
    have H2 := Lib.hid h2
    clear h h2
    go_enter Try.func16, Try.ntmps16
    go_wp2_with fail
    go_loopw [5] (fun iv wr => ∃ i : Nat, iv = .int .i64 (i : Int) ∧ i ≤ n ∧ Hid (∀ k : Nat, k < i → rs[k]? = ss[k]?) ∧ Hid (Below w.heap.size w wr)) (fun iv _ => n - (intOf iv).toNat)
    case atStart => exact ⟨0, rfl, by omega, Lib.hid fun k hk => absurd hk (by omega), Lib.hid (Below.refl _ _)⟩
    case round =>
      obtain ⟨i, rfl, hi, HS, HB⟩ := hrel
      by_cases hlt : i < n
      · obtain ⟨b, o, rfl, hbl, hall⟩ := H.out.2 (by omega)
        obtain ⟨b2, o2, rfl, hbl2, hall2⟩ := H2.out.2 (by omega)
        have hr : rs[i]? = some (rs[i]'(by rw [H.out.1]; exact hlt)) := List.getElem?_eq_getElem _
        have hs : ss[i]? = some (ss[i]'(by rw [H2.out.1]; exact hlt)) := List.getElem?_eq_getElem _
        generalize rs[i]'(by rw [H.out.1]; exact hlt) = r at hr
        generalize ss[i]'(by rw [H2.out.1]; exact hlt) = s at hs
        have HR := Lib.hid (And.intro hr hs)
        have CL : Hid (At wr b (o + i * 4) r.cells ∧ At wr b2 (o2 + i * 4) s.cells) := Lib.hid ⟨(show At w b (o + i * 4) r.cells from (hall i r hr).2).below HB.out hbl, (show At w b2 (o2 + i * 4) s.cells from (hall2 i s hs).2).below HB.out hbl2⟩
        have BL : Hid (b < wr.heap.size ∧ b2 < wr.heap.size) := Lib.hid ⟨Nat.lt_of_lt_of_le hbl HB.out.size, Nat.lt_of_lt_of_le hbl2 HB.out.size⟩
        have LT := Lib.hid hlt
        clear hall hall2 hr hs
        go_wp2_with fail
        have X : Hid (∀ V, Below wr.drew.heap.size wr.drew V → (loadVar 33 ⟨b, o + i * 4, none⟩).run Try.prog V = .ok (.agg r.cells.toArray) V ∧ (loadVar 33 ⟨b2, o2 + i * 4, none⟩).run Try.prog V = .ok (.agg s.cells.toArray) V) := Lib.hid fun V hV =>
          ⟨run_part V b (o + i * 4) 33 r.cells _ Try.underlying33 rfl (by kernel_rfl) (CL.out.1.below (below_1 hV) BL.out.1), run_part V b2 (o2 + i * 4) 33 s.cells _ Try.underlying33 rfl (by kernel_rfl) (CL.out.2.below (below_1 hV) BL.out.2)⟩
        refine wp_region_free [0, 1, 2, 3, 4, 5, 6, 7] 8 [] (fun w1 w2 => Below w1.heap.size w1 w2) (fun k' w' v => match k' with
          | 0 => v = .slice (some ⟨b, o, none⟩) n c
          | 1 => v = .int .i64 (i : Int)
          | 2 => v = .pointer (some ⟨b, o + i * 4, none⟩)
          | 3 => v = .agg r.cells.toArray
          | 4 => v = .slice (some ⟨b2, o2, none⟩) n c2
          | 5 => v = .int .i64 (i : Int)
          | 6 => v = .pointer (some ⟨b2, o2 + i * 4, none⟩)
          | _ => v = .agg s.cells.toArray) (by kernel_rfl) (by kernel_rfl) (Below.refl _ _) (fun _ _ _ h k => h.trans (k.mono h.size)) (fun k' w1 w2 v h => match k' with
          | 0 => fun x => x
          | 1 => fun x => x
          | 2 => fun x => x
          | 3 => fun x => x
          | 4 => fun x => x
          | 5 => fun x => x
          | 6 => fun x => x
          | _ + 7 => fun x => x) (fun _ _ _ _ _ h => h) ?_ _ (by rfl) ?_
        · refine obs_cons (by rfl) (fun vals w' hgr hdep K hK => ?_) (obs_cons (by rfl) (fun vals w' hgr hdep K hK => ?_) (obs_cons (by rfl) (fun vals w' hgr hdep K hK => ?_) (obs_cons (by rfl) (fun vals w' hgr hdep K hK => ?_) (obs_cons (by rfl) (fun vals w' hgr hdep K hK => ?_) (obs_cons (by rfl) (fun vals w' hgr hdep K hK => ?_) (obs_cons (by rfl) (fun vals w' hgr hdep K hK => ?_) (obs_cons (by rfl) (fun vals w' hgr hdep K hK => ?_) obs_nil)))))))
          · exact wp_move (.tmp 0) rfl _ (at_out _ (by kernel_rfl) rfl) (hK _ _ (Below.refl _ _) rfl)
          · exact wp_move (.tmp 5) rfl _ (at_out _ (by kernel_rfl) rfl) (hK _ _ (Below.refl _ _) rfl)
          · exact st_elem_at (.tmp 17) (.tmp 18) rfl Try.underlying27 (by kernel_rfl) b o n c i ((at_dst 0 (by kernel_rfl)).trans (hdep 0 (by simp) (by kernel_rfl))) ((at_dst 1 (by kernel_rfl)).trans (hdep 1 (by simp) (by kernel_rfl))) LT.out (hK _ _ (Below.refl _ _) rfl)
          · exact st_load_part 33 (.tmp 19) rfl b (o + i * 4) r.cells ((at_dst 2 (by kernel_rfl)).trans (hdep 2 (by simp) (by kernel_rfl))) (X.out w' hgr).1 (hK _ _ (Below.refl _ _) rfl)
          · exact wp_move (.tmp 1) rfl _ (at_out _ (by kernel_rfl) rfl) (hK _ _ (Below.refl _ _) rfl)
          · exact wp_move (.tmp 5) rfl _ (at_out _ (by kernel_rfl) rfl) (hK _ _ (Below.refl _ _) rfl)
          · exact st_elem_at (.tmp 21) (.tmp 22) rfl Try.underlying27 (by kernel_rfl) b2 o2 n c2 i ((at_dst 4 (by kernel_rfl)).trans (hdep 4 (by simp) (by kernel_rfl))) ((at_dst 5 (by kernel_rfl)).trans (hdep 5 (by simp) (by kernel_rfl))) LT.out (hK _ _ (Below.refl _ _) rfl)
          · exact st_load_part 33 (.tmp 23) rfl b2 (o2 + i * 4) s.cells ((at_dst 6 (by kernel_rfl)).trans (hdep 6 (by simp) (by kernel_rfl))) (X.out w' hgr).2 (hK _ _ (Below.refl _ _) rfl)
        · intro vals w' hgr hG
          refine wp_bin (.tmp 20) (.tmp 24) rfl _ _ _ ((at_dst 3 (by kernel_rfl)).trans (hG 3 (by simp))) ((at_dst 7 (by kernel_rfl)).trans (hG 7 (by simp))) (b_neqR r s _ _ _) (wpAnyH_done (by kernel_rfl) ?_ _)
          have BN := Lib.hid (HB.out.trans ((below_1 hgr).mono HB.out.size))
          have EQ := Lib.hid (EqR.eqb_Route r s)
          clear hG hgr X CL BL HB
          simp only [fill, dstAt, List.getElem?_cons_zero, List.getElem?_cons_succ, Option.bind_some, Act.put, List.setIfInBounds_toArray, List.set_cons_zero, List.set_cons_succ]
          generalize vals 0 = z0, vals 1 = z1, vals 2 = z2, vals 3 = z3, vals 4 = z4, vals 5 = z5, vals 6 = z6, vals 7 = z7 at *
          generalize w' = w5 at *
          generalize EqR.eqbRoute r s = e at *
          cases e
          · have F : Hid (rs ≠ ss) := Lib.hid fun z => by
              have q := HR.out
              rw [z] at q
              have := EQ.out.2 (Option.some.inj (q.1.symm.trans q.2))
              cases this
            clear HS EQ HR
            go_wp2_with fail
            go_ret
            exact ⟨false, rfl, ⟨fun z => (by cases z), fun z => absurd z F.out⟩, BN.out⟩
          · have HN : Hid (∀ k : Nat, k < i + 1 → rs[k]? = ss[k]?) := Lib.hid fun k hk => by
              rcases Nat.lt_or_ge k i with q | q
              · exact HS.out k q
              · obtain rfl : k = i := by omega
                rw [HR.out.1, HR.out.2, EQ.out.1 rfl]
            clear HS EQ HR
            go_wp2_with fail
            go_roundw
            case rel => exact ⟨i + 1, by go_num, by omega, HN, BN⟩
            case measure => simp [intOf]; omega
      · have e : i = n := by omega
        have F : Hid (rs = ss) := Lib.hid (by
          apply List.ext_getElem?
          intro k
          rcases Nat.lt_or_ge k n with q | q
          · exact HS.out k (by omega)
          · rw [List.getElem?_eq_none (by rw [H.out.1]; exact q), List.getElem?_eq_none (by rw [H2.out.1]; exact q)])
        clear HS e
        go_wp2_with fail
        go_ret
        exact ⟨true, rfl, ⟨fun _ => F.out, fun _ => rfl⟩, HB.out⟩
end Go.Proofs.Ytnabjhdamofpgaa.Same18
