/- The code's binary search, place. -/
import Derived.Test.YtnabjhdamofpgaaRt2
import Derived.BigQuiet
import Derived.Deep.QuietTactic
set_option linter.unusedVariables false
namespace Go.Proofs.Ytnabjhdamofpgaa.Rt3
open Go.RowKit Go.PlainAid Go.Proofs.Ytnabjhdamofpgaa.Sums Go.Proofs.Ytnabjhdamofpgaa.Mem Go.Proofs.Ytnabjhdamofpgaa.Blk Go.Proofs.Ytnabjhdamofpgaa.Grp Go.Proofs.Ytnabjhdamofpgaa.AdrD Go.Proofs.Ytnabjhdamofpgaa.AdrR Go.Proofs.Ytnabjhdamofpgaa.Steps Go.Proofs.Ytnabjhdamofpgaa.Com Go.Proofs.Ytnabjhdamofpgaa.RowN Go.Proofs.Ytnabjhdamofpgaa.RowA Go.Proofs.Ytnabjhdamofpgaa.ArgT Go.Proofs.Ytnabjhdamofpgaa.TabD Go.Proofs.Ytnabjhdamofpgaa.TabOps Go.Proofs.Ytnabjhdamofpgaa.TabM Go.Proofs.Ytnabjhdamofpgaa.Free Go.Proofs.Ytnabjhdamofpgaa.RtD Go.Proofs.Ytnabjhdamofpgaa.Rt1 Go.Proofs.Ytnabjhdamofpgaa.Rt2

theorem ent_compare : Enters Try.prog 22 := enters_of Try.func22 (by kernel_rfl) rfl
theorem ent_search : Enters Try.prog 41 := enters_of Try.func41 (by kernel_rfl) rfl
/-- A call of a function value, by its function's contract. -/
theorem wp_callv {o : Oper} {a : Act} {w : World} {K : Act → World → Prop} {Q : Exit → Act → World → Prop} (f : FuncId) (g : Operand) (xs : List Operand) (ts : Array TypeId) (ho : o.op = .call { callee := .value g, args := xs.toArray, argTypes := ts })
    (he : Enters Try.prog f) (hg : a.eval g = .func (.func f) #[] #[]) (vs : List Value) (hv : xs.map a.eval = vs)
    (R : Value → World → Prop) (h : Calls Try.prog f vs.toArray w fun e w' => ∃ v, e = .returned v ∧ R v w') (hK : ∀ v w', R v w' → K (a.put o.dst v) w') : Step Try.prog o a w K Q := by
  constructor
  have hr : (execOp a.eval o).run Try.prog w = .ok (.enter f vs.toArray) w := by
    have e := he vs.toArray w
    simp only [execOp, ho, resolve, Deferred.ofValue, invoke, Sem.run_bind, Sem.run_pure, Result.andThen_ok, List.map_toArray, hv, hg, Array.empty_append, Array.append_empty]
    exact e
  unfold Oper.wp
  rw [hr]
  refine h.mono fun e w' ⟨v, he, hR⟩ => ?_
  subst he
  exact hK v w' hR
theorem list3 {f : Operand → Value} {x y z : Operand} {u v t : Value} (h1 : f x = u) (h2 : f y = v) (h3 : f z = t) : [x, y, z].map f = [u, v, t] := by simp [h1, h2, h3]
theorem b_eqli (a b : Int) (r : Bool) (h : decide (a = b) = r) (x y : Operand) (w : World) : (do eqGuard .eql 3 x y (.int .i64 a) (.int .i64 b); binOp .eql 3 (.int .i64 a) (.int .i64 b) : Sem Value).run Try.prog w = .ok (.bool r) w := by
  subst h
  have e : (a == b) = decide (a = b) := by by_cases q : a = b <;> simp [q]
  simp [go_sem, eqGuard, e]
set_option maxRecDepth 100000 in
set_option maxHeartbeats 8000000 in
theorem search_c (A : Option Addr) (n c : Nat) (rs : List RouteR) (a : ByteArray) (m : Int) (w : World) (hrow : RowAt RT 4 w A n c (rs.flatMap RouteR.cells)) (hn : rs.length = n) (hm : n ≤ 64) (ht : Tab rs) (ha : a.size ≤ 300) :
    Calls Try.prog 41 #[.slice A n c, .agg #[.string a, .int .i64 m], FN] w fun e w' => e = .returned (.tuple #[.int .i64 ((placeN rs a m : Nat) : Int), .bool (thereB rs a m)]) ∧ Below w.heap.size w w' := by
  have B0 := Lib.hid ((Below.refl w.heap.size w).alloc (Nat.le_refl _) (.cells #[.string a, .int .i64 m] 31))
  have KP0 := Lib.hid (Blk.new w 31 #[.string a, .int .i64 m])
  have RW0 := Lib.hid (hrow.below ((Below.refl w.heap.size w).alloc (Nat.le_refl _) (.cells #[.string a, .int .i64 m] 31)))
  have RN := Lib.hid hn
  have OK : Hid (∀ r ∈ rs, r.x0.size ≤ 16) := Lib.hid fun r hr => (good_size (ht.good r hr)).1
  have TB := Lib.hid ht
  clear hrow hn ht
  go_enter Try.func41, Try.ntmps41
  go_wp2_with fail
  obtain ⟨w1, hw1⟩ : ∃ w1, w1 = w.alloc (.cells #[.string a, .int .i64 m] 31) := ⟨_, rfl⟩
  rw [← hw1] at KP0 RW0 B0 ⊢
  clear hw1
  obtain ⟨gp, hgp⟩ : ∃ gp, gp = w.heap.size := ⟨_, rfl⟩
  rw [← hgp] at KP0 ⊢
  clear hgp
  have KP := KP0
  have RW := RW0
  clear KP0 RW0
  go_loopw [9, 10] (fun lv hv wr => ∃ lo hi : Nat, lv = .int .i64 (lo : Int) ∧ hv = .int .i64 (hi : Int) ∧ lo ≤ hi ∧ hi ≤ n ∧ Hid (∀ (k : Nat) (r : RouteR), k < lo → rs[k]? = some r → aheadB r.x0 r.x1 a m = true) ∧ Hid (∀ (k : Nat) (r : RouteR), hi ≤ k → rs[k]? = some r → aheadB r.x0 r.x1 a m = false) ∧ Hid (Below w1.heap.size w1 wr)) (fun lv hv _ => (intOf hv).toNat - (intOf lv).toNat)
  case atStart => exact ⟨0, n, rfl, rfl, by omega, by omega, Lib.hid fun k r hk => absurd hk (by omega), Lib.hid fun k r hk h => absurd h (by rw [List.getElem?_eq_none (by rw [RN.out]; exact hk)]; simp), Lib.hid (Below.refl _ _)⟩
  case round =>
    obtain ⟨lo, hi, rfl, rfl, hle, hin, HS, HE, HB⟩ := hrel
    by_cases hlt : lo < hi
    · obtain ⟨k, hk⟩ : ∃ k, k = (lo + hi) / 2 := ⟨_, rfl⟩
      have hmid : ((lo : Int) + (hi : Int)) / 2 = ((k : Nat) : Int) := by omega
      have kl : lo ≤ k ∧ k < hi := by omega
      have KL := Lib.hid kl
      have LT : Hid (k < n) := Lib.hid (by omega)
      obtain ⟨b, X, rfl, -, -, -⟩ := RW.out.some (by omega)
      have hr : rs[k]? = some (rs[k]'(by rw [RN.out]; omega)) := List.getElem?_eq_getElem _
      generalize rs[k]'(by rw [RN.out]; omega) = r at hr
      have HR := Lib.hid hr
      have okr := OK.out r (List.mem_of_getElem? hr)
      obtain ⟨z, hz⟩ : ∃ z, cmpK r.x0 r.x1 a m = z := ⟨_, rfl⟩
      have CP := Lib.hid (fun W => compare_c r a m (by unfold maxLen; omega) (by unfold maxLen; omega) W)
      rw [hz] at CP
      obtain ⟨t, htt⟩ : ∃ t, decide (z < 0) = t := ⟨_, rfl⟩
      have HZ := Lib.hid htt
      have HA : Hid (aheadB r.x0 r.x1 a m = t) := Lib.hid (by rw [← cmp_neg, hz, htt])
      clear hr okr hz htt hk
      have KPr := Lib.hid (KP.out.below HB.out KP.out.lt)
      have XP : Hid (∀ V, Below wr.drew.heap.size wr.drew V → Blk V gp 31 #[.string a, .int .i64 m]) := Lib.hid fun V hV => Blk.below (show Blk wr.drew gp 31 _ from KPr.out) hV (Blk.lt KPr.out)
      have XR : Hid (∀ V, Below wr.drew.heap.size wr.drew V → Part.At V b (0 + k * 4) r.cells) := Lib.hid fun V hV => by
        rw [Nat.zero_add]
        exact row_route (RW.out.below (HB.out.trans ((Draw.below_1 hV).mono HB.out.size))) HR.out
      go_wp2_with fail
      clear hmid kl
      refine wp_region_free [0, 1, 2, 3, 4, 5, 6] 7 [] (fun w1 w2 => Below w1.heap.size w1 w2) (fun k' w' v => match k' with
        | 0 => v = FN
        | 1 => v = .slice (some ⟨b, 0, none⟩) n c
        | 2 => v = .int .i64 (((k : Nat) : Int))
        | 3 => v = .pointer (some ⟨b, 0 + k * 4, none⟩)
        | 4 => v = .agg (RA r)
        | 5 => v = .agg #[.string a, .int .i64 m]
        | _ => v = .int .i64 z) (by kernel_rfl) (by kernel_rfl) (Below.refl _ _) (fun _ _ _ h k => h.trans (k.mono h.size)) (fun k' w1 w2 v h => match k' with
        | 0 => fun x => x
        | 1 => fun x => x
        | 2 => fun x => x
        | 3 => fun x => x
        | 4 => fun x => x
        | 5 => fun x => x
        | _ + 6 => fun x => x) (fun _ _ _ _ _ h => h) ?_ _ (by rfl) ?_
      · refine obs_cons (by rfl) (fun vals w' hgr hdep K hK => ?_) (obs_cons (by rfl) (fun vals w' hgr hdep K hK => ?_) (obs_cons (by rfl) (fun vals w' hgr hdep K hK => ?_) (obs_cons (by rfl) (fun vals w' hgr hdep K hK => ?_) (obs_cons (by rfl) (fun vals w' hgr hdep K hK => ?_) (obs_cons (by rfl) (fun vals w' hgr hdep K hK => ?_) (obs_cons (by rfl) (fun vals w' hgr hdep K hK => ?_) (obs_nil)))))))
        · exact wp_move (.tmp 2) rfl _ (at_out _ (by kernel_rfl) rfl) (hK _ _ (Below.refl _ _) rfl)
        · exact wp_move (.tmp 0) rfl _ (at_out _ (by kernel_rfl) rfl) (hK _ _ (Below.refl _ _) rfl)
        · exact wp_move (.tmp 11) rfl _ (at_out _ (by kernel_rfl) rfl) (hK _ _ (Below.refl _ _) rfl)
        · exact Part.st_elem_at (.tmp 25) (.tmp 26) rfl Try.underlying27 (by kernel_rfl) b 0 n c k ((at_dst 1 (by kernel_rfl)).trans (hdep 1 (by simp) (by kernel_rfl))) ((at_dst 2 (by kernel_rfl)).trans (hdep 2 (by simp) (by kernel_rfl))) LT.out (hK _ _ (Below.refl _ _) rfl)
        · exact Part.st_load_part 33 (.tmp 27) rfl b (0 + k * 4) [.string r.x0, .int .i64 r.x1, .string r.x2, .int .i64 r.x3] ((at_dst 3 (by kernel_rfl)).trans (hdep 3 (by simp) (by kernel_rfl))) (Part.run_part _ _ _ _ _ _ Try.underlying33 rfl (by kernel_rfl) (XR.out w' hgr)) (hK _ _ (Below.refl _ _) rfl)
        · exact Part.st_load_part 31 (.tmp 4) rfl gp 0 [.string a, .int .i64 m] (at_out _ (by kernel_rfl) rfl) (Part.run_part _ _ _ _ _ _ Try.underlying31 rfl (by kernel_rfl) (blk_part (XP.out w' hgr) 0 2)) (hK _ _ (Below.refl _ _) rfl)
        · exact wp_callv 22 (.tmp 24) [.tmp 28, .tmp 29] _ rfl ent_compare ((at_dst 0 (by kernel_rfl)).trans (hdep 0 (by simp) (by kernel_rfl))) [.agg (RA r), .agg #[.string a, .int .i64 m]] (Draw.list2 ((at_dst 4 (by kernel_rfl)).trans (hdep 4 (by simp) (by kernel_rfl))) ((at_dst 5 (by kernel_rfl)).trans (hdep 5 (by simp) (by kernel_rfl)))) (fun v w'' => v = .int .i64 z ∧ Below w'.heap.size w' w'') ((CP.out w').mono fun e w'' ⟨h1, h2⟩ => ⟨_, h1, rfl, h2⟩) (fun v w'' ⟨h1, h2⟩ => hK _ _ h2 h1)
      · intro vals w' hgr hG
        have e6 : vals 6 = .int .i64 z := hG 6 (by simp)
        refine wp_bin (.tmp 30) (.const (.int .i64 0)) rfl _ _ _ ((at_dst 6 (by kernel_rfl)).trans e6) rfl (b_lssi _ _ _ HZ.out _ _ _) (wpAnyH_done (by kernel_rfl) ?_ _)
        have HB2 := Lib.hid (HB.out.trans ((Draw.below_1 hgr).mono HB.out.size))
        clear hG hgr XP XR HB KPr e6
        simp only [fill, dstAt, List.getElem?_cons_zero, List.getElem?_cons_succ, Option.bind_some, Act.put, List.setIfInBounds_toArray, List.set_cons_zero, List.set_cons_succ]
        generalize vals 0 = u0, vals 1 = u1, vals 2 = u2, vals 3 = u3, vals 4 = u4, vals 5 = u5, vals 6 = u6 at *
        generalize w' = w2 at *
        cases t
        · have HN : Hid (∀ (j : Nat) (r' : RouteR), k ≤ j → rs[j]? = some r' → aheadB r'.x0 r'.x1 a m = false) := Lib.hid fun j r' hj h' => by
            cases q : aheadB r'.x0 r'.x1 a m with
            | false => rfl
            | true =>
              have := srt_mono TB.out.srt HR.out h' hj q
              rw [HA.out] at this
              cases this
          have KL1 := KL.out.1
          have KL2 := KL.out.2
          clear HE CP
          go_wp2_with fail
          go_roundw
          case rel => exact ⟨lo, k, rfl, rfl, KL1, by omega, HS, HN, HB2⟩
          case measure => simp [intOf]; omega
        · have HN : Hid (∀ (j : Nat) (r' : RouteR), j < k + 1 → rs[j]? = some r' → aheadB r'.x0 r'.x1 a m = true) := Lib.hid fun j r' hj h' => srt_mono TB.out.srt h' HR.out (by omega) HA.out
          have KL1 := KL.out.1
          have KL2 := KL.out.2
          have hk64 : k < 64 := by omega
          clear HS CP
          go_wp2_with fail
          go_roundw
          case rel => exact ⟨k + 1, hi, by go_num, rfl, by omega, hin, HN, HE, HB2⟩
          case measure => simp [intOf]; omega
    · obtain rfl : hi = lo := by omega
      obtain ⟨k, hk⟩ : ∃ k, k = hi := ⟨_, rfl⟩
      subst hk
      have PA : Hid (placeN rs a m = k) := Lib.hid (place_at HS.out (fun r h => HE.out k r (Nat.le_refl _) h) (by rw [RN.out]; exact hin))
      by_cases hkn : k < n
      · have LT := Lib.hid hkn
        obtain ⟨b, X, rfl, -, -, -⟩ := RW.out.some (by omega)
        have hr : rs[k]? = some (rs[k]'(by rw [RN.out]; omega)) := List.getElem?_eq_getElem _
        generalize rs[k]'(by rw [RN.out]; omega) = r at hr
        have HR := Lib.hid hr
        have okr := OK.out r (List.mem_of_getElem? hr)
        obtain ⟨z, hz⟩ : ∃ z, cmpK r.x0 r.x1 a m = z := ⟨_, rfl⟩
        have CP := Lib.hid (fun W => compare_c r a m (by unfold maxLen; omega) (by unfold maxLen; omega) W)
        rw [hz] at CP
        obtain ⟨y, hy⟩ : ∃ y, decide (z = 0) = y := ⟨_, rfl⟩
        have EY := Lib.hid hy
        have TA : Hid (thereB rs a m = y) := Lib.hid (by
          rw [TabR2.there_at PA.out HR.out, ← hy, ← hz, Bool.eq_iff_iff]
          simp only [Bool.and_eq_true, decide_eq_true_eq]
          exact (cmp_zero _ _ _ _).symm)
        clear hr okr hz hy HS HE
        have KPr := Lib.hid (KP.out.below HB.out KP.out.lt)
        have XP : Hid (∀ V, Below wr.drew.heap.size wr.drew V → Blk V gp 31 #[.string a, .int .i64 m]) := Lib.hid fun V hV => Blk.below (show Blk wr.drew gp 31 _ from KPr.out) hV (Blk.lt KPr.out)
        have XR : Hid (∀ V, Below wr.drew.heap.size wr.drew V → Part.At V b (0 + k * 4) r.cells) := Lib.hid fun V hV => by
          rw [Nat.zero_add]
          exact row_route (RW.out.below (HB.out.trans ((Draw.below_1 hV).mono HB.out.size))) HR.out
        go_wp2_with fail
        refine wp_region_freeP [0, 1, 2, 3, 4, 5, 6, 7, 8, 9, 10, 11, 12, 13, 14] 15 [] [(4, true)] (fun w1 w2 => Below w1.heap.size w1 w2) (fun k' w' v => match k' with
          | 0 => v = .int .i64 (((k : Nat) : Int))
          | 1 => v = .int .i64 (((k : Nat) : Int))
          | 2 => v = .int .i64 (((n : Nat) : Int))
          | 3 => v = .bool true
          | 4 => v = .bool true
          | 5 => v = FN
          | 6 => v = .slice (some ⟨b, 0, none⟩) n c
          | 7 => v = .int .i64 (((k : Nat) : Int))
          | 8 => v = .pointer (some ⟨b, 0 + k * 4, none⟩)
          | 9 => v = .agg (RA r)
          | 10 => v = .agg #[.string a, .int .i64 m]
          | 11 => v = .int .i64 z
          | 12 => v = .bool y
          | 13 => v = .bool y
          | _ => v = .int .i64 (((k : Nat) : Int))) (by kernel_rfl) (by kernel_rfl) (fun q hq w v hv => ?_) (Below.refl _ _) (fun _ _ _ h k => h.trans (k.mono h.size)) (fun k' w1 w2 v h => match k' with
          | 0 => fun x => x
          | 1 => fun x => x
          | 2 => fun x => x
          | 3 => fun x => x
          | 4 => fun x => x
          | 5 => fun x => x
          | 6 => fun x => x
          | 7 => fun x => x
          | 8 => fun x => x
          | 9 => fun x => x
          | 10 => fun x => x
          | 11 => fun x => x
          | 12 => fun x => x
          | 13 => fun x => x
          | _ + 14 => fun x => x) (fun _ _ _ _ _ h => h) ?_ _ (by rfl) ?_
        · simp only [List.mem_cons, List.not_mem_nil, or_false] at hq
          rcases hq with rfl <;> exact hv
        · refine obs_cons (by rfl) (fun vals w' hgr hdep K hK => ?_) (obs_cons (by rfl) (fun vals w' hgr hdep K hK => ?_) (obs_cons (by rfl) (fun vals w' hgr hdep K hK => ?_) (obs_cons (by rfl) (fun vals w' hgr hdep K hK => ?_) (obs_cons (by rfl) (fun vals w' hgr hdep K hK => ?_) (obs_cons (by rfl) (fun vals w' hgr hdep K hK => ?_) (obs_cons (by rfl) (fun vals w' hgr hdep K hK => ?_) (obs_cons (by rfl) (fun vals w' hgr hdep K hK => ?_) (obs_cons (by rfl) (fun vals w' hgr hdep K hK => ?_) (obs_cons (by rfl) (fun vals w' hgr hdep K hK => ?_) (obs_cons (by rfl) (fun vals w' hgr hdep K hK => ?_) (obs_cons (by rfl) (fun vals w' hgr hdep K hK => ?_) (obs_cons (by rfl) (fun vals w' hgr hdep K hK => ?_) (obs_cons (by rfl) (fun vals w' hgr hdep K hK => ?_) (obs_cons (by rfl) (fun vals w' hgr hdep K hK => ?_) (obs_nil)))))))))))))))
          · exact wp_move (.tmp 9) rfl _ (at_out _ (by kernel_rfl) rfl) (hK _ _ (Below.refl _ _) rfl)
          · exact wp_move (.tmp 9) rfl _ (at_out _ (by kernel_rfl) rfl) (hK _ _ (Below.refl _ _) rfl)
          · exact wp_move (.tmp 8) rfl _ (at_out _ (by kernel_rfl) rfl) (hK _ _ (Below.refl _ _) rfl)
          · exact wp_bin (.tmp 36) (.tmp 37) rfl _ _ _ ((at_dst 1 (by kernel_rfl)).trans (hdep 1 (by simp) (by kernel_rfl))) ((at_dst 2 (by kernel_rfl)).trans (hdep 2 (by simp) (by kernel_rfl))) (b_lssi _ _ _ (decide_eq_true (by have := LT.out; omega)) _ _ _) (hK _ _ (Below.refl _ _) rfl)
          · exact wp_move (.tmp 38) rfl _ ((at_dst 3 (by kernel_rfl)).trans (hdep 3 (by simp) (by kernel_rfl))) (hK _ _ (Below.refl _ _) rfl)
          · exact wp_move (.tmp 2) rfl _ (at_out _ (by kernel_rfl) rfl) (hK _ _ (Below.refl _ _) rfl)
          · exact wp_move (.tmp 0) rfl _ (at_out _ (by kernel_rfl) rfl) (hK _ _ (Below.refl _ _) rfl)
          · exact wp_move (.tmp 9) rfl _ (at_out _ (by kernel_rfl) rfl) (hK _ _ (Below.refl _ _) rfl)
          · exact Part.st_elem_at (.tmp 41) (.tmp 42) rfl Try.underlying27 (by kernel_rfl) b 0 n c k ((at_dst 6 (by kernel_rfl)).trans (hdep 6 (by simp) (by kernel_rfl))) ((at_dst 7 (by kernel_rfl)).trans (hdep 7 (by simp) (by kernel_rfl))) LT.out (hK _ _ (Below.refl _ _) rfl)
          · exact Part.st_load_part 33 (.tmp 43) rfl b (0 + k * 4) [.string r.x0, .int .i64 r.x1, .string r.x2, .int .i64 r.x3] ((at_dst 8 (by kernel_rfl)).trans (hdep 8 (by simp) (by kernel_rfl))) (Part.run_part _ _ _ _ _ _ Try.underlying33 rfl (by kernel_rfl) (XR.out w' hgr)) (hK _ _ (Below.refl _ _) rfl)
          · exact Part.st_load_part 31 (.tmp 4) rfl gp 0 [.string a, .int .i64 m] (at_out _ (by kernel_rfl) rfl) (Part.run_part _ _ _ _ _ _ Try.underlying31 rfl (by kernel_rfl) (blk_part (XP.out w' hgr) 0 2)) (hK _ _ (Below.refl _ _) rfl)
          · exact wp_callv 22 (.tmp 40) [.tmp 44, .tmp 45] _ rfl ent_compare ((at_dst 5 (by kernel_rfl)).trans (hdep 5 (by simp) (by kernel_rfl))) [.agg (RA r), .agg #[.string a, .int .i64 m]] (Draw.list2 ((at_dst 9 (by kernel_rfl)).trans (hdep 9 (by simp) (by kernel_rfl))) ((at_dst 10 (by kernel_rfl)).trans (hdep 10 (by simp) (by kernel_rfl)))) (fun v w'' => v = .int .i64 z ∧ Below w'.heap.size w' w'') ((CP.out w').mono fun e w'' ⟨h1, h2⟩ => ⟨_, h1, rfl, h2⟩) (fun v w'' ⟨h1, h2⟩ => hK _ _ h2 h1)
          · exact wp_bin (.tmp 46) (.const (.int .i64 0)) rfl _ _ _ ((at_dst 11 (by kernel_rfl)).trans (hdep 11 (by simp) (by kernel_rfl))) rfl (b_eqli _ _ _ (EY.out) _ _ _) (hK _ _ (Below.refl _ _) rfl)
          · exact Draw.st_pick (.tmp 39) (.tmp 47) (.const (.bool false)) rfl _ ((at_dst 4 (by kernel_rfl)).trans (hdep 4 (by simp) (by kernel_rfl))) ((at_dst 12 (by kernel_rfl)).trans (hdep 12 (by simp) (by kernel_rfl))) (hK _ _ (Below.refl _ _) rfl)
          · exact st_assign (.tmp 35) _ rfl ((at_dst 0 (by kernel_rfl)).trans (hdep 0 (by simp) (by kernel_rfl))) (hK _ _ (Below.refl _ _) rfl)
        · intro vals w' hgr hG
          refine st_assign (.tmp 48) _ rfl ((at_dst 13 (by kernel_rfl)).trans (hG 13 (by simp))) (wpAnyH_done (by kernel_rfl) ?_ _)
          have e14 : vals 14 = .int .i64 ((k : Nat) : Int) := hG 14 (by simp)
          have HB3 := Lib.hid (HB.out.trans ((Draw.below_1 hgr).mono HB.out.size))
          clear hG hgr XP XR HB KPr
          simp only [fill, dstAt, List.getElem?_cons_zero, List.getElem?_cons_succ, Option.bind_some, Act.put, List.setIfInBounds_toArray, List.set_cons_zero, List.set_cons_succ]
          rw [e14]
          generalize vals 0 = v0, vals 1 = v1, vals 2 = v2, vals 3 = v3, vals 4 = v4, vals 5 = v5, vals 6 = v6, vals 7 = v7, vals 8 = v8, vals 9 = v9, vals 10 = v10, vals 11 = v11, vals 12 = v12, vals 13 = v13 at *
          go_wp2_with fail
          go_ret2
          exact ⟨by rw [PA.out, TA.out]; rfl, B0.out.trans (HB3.out.mono B0.out.size)⟩
      · obtain rfl : k = n := by omega
        have TA : Hid (thereB rs a m = false) := Lib.hid (TabR2.there_no (by rw [PA.out, RN.out]))
        clear HS HE
        go_wp2_with fail
        go_quiet (fail)
        go_wp2_with fail
        go_ret2
        exact ⟨by rw [PA.out, TA.out]; rfl, B0.out.trans ((below_drewN HB.out _).mono B0.out.size)⟩
set_option maxRecDepth 100000 in
set_option maxHeartbeats 1000000 in
theorem place_c (g : Nat) (A : Option Addr) (n c : Nat) (rs : List RouteR) (a : ByteArray) (m : Int) (w : World) (hg : Blk w g 54 #[FN, .slice A n c]) (hrow : RowAt RT 4 w A n c (rs.flatMap RouteR.cells)) (hn : rs.length = n) (hm : n ≤ 64) (ht : Tab rs) (ha : a.size ≤ 300) :
    Calls Try.prog 25 #[.pointer (some ⟨g, 0, none⟩), .agg #[.string a, .int .i64 m]] w fun e w' => e = .returned (.tuple #[.int .i64 ((placeN rs a m : Nat) : Int), .bool (thereB rs a m)]) ∧ Below w.heap.size w w' := by
  have B0 := Lib.hid ((Below.refl w.heap.size w).alloc (Nat.le_refl _) (.cells #[.string a, .int .i64 m] 31))
  have KP0 := Lib.hid (Blk.new w 31 #[.string a, .int .i64 m])
  have KT0 := Lib.hid (hg.below ((Below.refl w.heap.size w).alloc (Nat.le_refl _) (.cells #[.string a, .int .i64 m] 31)) hg.lt)
  have RW0 := Lib.hid (hrow.below ((Below.refl w.heap.size w).alloc (Nat.le_refl _) (.cells #[.string a, .int .i64 m] 31)))
  obtain ⟨w1, hw1⟩ : ∃ w1, w1 = w.alloc (.cells #[.string a, .int .i64 m] 31) := ⟨_, rfl⟩
  rw [← hw1] at KP0 KT0 RW0 B0
  have HW1 := Lib.hid hw1
  have SC : Hid (∀ V, Below w1.drew.heap.size w1.drew V → Calls Try.prog 41 #[.slice A n c, .agg #[.string a, .int .i64 m], FN] V fun e w' => e = .returned (.tuple #[.int .i64 ((placeN rs a m : Nat) : Int), .bool (thereB rs a m)]) ∧ Below V.heap.size V w') := Lib.hid fun V hV => search_c A n c rs a m V (RW0.out.below (Draw.below_1 hV)) hn hm ht ha
  obtain ⟨gp, hgp⟩ : ∃ gp, gp = w.heap.size := ⟨_, rfl⟩
  rw [← hgp] at KP0
  have HGP := Lib.hid hgp
  have XP : Hid (∀ V, Below w1.drew.heap.size w1.drew V → Blk V gp 31 #[.string a, .int .i64 m]) := Lib.hid fun V hV => Blk.below (show Blk w1.drew gp 31 _ from KP0.out) hV (Blk.lt KP0.out)
  have XT : Hid (∀ V, Below w1.drew.heap.size w1.drew V → Blk V g 54 #[FN, .slice A n c]) := Lib.hid fun V hV => Blk.below (show Blk w1.drew g 54 _ from KT0.out) hV (Blk.lt KT0.out)
  clear hg hrow hn hm ht ha RW0 KP0 KT0 hw1 hgp
  go_enter Try.func25, Try.ntmps25
  go_wp2_with fail
  rw [← HW1.out, ← HGP.out]
  refine wp_region_free [0, 1, 2, 3, 4, 5, 6, 7, 8, 9, 10, 11, 12] 13 [] (fun w1 w2 => Below w1.heap.size w1 w2) (fun k' w' v => match k' with
    | 0 => v = .pointer (some ⟨g, 0, none⟩)
    | 1 => v = .pointer (some ⟨g, 0, none⟩)
    | 2 => v = .pointer (some ⟨g, 1, none⟩)
    | 3 => v = .slice A n c
    | 4 => v = .agg #[.string a, .int .i64 m]
    | 5 => v = .pointer (some ⟨g, 0, none⟩)
    | 6 => v = .pointer (some ⟨g, 0, none⟩)
    | 7 => v = .pointer (some ⟨g, 0, none⟩)
    | 8 => v = FN
    | 9 => v = .tuple #[.int .i64 ((placeN rs a m : Nat) : Int), .bool (thereB rs a m)]
    | 10 => v = .int .i64 ((placeN rs a m : Nat) : Int)
    | 11 => v = .bool (thereB rs a m)
    | _ => v = .int .i64 ((placeN rs a m : Nat) : Int)) (by kernel_rfl) (by kernel_rfl) (Below.refl _ _) (fun _ _ _ h k => h.trans (k.mono h.size)) (fun k' w1 w2 v h => match k' with
    | 0 => fun x => x
    | 1 => fun x => x
    | 2 => fun x => x
    | 3 => fun x => x
    | 4 => fun x => x
    | 5 => fun x => x
    | 6 => fun x => x
    | 7 => fun x => x
    | 8 => fun x => x
    | 9 => fun x => x
    | 10 => fun x => x
    | 11 => fun x => x
    | _ + 12 => fun x => x) (fun _ _ _ _ _ h => h) ?_ _ (by rfl) ?_
  · refine obs_cons (by rfl) (fun vals w' hgr hdep K hK => ?_) (obs_cons (by rfl) (fun vals w' hgr hdep K hK => ?_) (obs_cons (by rfl) (fun vals w' hgr hdep K hK => ?_) (obs_cons (by rfl) (fun vals w' hgr hdep K hK => ?_) (obs_cons (by rfl) (fun vals w' hgr hdep K hK => ?_) (obs_cons (by rfl) (fun vals w' hgr hdep K hK => ?_) (obs_cons (by rfl) (fun vals w' hgr hdep K hK => ?_) (obs_cons (by rfl) (fun vals w' hgr hdep K hK => ?_) (obs_cons (by rfl) (fun vals w' hgr hdep K hK => ?_) (obs_cons (by rfl) (fun vals w' hgr hdep K hK => ?_) (obs_cons (by rfl) (fun vals w' hgr hdep K hK => ?_) (obs_cons (by rfl) (fun vals w' hgr hdep K hK => ?_) (obs_cons (by rfl) (fun vals w' hgr hdep K hK => ?_) (obs_nil)))))))))))))
    · exact wp_move (.tmp 0) rfl _ (at_out _ (by kernel_rfl) rfl) (hK _ _ (Below.refl _ _) rfl)
    · exact MapS.st_nil (.tmp 6) rfl _ ((at_dst 0 (by kernel_rfl)).trans (hdep 0 (by simp) (by kernel_rfl))) (hK _ _ (Below.refl _ _) rfl)
    · exact wp_field (.tmp 7) rfl _ _ ((at_dst 1 (by kernel_rfl)).trans (hdep 1 (by simp) (by kernel_rfl))) (by kernel_rfl) (hK _ _ (Below.refl _ _) rfl)
    · exact wp_load1 (.tmp 8) rfl ⟨g, 1, none⟩ ((at_dst 2 (by kernel_rfl)).trans (hdep 2 (by simp) (by kernel_rfl))) Try.underlying27 rfl _ ((XT.out w' hgr).cell 1) (hK _ _ (Below.refl _ _) rfl)
    · exact Part.st_load_part 31 (.tmp 3) rfl gp 0 [.string a, .int .i64 m] (at_out _ (by kernel_rfl) rfl) (Part.run_part _ _ _ _ _ _ Try.underlying31 rfl (by kernel_rfl) (blk_part (XP.out w' hgr) 0 2)) (hK _ _ (Below.refl _ _) rfl)
    · exact wp_move (.tmp 0) rfl _ (at_out _ (by kernel_rfl) rfl) (hK _ _ (Below.refl _ _) rfl)
    · exact MapS.st_nil (.tmp 11) rfl _ ((at_dst 5 (by kernel_rfl)).trans (hdep 5 (by simp) (by kernel_rfl))) (hK _ _ (Below.refl _ _) rfl)
    · exact wp_field (.tmp 12) rfl _ _ ((at_dst 6 (by kernel_rfl)).trans (hdep 6 (by simp) (by kernel_rfl))) (by kernel_rfl) (hK _ _ (Below.refl _ _) rfl)
    · exact wp_load1 (.tmp 13) rfl ⟨g, 0, none⟩ ((at_dst 7 (by kernel_rfl)).trans (hdep 7 (by simp) (by kernel_rfl))) Try.underlying52 rfl _ ((XT.out w' hgr).cell 0) (hK _ _ (Below.refl _ _) rfl)
    · exact wp_call 41 [.tmp 9, .tmp 10, .tmp 14] _ rfl ent_search [.slice A n c, .agg #[.string a, .int .i64 m], FN] (list3 ((at_dst 3 (by kernel_rfl)).trans (hdep 3 (by simp) (by kernel_rfl))) ((at_dst 4 (by kernel_rfl)).trans (hdep 4 (by simp) (by kernel_rfl))) ((at_dst 8 (by kernel_rfl)).trans (hdep 8 (by simp) (by kernel_rfl)))) (fun v w'' => v = .tuple #[.int .i64 ((placeN rs a m : Nat) : Int), .bool (thereB rs a m)] ∧ Below w'.heap.size w' w'') ((SC.out w' hgr).mono fun e w'' ⟨h1, h2⟩ => ⟨_, h1, rfl, h2⟩) (fun v w'' ⟨h1, h2⟩ => hK _ _ h2 h1)
    · exact MapS.st_extract (.tmp 15) 0 rfl #[.int .i64 ((placeN rs a m : Nat) : Int), .bool (thereB rs a m)] (.int .i64 ((placeN rs a m : Nat) : Int)) ((at_dst 9 (by kernel_rfl)).trans (hdep 9 (by simp) (by kernel_rfl))) rfl (hK _ _ (Below.refl _ _) rfl)
    · exact MapS.st_extract (.tmp 15) 1 rfl #[.int .i64 ((placeN rs a m : Nat) : Int), .bool (thereB rs a m)] (.bool (thereB rs a m)) ((at_dst 9 (by kernel_rfl)).trans (hdep 9 (by simp) (by kernel_rfl))) rfl (hK _ _ (Below.refl _ _) rfl)
    · exact st_assign (.tmp 16) _ rfl ((at_dst 10 (by kernel_rfl)).trans (hdep 10 (by simp) (by kernel_rfl))) (hK _ _ (Below.refl _ _) rfl)
  · intro vals w' hgr hG
    refine st_assign (.tmp 17) _ rfl ((at_dst 11 (by kernel_rfl)).trans (hG 11 (by simp))) (wpAnyH_done (by kernel_rfl) ?_ _)
    have e12 : vals 12 = .int .i64 ((placeN rs a m : Nat) : Int) := hG 12 (by simp)
    have HB3 := Lib.hid (B0.out.trans ((Draw.below_1 hgr).mono B0.out.size))
    clear hG hgr XP XT SC
    simp only [fill, dstAt, List.getElem?_cons_zero, List.getElem?_cons_succ, Option.bind_some, Act.put, List.setIfInBounds_toArray, List.set_cons_zero, List.set_cons_succ]
    rw [e12]
    generalize vals 0 = v0, vals 1 = v1, vals 2 = v2, vals 3 = v3, vals 4 = v4, vals 5 = v5, vals 6 = v6, vals 7 = v7, vals 8 = v8, vals 9 = v9, vals 10 = v10, vals 11 = v11 at *
    go_wp2_with fail
    go_ret2
    exact ⟨rfl, HB3.out⟩
end Go.Proofs.Ytnabjhdamofpgaa.Rt3
