/- RouteDoes's walk. -/
import Derived.Test.YtnabjhdamofpgaaLawDoesE
import Derived.Test.YtnabjhdamofpgaaFreeI
import Derived.BigQuiet
import Derived.Deep.QuietTactic
import Derived.LoopTactic
set_option linter.unusedVariables false
namespace Go.Proofs.Ytnabjhdamofpgaa.LawDoes18
open Go.RowKit Go.PlainAid Go.Proofs.Ytnabjhdamofpgaa.Sums Go.Proofs.Ytnabjhdamofpgaa.Mem Go.Proofs.Ytnabjhdamofpgaa.Blk Go.Proofs.Ytnabjhdamofpgaa.Grp Go.Proofs.Ytnabjhdamofpgaa.AdrD Go.Proofs.Ytnabjhdamofpgaa.AdrR Go.Proofs.Ytnabjhdamofpgaa.Steps Go.Proofs.Ytnabjhdamofpgaa.RowN Go.Proofs.Ytnabjhdamofpgaa.RowA Go.Proofs.Ytnabjhdamofpgaa.ArgT Go.Proofs.Ytnabjhdamofpgaa.TabD Go.Proofs.Ytnabjhdamofpgaa.TabOps Go.Proofs.Ytnabjhdamofpgaa.TabM Go.Proofs.Ytnabjhdamofpgaa.Free Go.Proofs.Ytnabjhdamofpgaa.RtD Go.Proofs.Ytnabjhdamofpgaa.Rt4 Go.Proofs.Ytnabjhdamofpgaa.Rt7 Go.Proofs.Ytnabjhdamofpgaa.Rt9 Go.Proofs.Ytnabjhdamofpgaa.RtA Go.Proofs.Ytnabjhdamofpgaa.LawS18 Go.Proofs.Ytnabjhdamofpgaa.TabR3 Go.Proofs.Ytnabjhdamofpgaa.Same18 Go.Proofs.Ytnabjhdamofpgaa.Few18 Go.Proofs.Ytnabjhdamofpgaa.Part Go.Proofs.Ytnabjhdamofpgaa.LawDoesE

theorem blk_load {W : World} {b : Nat} {q : RouteR} (h : Blk W b 33 (RA q)) : (loadVar 33 ⟨b, 0, none⟩).run Try.prog W = .ok (.agg (RA q)) W :=
  run_part W b 0 33 q.cells _ Try.underlying33 rfl (by kernel_rfl) fun j v hj => by
    rw [Nat.zero_add, h.cell, ← Array.getElem?_toList]
    exact hj
attribute [local irreducible] wpList wpQuiet
set_option maxRecDepth 100000 in
set_option maxHeartbeats 8000000 in
theorem does_any (A : Option Addr) (n c : Nat) (rs : List Op18R) (w : World) (h : Op18Rows w A n rs) : Calls Try.prog 3 #[.slice A n c] w fun e w' => e = .returned (.bool true) ∧ Below w.heap.size w w' := by
  have F0 := Lib.hid (few_any A n c rs w h)
  have ROWS := Lib.hid h
  have N0 := Lib.hid solo_new
  clear h
  go_enter Try.func3, Try.ntmps3
  go_wp2_with fail
  refine F0.out.mono ?_
  rintro e w1 ⟨fb, rfl, hfb, hb1⟩
  cases fb with
  | false =>
    clear hfb F0 ROWS N0
    go_wp2_with fail
    go_ret
    exact ⟨rfl, hb1⟩
  | true =>
    obtain ⟨hn, hall⟩ := hfb rfl
    have FEW := Lib.hid hall
    have B1 := Lib.hid hb1
    clear hfb hall hb1 F0
    go_wp2_with fail
    refine (N0.out w1).mono ?_
    rintro e w2 ⟨rfl, hb, hlt, hs⟩
    have hs' : Solo (RtX w1.heap.size []) (fun k => k < w.heap.size) w2 := by
      obtain ⟨P, p1, p2, p3⟩ := hs
      exact ⟨P, p1, p2, fun k hk => p3 k (Nat.lt_of_lt_of_le hk B1.out.size)⟩
    have B2 := Lib.hid (B1.out.trans (hb.mono B1.out.size))
    have T3 := Lib.hid (both_new hs' B2.out.size ((Below.refl w2.heap.size w2).alloc (Nat.le_refl _) (.cells #[.slice none 0 0] 29)) (Blk.new w2 29 #[.slice none 0 0]))
    have B3 := Lib.hid (B2.out.alloc B2.out.size (.cells #[.slice none 0 0] 29))
    clear hb hlt hs hs' N0 B1 B2
    go_wp2_with fail
    go_loopw [5] (fun iv wr => ∃ (i : Nat) (ts : List RouteR), iv = .int .i64 (i : Int) ∧ i ≤ n ∧ Hid (Both w w1.heap.size w2.heap.size ts wr) ∧ Hid (Below w.heap.size w wr)) (fun iv _ => n - (intOf iv).toNat)
    case atStart => exact ⟨0, [], rfl, by omega, T3, B3⟩
    case round =>
      clear T3 B3
      obtain ⟨i, ts, rfl, hi, HS, HB⟩ := hrel
      by_cases hlt : i < n
      · obtain ⟨b, o, rfl, hbl, hall⟩ := ROWS.out.2 (by omega)
        have hr : rs[i]? = some (rs[i]'(by rw [ROWS.out.1]; exact hlt)) := List.getElem?_eq_getElem _
        generalize rs[i]'(by rw [ROWS.out.1]; exact hlt) = r at hr
        obtain ⟨-, cl⟩ := hall i r hr
        have FIT := Lib.hid (FEW.out i r hr)
        have RP : (loadVar 35 ⟨b, o + i * 6, none⟩).run Try.prog wr = .ok (.agg (opCs r)) wr := run_part wr b (o + i * 6) 35 r.cells _ Try.underlying35 rfl (by kernel_rfl) ((show At w b (o + i * 6) r.cells from cl).below HB.out hbl)
        have J := Blk.new wr 35 #[.int .i64 0, .string ⟨#[]⟩, .int .i64 0, .string ⟨#[]⟩, .int .i64 0, .string ⟨#[]⟩]
        have NK := Lib.hid (setRow_blk J (opCs r))
        have BN := Lib.hid (setRow_bel ((Below.refl wr.heap.size wr).alloc (Nat.le_refl _) (.cells #[.int .i64 0, .string ⟨#[]⟩, .int .i64 0, .string ⟨#[]⟩, .int .i64 0, .string ⟨#[]⟩] 35)) (Nat.le_refl _) (opCs r))
        have one := Lib.hid (one_op r)
        clear hall cl hr
        obtain ⟨w3, hw3⟩ : ∃ w3, w3 = (wr.alloc (.cells #[.int .i64 0, .string ⟨#[]⟩, .int .i64 0, .string ⟨#[]⟩, .int .i64 0, .string ⟨#[]⟩] 35)).setRow wr.heap.size (opCs r) := ⟨_, rfl⟩
        have W3 := Lib.hid hw3.symm
        rw [← hw3] at NK BN
        clear hw3
        have M3 := Lib.hid (HS.out.mid HB.out BN.out NK.out)
        have c0 : w3.cell? ⟨wr.heap.size, 0, none⟩ = some (.int .i64 r.x0) := NK.out.cell 0
        clear NK BN HS HB
        by_cases q0 : r.x0 = 0
        · have g0 : (r.x0 == 0) = true := by rw [beq_iff_eq]; exact q0
          clear q0
          go_wp2_with (first
              | (refine Part.wpList_load_part rfl 35 (.tmp 27) rfl b (o + i * 6) (opCs r).toList rfl RP ?_)
              | (refine wpList_store_row rfl 35 (.tmp 6) (.tmp 28) rfl wr.heap.size (opCs r) rfl rfl 35 _ J (by kernel_rfl) rfl one.out ?_; rw [W3.out]; clear J RP))
          clear c0 g0
          obtain ⟨R2, hR2⟩ : ∃ R2, addL ts r.x1 r.x2 r.x3 r.x4 = R2 := ⟨_, rfl⟩
          obtain ⟨er, her⟩ : ∃ er, addE ts r.x1 r.x2 r.x3 r.x4 = er := ⟨_, rfl⟩
          have HR2 := Lib.hid hR2
          have HER := Lib.hid her
          clear hR2 her
          obtain ⟨I, hIe⟩ : ∃ I : (Nat → Bool) → World → Prop, I = fun L V => Mid w w1.heap.size w2.heap.size wr.heap.size r (if L 3 = true then R2 else ts) (if L 7 = true then R2 else ts) V := ⟨_, rfl⟩
          have BX : Hid (∀ {L : Nat → Bool} V, I L V → Blk V wr.heap.size 35 (opCs r)) := Lib.hid (by
            subst hIe
            exact fun V hV => hV.box)
          have KP : Hid (∀ L i V, i ≠ 3 → i ≠ 7 → I L V → I (FreeI.mark L i) V) := Lib.hid (by
            subst hIe
            intro L i V hi hj h
            show Mid w w1.heap.size w2.heap.size wr.heap.size r (if FreeI.mark L i 3 = true then R2 else ts) (if FreeI.mark L i 7 = true then R2 else ts) V
            unfold FreeI.mark
            rw [if_neg (Ne.symm hi), if_neg (Ne.symm hj)]
            exact h)
          refine FreeI.wp_region_freeI [0, 1, 2, 3, 4, 5, 6, 7] 8 [] [] I (fun k' v => match k' with
            | 0 => v = .pointer (some ⟨w1.heap.size, 0, none⟩)
            | 1 => v = .pointer (some ⟨wr.heap.size, 1, none⟩)
            | 2 => v = .agg (RA (routeOf r))
            | 3 => v = .int .i64 er
            | 4 => v = .pointer (some ⟨w2.heap.size, 0, none⟩)
            | 5 => v = .pointer (some ⟨wr.heap.size, 1, none⟩)
            | 6 => v = .agg (RA (routeOf r))
            | _ => v = .int .i64 er) (by kernel_rfl) (by kernel_rfl) (fun q hq => by cases hq) (fun L hL => ?_) (fun _ _ _ _ _ h => h) ?_ _ (by rfl) ?_
          · rw [hIe]
            show Mid w w1.heap.size w2.heap.size wr.heap.size r (if L 3 = true then R2 else ts) (if L 7 = true then R2 else ts) w3.drew
            rw [hL 3 (by simp), hL 7 (by simp)]
            exact M3.out.up (Below.refl w3.heap.size w3).drew
          · refine (FreeI.obsI_cons (by rfl) (fun vals w' L hI hL hdep K hK => ?_) (FreeI.obsI_cons (by rfl) (fun vals w' L hI hL hdep K hK => ?_) (FreeI.obsI_cons (by rfl) (fun vals w' L hI hL hdep K hK => ?_) (FreeI.obsI_cons (by rfl) (fun vals w' L hI hL hdep K hK => ?_) (FreeI.obsI_cons (by rfl) (fun vals w' L hI hL hdep K hK => ?_) (FreeI.obsI_cons (by rfl) (fun vals w' L hI hL hdep K hK => ?_) (FreeI.obsI_cons (by rfl) (fun vals w' L hI hL hdep K hK => ?_) (FreeI.obsI_cons (by rfl) (fun vals w' L hI hL hdep K hK => ?_) FreeI.obsI_nil))))))))
            · exact wp_move (.tmp 3) rfl _ (at_out _ (by kernel_rfl) rfl) (hK _ _ (KP.out L 0 _ (by decide) (by decide) hI) rfl)
            · exact wp_field (.tmp 6) rfl _ _ (at_out _ (by kernel_rfl) rfl) (by kernel_rfl) (hK _ _ (KP.out L 1 _ (by decide) (by decide) hI) rfl)
            · exact st_load_part 33 (.tmp 56) rfl wr.heap.size 1 (routeOf r).cells ((at_dst 1 (by kernel_rfl)).trans (hdep 1 (by simp) (by kernel_rfl)).2) (load_routeO (BX.out w' hI)) (hK _ _ (KP.out L 2 _ (by decide) (by decide) hI) rfl)
            · have hT : Mid w w1.heap.size w2.heap.size wr.heap.size r ts (if L 7 = true then R2 else ts) w' := by
                have := hI
                rw [hIe] at this
                simp only [hL, Bool.false_eq_true, if_false] at this
                exact this
              have hC := hT.sadd FIT.out
              rw [HR2.out, HER.out] at hC
              refine wp_call 10 [.tmp 55, .tmp 57] _ rfl ent_sAdd [.pointer (some ⟨w1.heap.size, 0, none⟩), .agg (RA (routeOf r))] (Draw.list2 ((at_dst 0 (by kernel_rfl)).trans (hdep 0 (by simp) (by kernel_rfl)).2) ((at_dst 2 (by kernel_rfl)).trans (hdep 2 (by simp) (by kernel_rfl)).2)) (fun v w'' => v = .int .i64 er ∧ I (FreeI.mark L 3) w'') (hC.mono fun e w'' ⟨h1, h2⟩ => ⟨_, h1, rfl, ?_⟩) (fun v w'' ⟨h1, h2⟩ => hK _ _ h2 h1)
              rw [hIe]
              show Mid w w1.heap.size w2.heap.size wr.heap.size r (if FreeI.mark L 3 3 = true then R2 else ts) (if FreeI.mark L 3 7 = true then R2 else ts) w''
              simpa [FreeI.mark] using h2
            · exact wp_move (.tmp 4) rfl _ (at_out _ (by kernel_rfl) rfl) (hK _ _ (KP.out L 4 _ (by decide) (by decide) hI) rfl)
            · exact wp_field (.tmp 6) rfl _ _ (at_out _ (by kernel_rfl) rfl) (by kernel_rfl) (hK _ _ (KP.out L 5 _ (by decide) (by decide) hI) rfl)
            · exact st_load_part 33 (.tmp 60) rfl wr.heap.size 1 (routeOf r).cells ((at_dst 5 (by kernel_rfl)).trans (hdep 5 (by simp) (by kernel_rfl)).2) (load_routeO (BX.out w' hI)) (hK _ _ (KP.out L 6 _ (by decide) (by decide) hI) rfl)
            · have hT : Mid w w1.heap.size w2.heap.size wr.heap.size r (if L 3 = true then R2 else ts) ts w' := by
                have := hI
                rw [hIe] at this
                simp only [hL, Bool.false_eq_true, if_false] at this
                exact this
              have hC := hT.xadd FIT.out
              rw [HR2.out, HER.out] at hC
              refine wp_call 11 [.tmp 59, .tmp 61] _ rfl ent_xAdd [.pointer (some ⟨w2.heap.size, 0, none⟩), .agg (RA (routeOf r))] (Draw.list2 ((at_dst 4 (by kernel_rfl)).trans (hdep 4 (by simp) (by kernel_rfl)).2) ((at_dst 6 (by kernel_rfl)).trans (hdep 6 (by simp) (by kernel_rfl)).2)) (fun v w'' => v = .int .i64 er ∧ I (FreeI.mark L 7) w'') (hC.mono fun e w'' ⟨h1, h2⟩ => ⟨_, h1, rfl, ?_⟩) (fun v w'' ⟨h1, h2⟩ => hK _ _ h2 h1)
              rw [hIe]
              show Mid w w1.heap.size w2.heap.size wr.heap.size r (if FreeI.mark L 7 3 = true then R2 else ts) (if FreeI.mark L 7 7 = true then R2 else ts) w''
              simpa [FreeI.mark] using h2
          · intro vals w' L hI hL hV
            have MM : Mid w w1.heap.size w2.heap.size wr.heap.size r R2 R2 w' := by
              have := hI
              rw [hIe] at this
              rw [hL 3 (by simp), hL 7 (by simp)] at this
              exact this
            have M5 := Lib.hid MM
            refine wp_bin (.tmp 58) (.tmp 62) rfl _ _ _ ((at_dst 3 (by kernel_rfl)).trans (hV 3 (by simp))) ((at_dst 7 (by kernel_rfl)).trans (hV 7 (by simp))) (b_neqE _ _ _ _ _) (wpAnyH_done (by kernel_rfl) ?_ _)
            clear hI hL hV MM KP BX hIe M3 HR2 HER
            simp only [fill, dstAt, List.getElem?_cons_zero, List.getElem?_cons_succ, Option.bind_some, Act.put, List.setIfInBounds_toArray, List.set_cons_zero, List.set_cons_succ]
            generalize vals 0 = z0, vals 1 = z1, vals 2 = z2, vals 3 = z3, vals 4 = z4, vals 5 = z5, vals 6 = z6, vals 7 = z7 at *
            generalize w' = w5 at *
            have en : (er != er) = false := by simp
            go_wp2_with fail
            have LEN : R2.length ≤ 64 := (solo_tab M5.out.two.fst).2
            refine wp_region_free [0, 1, 2, 3, 4, 5, 6] 7 [] (fun w1 w2 => Below w1.heap.size w1 w2) (fun k' w' v => match k' with
              | 0 => v = .pointer (some ⟨w1.heap.size, 0, none⟩)
              | 1 => ∃ A c, v = .slice A R2.length c ∧ RouteRows w' A R2.length R2
              | 2 => v = .pointer (some ⟨w2.heap.size, 0, none⟩)
              | 3 => v = .pointer (some ⟨w2.heap.size, 0, none⟩)
              | 4 => v = .pointer (some ⟨w2.heap.size, 0, none⟩)
              | 5 => ∃ A c, v = .slice A R2.length c ∧ RouteRows w' A R2.length R2
              | _ => v = .bool true) (by kernel_rfl) (by kernel_rfl) (Below.refl _ _) (fun _ _ _ h k => h.trans (k.mono h.size)) (fun k' w1 w2 v h => match k' with
              | 0 => fun x => x
              | 1 => fun ⟨A, c, e, q⟩ => ⟨A, c, e, LawDoesE.rows_below q h⟩
              | 2 => fun x => x
              | 3 => fun x => x
              | 4 => fun x => x
              | 5 => fun ⟨A, c, e, q⟩ => ⟨A, c, e, LawDoesE.rows_below q h⟩
              | _ + 6 => fun x => x) (fun _ _ _ _ _ h => h) ?_ _ (by rfl) ?_
            · refine obs_cons (by rfl) (fun vals w' hgr hdep K hK => ?_) (obs_cons (by rfl) (fun vals w' hgr hdep K hK => ?_) (obs_cons (by rfl) (fun vals w' hgr hdep K hK => ?_) (obs_cons (by rfl) (fun vals w' hgr hdep K hK => ?_) (obs_cons (by rfl) (fun vals w' hgr hdep K hK => ?_) (obs_cons (by rfl) (fun vals w' hgr hdep K hK => ?_) (obs_cons (by rfl) (fun vals w' hgr hdep K hK => ?_) obs_nil))))))
              · exact wp_move (.tmp 3) rfl _ (at_out _ (by kernel_rfl) rfl) (hK _ _ (Below.refl _ _) rfl)
              · exact wp_call 17 [.tmp 77] _ rfl ent_sList [.pointer (some ⟨w1.heap.size, 0, none⟩)] (Draw.list1 ((at_dst 0 (by kernel_rfl)).trans (hdep 0 (by simp) (by kernel_rfl)))) (fun v w'' => Below w'.heap.size w' w'' ∧ ∃ A c, v = .slice A R2.length c ∧ RouteRows w'' A R2.length R2) ((M5.out.up (Draw.below_1 hgr)).slist.mono fun e w'' ⟨⟨A, h1, h2⟩, h3⟩ => ⟨_, h1, h3, A, _, rfl, h2⟩) (fun v w'' ⟨h1, h2⟩ => hK _ _ h1 h2)
              · exact wp_move (.tmp 4) rfl _ (at_out _ (by kernel_rfl) rfl) (hK _ _ (Below.refl _ _) rfl)
              · exact MapS.st_nil (.tmp 79) rfl ⟨w2.heap.size, 0, none⟩ ((at_dst 2 (by kernel_rfl)).trans (hdep 2 (by simp) (by kernel_rfl))) (hK _ _ (Below.refl _ _) rfl)
              · exact wp_field (.tmp 80) rfl _ _ ((at_dst 3 (by kernel_rfl)).trans (hdep 3 (by simp) (by kernel_rfl))) (by kernel_rfl) (hK _ _ (Below.refl _ _) rfl)
              · obtain ⟨A, c, hc, hr⟩ := (M5.out.up (Draw.below_1 hgr)).xrow
                exact wp_load1 (.tmp 81) rfl ⟨w2.heap.size, 0, none⟩ ((at_dst 4 (by kernel_rfl)).trans (hdep 4 (by simp) (by kernel_rfl))) Try.underlying27 rfl _ hc (hK _ _ (Below.refl _ _) ⟨A, c, rfl, hr⟩)
              · obtain ⟨A, c, e1, r1⟩ := hdep 1 (by simp) (by kernel_rfl)
                obtain ⟨A', c', e2, r2⟩ := hdep 5 (by simp) (by kernel_rfl)
                exact wp_call 16 [.tmp 78, .tmp 82] _ rfl ent_same [.slice A R2.length c, .slice A' R2.length c'] (Draw.list2 ((at_dst 1 (by kernel_rfl)).trans e1) ((at_dst 5 (by kernel_rfl)).trans e2)) (fun v w'' => Below w'.heap.size w' w'' ∧ v = .bool true) ((same_routes A _ c R2 A' _ c' R2 w' r1 r2 (by omega) (by omega)).mono fun e w'' ⟨rv, h1, h2, h3⟩ => ⟨_, h1, h3, by rw [h2.2 rfl]⟩) (fun v w'' ⟨h1, h2⟩ => hK _ _ h1 h2)
            · intro vals w' hgr hG
              have M6 := Lib.hid (M5.out.up (Draw.below_1 hgr))
              refine st_not (.tmp 83) rfl true ((at_dst 6 (by kernel_rfl)).trans (hG 6 (by simp))) (wpAnyH_done (by kernel_rfl) ?_ _)
              clear hgr hG M5
              simp only [fill, dstAt, List.getElem?_cons_zero, List.getElem?_cons_succ, Option.bind_some, Act.put, List.setIfInBounds_toArray, List.set_cons_zero, List.set_cons_succ]
              generalize vals 0 = z0, vals 1 = z1, vals 2 = z2, vals 3 = z3, vals 4 = z4, vals 5 = z5, vals 6 = z6 at *
              generalize w' = w6 at *
              go_wp2_with fail
              go_roundw
              case rel => exact ⟨i + 1, R2, by go_num, by omega, Lib.hid M6.out.both, Lib.hid M6.out.bel⟩
              case measure => simp [intOf]; omega
        · have g0 : (r.x0 == 0) = false := by rw [beq_eq_false_iff_ne]; exact q0
          by_cases q1 : r.x0 = 1
          · have g1 : (r.x0 == 1) = true := by rw [beq_iff_eq]; exact q1
            clear q0 q1
            go_wp2_with (first
              | (refine Part.wpList_load_part rfl 35 (.tmp 27) rfl b (o + i * 6) (opCs r).toList rfl RP ?_)
              | (refine wpList_store_row rfl 35 (.tmp 6) (.tmp 28) rfl wr.heap.size (opCs r) rfl rfl 35 _ J (by kernel_rfl) rfl one.out ?_; rw [W3.out]; clear J RP))
            clear c0 g0 g1
            obtain ⟨R2, hR2⟩ : ∃ R2, remL ts r.x1 r.x2 = R2 := ⟨_, rfl⟩
            obtain ⟨er, her⟩ : ∃ er, remE ts r.x1 r.x2 = er := ⟨_, rfl⟩
            have HR2 := Lib.hid hR2
            have HER := Lib.hid her
            clear hR2 her
            obtain ⟨I, hIe⟩ : ∃ I : (Nat → Bool) → World → Prop, I = fun L V => Mid w w1.heap.size w2.heap.size wr.heap.size r (if L 4 = true then R2 else ts) (if L 9 = true then R2 else ts) V := ⟨_, rfl⟩
            have BX : Hid (∀ {L : Nat → Bool} V, I L V → Blk V wr.heap.size 35 (opCs r)) := Lib.hid (by
              subst hIe
              exact fun V hV => hV.box)
            have KP : Hid (∀ L i V, i ≠ 4 → i ≠ 9 → I L V → I (FreeI.mark L i) V) := Lib.hid (by
              subst hIe
              intro L i V hi hj h
              show Mid w w1.heap.size w2.heap.size wr.heap.size r (if FreeI.mark L i 4 = true then R2 else ts) (if FreeI.mark L i 9 = true then R2 else ts) V
              unfold FreeI.mark
              rw [if_neg (Ne.symm hi), if_neg (Ne.symm hj)]
              exact h)
            refine FreeI.wp_region_freeI [0, 1, 2, 3, 4, 5, 6, 7, 8, 9] 10 [] [] I (fun k' v => match k' with
              | 0 => v = .pointer (some ⟨w1.heap.size, 0, none⟩)
              | 1 => v = .pointer (some ⟨wr.heap.size, 1, none⟩)
              | 2 => v = .pointer (some ⟨wr.heap.size, 1, none⟩)
              | 3 => v = .agg #[.string r.x1, .int .i64 r.x2]
              | 4 => v = .int .i64 er
              | 5 => v = .pointer (some ⟨w2.heap.size, 0, none⟩)
              | 6 => v = .pointer (some ⟨wr.heap.size, 1, none⟩)
              | 7 => v = .pointer (some ⟨wr.heap.size, 1, none⟩)
              | 8 => v = .agg #[.string r.x1, .int .i64 r.x2]
              | _ => v = .int .i64 er) (by kernel_rfl) (by kernel_rfl) (fun q hq => by cases hq) (fun L hL => ?_) (fun _ _ _ _ _ h => h) ?_ _ (by rfl) ?_
            · rw [hIe]
              show Mid w w1.heap.size w2.heap.size wr.heap.size r (if L 4 = true then R2 else ts) (if L 9 = true then R2 else ts) w3.drew
              rw [hL 4 (by simp), hL 9 (by simp)]
              exact M3.out.up (Below.refl w3.heap.size w3).drew
            · refine (FreeI.obsI_cons (by rfl) (fun vals w' L hI hL hdep K hK => ?_) (FreeI.obsI_cons (by rfl) (fun vals w' L hI hL hdep K hK => ?_) (FreeI.obsI_cons (by rfl) (fun vals w' L hI hL hdep K hK => ?_) (FreeI.obsI_cons (by rfl) (fun vals w' L hI hL hdep K hK => ?_) (FreeI.obsI_cons (by rfl) (fun vals w' L hI hL hdep K hK => ?_) (FreeI.obsI_cons (by rfl) (fun vals w' L hI hL hdep K hK => ?_) (FreeI.obsI_cons (by rfl) (fun vals w' L hI hL hdep K hK => ?_) (FreeI.obsI_cons (by rfl) (fun vals w' L hI hL hdep K hK => ?_) (FreeI.obsI_cons (by rfl) (fun vals w' L hI hL hdep K hK => ?_) (FreeI.obsI_cons (by rfl) (fun vals w' L hI hL hdep K hK => ?_) FreeI.obsI_nil))))))))))
              · exact wp_move (.tmp 3) rfl _ (at_out _ (by kernel_rfl) rfl) (hK _ _ (KP.out L 0 _ (by decide) (by decide) hI) rfl)
              · exact wp_field (.tmp 6) rfl _ _ (at_out _ (by kernel_rfl) rfl) (by kernel_rfl) (hK _ _ (KP.out L 1 _ (by decide) (by decide) hI) rfl)
              · exact wp_field (.tmp 67) rfl _ _ ((at_dst 1 (by kernel_rfl)).trans (hdep 1 (by simp) (by kernel_rfl)).2) (by kernel_rfl) (hK _ _ (KP.out L 2 _ (by decide) (by decide) hI) rfl)
              · exact st_load_part 31 (.tmp 68) rfl wr.heap.size 1 [.string r.x1, .int .i64 r.x2] ((at_dst 2 (by kernel_rfl)).trans (hdep 2 (by simp) (by kernel_rfl)).2) (load_prefO (BX.out w' hI)) (hK _ _ (KP.out L 3 _ (by decide) (by decide) hI) rfl)
              · have hT : Mid w w1.heap.size w2.heap.size wr.heap.size r ts (if L 9 = true then R2 else ts) w' := by
                  have := hI
                  rw [hIe] at this
                  simp only [hL, Bool.false_eq_true, if_false] at this
                  exact this
                have hC := hT.srem FIT.out
                rw [HR2.out, HER.out] at hC
                refine wp_call 12 [.tmp 66, .tmp 69] _ rfl ent_sRemove [.pointer (some ⟨w1.heap.size, 0, none⟩), .agg #[.string r.x1, .int .i64 r.x2]] (Draw.list2 ((at_dst 0 (by kernel_rfl)).trans (hdep 0 (by simp) (by kernel_rfl)).2) ((at_dst 3 (by kernel_rfl)).trans (hdep 3 (by simp) (by kernel_rfl)).2)) (fun v w'' => v = .int .i64 er ∧ I (FreeI.mark L 4) w'') (hC.mono fun e w'' ⟨h1, h2⟩ => ⟨_, h1, rfl, ?_⟩) (fun v w'' ⟨h1, h2⟩ => hK _ _ h2 h1)
                rw [hIe]
                show Mid w w1.heap.size w2.heap.size wr.heap.size r (if FreeI.mark L 4 4 = true then R2 else ts) (if FreeI.mark L 4 9 = true then R2 else ts) w''
                simpa [FreeI.mark] using h2
              · exact wp_move (.tmp 4) rfl _ (at_out _ (by kernel_rfl) rfl) (hK _ _ (KP.out L 5 _ (by decide) (by decide) hI) rfl)
              · exact wp_field (.tmp 6) rfl _ _ (at_out _ (by kernel_rfl) rfl) (by kernel_rfl) (hK _ _ (KP.out L 6 _ (by decide) (by decide) hI) rfl)
              · exact wp_field (.tmp 72) rfl _ _ ((at_dst 6 (by kernel_rfl)).trans (hdep 6 (by simp) (by kernel_rfl)).2) (by kernel_rfl) (hK _ _ (KP.out L 7 _ (by decide) (by decide) hI) rfl)
              · exact st_load_part 31 (.tmp 73) rfl wr.heap.size 1 [.string r.x1, .int .i64 r.x2] ((at_dst 7 (by kernel_rfl)).trans (hdep 7 (by simp) (by kernel_rfl)).2) (load_prefO (BX.out w' hI)) (hK _ _ (KP.out L 8 _ (by decide) (by decide) hI) rfl)
              · have hT : Mid w w1.heap.size w2.heap.size wr.heap.size r (if L 4 = true then R2 else ts) ts w' := by
                  have := hI
                  rw [hIe] at this
                  simp only [hL, Bool.false_eq_true, if_false] at this
                  exact this
                have hC := hT.xrem FIT.out
                rw [HR2.out, HER.out] at hC
                refine wp_call 13 [.tmp 71, .tmp 74] _ rfl ent_xRemove [.pointer (some ⟨w2.heap.size, 0, none⟩), .agg #[.string r.x1, .int .i64 r.x2]] (Draw.list2 ((at_dst 5 (by kernel_rfl)).trans (hdep 5 (by simp) (by kernel_rfl)).2) ((at_dst 8 (by kernel_rfl)).trans (hdep 8 (by simp) (by kernel_rfl)).2)) (fun v w'' => v = .int .i64 er ∧ I (FreeI.mark L 9) w'') (hC.mono fun e w'' ⟨h1, h2⟩ => ⟨_, h1, rfl, ?_⟩) (fun v w'' ⟨h1, h2⟩ => hK _ _ h2 h1)
                rw [hIe]
                show Mid w w1.heap.size w2.heap.size wr.heap.size r (if FreeI.mark L 9 4 = true then R2 else ts) (if FreeI.mark L 9 9 = true then R2 else ts) w''
                simpa [FreeI.mark] using h2
            · intro vals w' L hI hL hV
              have MM : Mid w w1.heap.size w2.heap.size wr.heap.size r R2 R2 w' := by
                have := hI
                rw [hIe] at this
                rw [hL 4 (by simp), hL 9 (by simp)] at this
                exact this
              have M5 := Lib.hid MM
              refine wp_bin (.tmp 70) (.tmp 75) rfl _ _ _ ((at_dst 4 (by kernel_rfl)).trans (hV 4 (by simp))) ((at_dst 9 (by kernel_rfl)).trans (hV 9 (by simp))) (b_neqE _ _ _ _ _) (wpAnyH_done (by kernel_rfl) ?_ _)
              clear hI hL hV MM KP BX hIe M3 HR2 HER
              simp only [fill, dstAt, List.getElem?_cons_zero, List.getElem?_cons_succ, Option.bind_some, Act.put, List.setIfInBounds_toArray, List.set_cons_zero, List.set_cons_succ]
              generalize vals 0 = z0, vals 1 = z1, vals 2 = z2, vals 3 = z3, vals 4 = z4, vals 5 = z5, vals 6 = z6, vals 7 = z7, vals 8 = z8, vals 9 = z9 at *
              generalize w' = w5 at *
              have en : (er != er) = false := by simp
              go_wp2_with fail
              have LEN : R2.length ≤ 64 := (solo_tab M5.out.two.fst).2
              refine wp_region_free [0, 1, 2, 3, 4, 5, 6] 7 [] (fun w1 w2 => Below w1.heap.size w1 w2) (fun k' w' v => match k' with
                | 0 => v = .pointer (some ⟨w1.heap.size, 0, none⟩)
                | 1 => ∃ A c, v = .slice A R2.length c ∧ RouteRows w' A R2.length R2
                | 2 => v = .pointer (some ⟨w2.heap.size, 0, none⟩)
                | 3 => v = .pointer (some ⟨w2.heap.size, 0, none⟩)
                | 4 => v = .pointer (some ⟨w2.heap.size, 0, none⟩)
                | 5 => ∃ A c, v = .slice A R2.length c ∧ RouteRows w' A R2.length R2
                | _ => v = .bool true) (by kernel_rfl) (by kernel_rfl) (Below.refl _ _) (fun _ _ _ h k => h.trans (k.mono h.size)) (fun k' w1 w2 v h => match k' with
                | 0 => fun x => x
                | 1 => fun ⟨A, c, e, q⟩ => ⟨A, c, e, LawDoesE.rows_below q h⟩
                | 2 => fun x => x
                | 3 => fun x => x
                | 4 => fun x => x
                | 5 => fun ⟨A, c, e, q⟩ => ⟨A, c, e, LawDoesE.rows_below q h⟩
                | _ + 6 => fun x => x) (fun _ _ _ _ _ h => h) ?_ _ (by rfl) ?_
              · refine obs_cons (by rfl) (fun vals w' hgr hdep K hK => ?_) (obs_cons (by rfl) (fun vals w' hgr hdep K hK => ?_) (obs_cons (by rfl) (fun vals w' hgr hdep K hK => ?_) (obs_cons (by rfl) (fun vals w' hgr hdep K hK => ?_) (obs_cons (by rfl) (fun vals w' hgr hdep K hK => ?_) (obs_cons (by rfl) (fun vals w' hgr hdep K hK => ?_) (obs_cons (by rfl) (fun vals w' hgr hdep K hK => ?_) obs_nil))))))
                · exact wp_move (.tmp 3) rfl _ (at_out _ (by kernel_rfl) rfl) (hK _ _ (Below.refl _ _) rfl)
                · exact wp_call 17 [.tmp 77] _ rfl ent_sList [.pointer (some ⟨w1.heap.size, 0, none⟩)] (Draw.list1 ((at_dst 0 (by kernel_rfl)).trans (hdep 0 (by simp) (by kernel_rfl)))) (fun v w'' => Below w'.heap.size w' w'' ∧ ∃ A c, v = .slice A R2.length c ∧ RouteRows w'' A R2.length R2) ((M5.out.up (Draw.below_1 hgr)).slist.mono fun e w'' ⟨⟨A, h1, h2⟩, h3⟩ => ⟨_, h1, h3, A, _, rfl, h2⟩) (fun v w'' ⟨h1, h2⟩ => hK _ _ h1 h2)
                · exact wp_move (.tmp 4) rfl _ (at_out _ (by kernel_rfl) rfl) (hK _ _ (Below.refl _ _) rfl)
                · exact MapS.st_nil (.tmp 79) rfl ⟨w2.heap.size, 0, none⟩ ((at_dst 2 (by kernel_rfl)).trans (hdep 2 (by simp) (by kernel_rfl))) (hK _ _ (Below.refl _ _) rfl)
                · exact wp_field (.tmp 80) rfl _ _ ((at_dst 3 (by kernel_rfl)).trans (hdep 3 (by simp) (by kernel_rfl))) (by kernel_rfl) (hK _ _ (Below.refl _ _) rfl)
                · obtain ⟨A, c, hc, hr⟩ := (M5.out.up (Draw.below_1 hgr)).xrow
                  exact wp_load1 (.tmp 81) rfl ⟨w2.heap.size, 0, none⟩ ((at_dst 4 (by kernel_rfl)).trans (hdep 4 (by simp) (by kernel_rfl))) Try.underlying27 rfl _ hc (hK _ _ (Below.refl _ _) ⟨A, c, rfl, hr⟩)
                · obtain ⟨A, c, e1, r1⟩ := hdep 1 (by simp) (by kernel_rfl)
                  obtain ⟨A', c', e2, r2⟩ := hdep 5 (by simp) (by kernel_rfl)
                  exact wp_call 16 [.tmp 78, .tmp 82] _ rfl ent_same [.slice A R2.length c, .slice A' R2.length c'] (Draw.list2 ((at_dst 1 (by kernel_rfl)).trans e1) ((at_dst 5 (by kernel_rfl)).trans e2)) (fun v w'' => Below w'.heap.size w' w'' ∧ v = .bool true) ((same_routes A _ c R2 A' _ c' R2 w' r1 r2 (by omega) (by omega)).mono fun e w'' ⟨rv, h1, h2, h3⟩ => ⟨_, h1, h3, by rw [h2.2 rfl]⟩) (fun v w'' ⟨h1, h2⟩ => hK _ _ h1 h2)
              · intro vals w' hgr hG
                have M6 := Lib.hid (M5.out.up (Draw.below_1 hgr))
                refine st_not (.tmp 83) rfl true ((at_dst 6 (by kernel_rfl)).trans (hG 6 (by simp))) (wpAnyH_done (by kernel_rfl) ?_ _)
                clear hgr hG M5
                simp only [fill, dstAt, List.getElem?_cons_zero, List.getElem?_cons_succ, Option.bind_some, Act.put, List.setIfInBounds_toArray, List.set_cons_zero, List.set_cons_succ]
                generalize vals 0 = z0, vals 1 = z1, vals 2 = z2, vals 3 = z3, vals 4 = z4, vals 5 = z5, vals 6 = z6 at *
                generalize w' = w6 at *
                go_wp2_with fail
                go_roundw
                case rel => exact ⟨i + 1, R2, by go_num, by omega, Lib.hid M6.out.both, Lib.hid M6.out.bel⟩
                case measure => simp [intOf]; omega
          · have g1 : (r.x0 == 1) = false := by rw [beq_eq_false_iff_ne]; exact q1
            have c5 : w3.cell? ⟨wr.heap.size, 5, none⟩ = some (.string r.x5) := M3.out.box.cell 5
            clear q0 q1
            go_wp2_with (first
              | (refine Part.wpList_load_part rfl 35 (.tmp 27) rfl b (o + i * 6) (opCs r).toList rfl RP ?_)
              | (refine wpList_store_row rfl 35 (.tmp 6) (.tmp 28) rfl wr.heap.size (opCs r) rfl rfl 35 _ J (by kernel_rfl) rfl one.out ?_; rw [W3.out]; clear J RP))
            clear c0 g0 g1 c5
            have FC := Lib.hid (M3.out.sfind FIT.out)
            obtain ⟨fr, hfr⟩ : ∃ fr, findR ts r.x5 = fr := ⟨_, rfl⟩
            obtain ⟨fe, hfe⟩ : ∃ fe, findE ts r.x5 = fe := ⟨_, rfl⟩
            rw [hfr, hfe] at FC
            have HFR := Lib.hid hfr
            have HFE := Lib.hid hfe
            clear hfr hfe
            refine FC.out.mono ?_
            rintro e w4 ⟨rfl, hb4⟩
            have M4 := Lib.hid ((M3.out.up hb4).up ((Below.refl w4.heap.size w4).alloc (Nat.le_refl _) (.cells (RA fr) 33)))
            have K4 := Lib.hid (Blk.new w4 33 (RA fr))
            obtain ⟨b7, hb7⟩ : ∃ b7, b7 = w4.heap.size := ⟨_, rfl⟩
            rw [← hb7] at K4
            have c5 : (w4.alloc (.cells (RA fr) 33)).cell? ⟨wr.heap.size, 5, none⟩ = some (.string r.x5) := M4.out.box.cell 5
            clear hb4 FC M3
            go_wp2_with fail
            rw [← hb7]
            clear hb7
            generalize w4.alloc (.cells (RA fr) 33) = w5 at *
            have FC2 := M4.out.xfind
            rw [HFR.out, HFE.out] at FC2
            refine FC2.mono ?_
            rintro e w6 ⟨rfl, hb6⟩
            have M7 := Lib.hid ((M4.out.up hb6).up ((Below.refl w6.heap.size w6).alloc (Nat.le_refl _) (.cells (RA fr) 33)))
            have K7 := Lib.hid (Blk.alloc (K4.out.below hb6 K4.out.lt) (.cells (RA fr) 33))
            have K9 := Lib.hid (Blk.new w6 33 (RA fr))
            obtain ⟨b9, hb9⟩ : ∃ b9, b9 = w6.heap.size := ⟨_, rfl⟩
            rw [← hb9] at K9
            obtain ⟨w7, hw7⟩ : ∃ w7, w7 = w6.alloc (.cells (RA fr) 33) := ⟨_, rfl⟩
            rw [← hw7] at M7 K7 K9
            have HW7 := Lib.hid hw7
            have HB9 := Lib.hid hb9
            have RP7 : (loadVar 33 ⟨b7, 0, none⟩).run Try.prog w7 = .ok (.agg (RA fr)) w7 := blk_load K7.out
            have RP9 : (loadVar 33 ⟨b9, 0, none⟩).run Try.prog w7 = .ok (.agg (RA fr)) w7 := blk_load K9.out
            have NEQ : ∀ W, (binOp .neq 33 (.agg #[.string fr.x0, .int .i64 fr.x1, .string fr.x2, .int .i64 fr.x3]) (.agg #[.string fr.x0, .int .i64 fr.x1, .string fr.x2, .int .i64 fr.x3])).run Try.prog W = .ok (.bool false) W := fun W => by
              rw [run_neq_struct, show (#[.string fr.x0, .int .i64 fr.x1, .string fr.x2, .int .i64 fr.x3] : Array Value) = fr.cells.toArray from rfl, EqR.eq_RouteR fr fr W, (EqR.eqb_Route fr fr).2 rfl]
              rfl
            have en : (fe != fe) = false := by simp
            clear FC2 hb6 hb9 hw7 K4 K7 K9 M4 c5 HFR HFE
            go_wp2_with (first
              | (refine Part.wpList_load_part rfl 33 (.tmp 7) rfl b7 0 [.string fr.x0, .int .i64 fr.x1, .string fr.x2, .int .i64 fr.x3] rfl (by rw [← HW7.out]; exact RP7) ?_)
              | (refine Part.wpList_load_part rfl 33 (.tmp 9) rfl w6.heap.size 0 [.string fr.x0, .int .i64 fr.x1, .string fr.x2, .int .i64 fr.x3] rfl (by rw [← HW7.out, ← HB9.out]; exact RP9) ?_))
            clear NEQ RP7 RP9
            rw [← HW7.out]
            clear HW7
            have LEN : ts.length ≤ 64 := (solo_tab M7.out.two.fst).2
            refine wp_region_free [0, 1, 2, 3, 4, 5, 6] 7 [] (fun w1 w2 => Below w1.heap.size w1 w2) (fun k' w' v => match k' with
              | 0 => v = .pointer (some ⟨w1.heap.size, 0, none⟩)
              | 1 => ∃ A c, v = .slice A ts.length c ∧ RouteRows w' A ts.length ts
              | 2 => v = .pointer (some ⟨w2.heap.size, 0, none⟩)
              | 3 => v = .pointer (some ⟨w2.heap.size, 0, none⟩)
              | 4 => v = .pointer (some ⟨w2.heap.size, 0, none⟩)
              | 5 => ∃ A c, v = .slice A ts.length c ∧ RouteRows w' A ts.length ts
              | _ => v = .bool true) (by kernel_rfl) (by kernel_rfl) (Below.refl _ _) (fun _ _ _ h k => h.trans (k.mono h.size)) (fun k' w1 w2 v h => match k' with
              | 0 => fun x => x
              | 1 => fun ⟨A, c, e, q⟩ => ⟨A, c, e, LawDoesE.rows_below q h⟩
              | 2 => fun x => x
              | 3 => fun x => x
              | 4 => fun x => x
              | 5 => fun ⟨A, c, e, q⟩ => ⟨A, c, e, LawDoesE.rows_below q h⟩
              | _ + 6 => fun x => x) (fun _ _ _ _ _ h => h) ?_ _ (by rfl) ?_
            · refine obs_cons (by rfl) (fun vals w' hgr hdep K hK => ?_) (obs_cons (by rfl) (fun vals w' hgr hdep K hK => ?_) (obs_cons (by rfl) (fun vals w' hgr hdep K hK => ?_) (obs_cons (by rfl) (fun vals w' hgr hdep K hK => ?_) (obs_cons (by rfl) (fun vals w' hgr hdep K hK => ?_) (obs_cons (by rfl) (fun vals w' hgr hdep K hK => ?_) (obs_cons (by rfl) (fun vals w' hgr hdep K hK => ?_) obs_nil))))))
              · exact wp_move (.tmp 3) rfl _ (at_out _ (by kernel_rfl) rfl) (hK _ _ (Below.refl _ _) rfl)
              · exact wp_call 17 [.tmp 77] _ rfl ent_sList [.pointer (some ⟨w1.heap.size, 0, none⟩)] (Draw.list1 ((at_dst 0 (by kernel_rfl)).trans (hdep 0 (by simp) (by kernel_rfl)))) (fun v w'' => Below w'.heap.size w' w'' ∧ ∃ A c, v = .slice A ts.length c ∧ RouteRows w'' A ts.length ts) ((M7.out.up (Draw.below_1 hgr)).slist.mono fun e w'' ⟨⟨A, h1, h2⟩, h3⟩ => ⟨_, h1, h3, A, _, rfl, h2⟩) (fun v w'' ⟨h1, h2⟩ => hK _ _ h1 h2)
              · exact wp_move (.tmp 4) rfl _ (at_out _ (by kernel_rfl) rfl) (hK _ _ (Below.refl _ _) rfl)
              · exact MapS.st_nil (.tmp 79) rfl ⟨w2.heap.size, 0, none⟩ ((at_dst 2 (by kernel_rfl)).trans (hdep 2 (by simp) (by kernel_rfl))) (hK _ _ (Below.refl _ _) rfl)
              · exact wp_field (.tmp 80) rfl _ _ ((at_dst 3 (by kernel_rfl)).trans (hdep 3 (by simp) (by kernel_rfl))) (by kernel_rfl) (hK _ _ (Below.refl _ _) rfl)
              · obtain ⟨A, c, hc, hr⟩ := (M7.out.up (Draw.below_1 hgr)).xrow
                exact wp_load1 (.tmp 81) rfl ⟨w2.heap.size, 0, none⟩ ((at_dst 4 (by kernel_rfl)).trans (hdep 4 (by simp) (by kernel_rfl))) Try.underlying27 rfl _ hc (hK _ _ (Below.refl _ _) ⟨A, c, rfl, hr⟩)
              · obtain ⟨A, c, e1, r1⟩ := hdep 1 (by simp) (by kernel_rfl)
                obtain ⟨A', c', e2, r2⟩ := hdep 5 (by simp) (by kernel_rfl)
                exact wp_call 16 [.tmp 78, .tmp 82] _ rfl ent_same [.slice A ts.length c, .slice A' ts.length c'] (Draw.list2 ((at_dst 1 (by kernel_rfl)).trans e1) ((at_dst 5 (by kernel_rfl)).trans e2)) (fun v w'' => Below w'.heap.size w' w'' ∧ v = .bool true) ((same_routes A _ c ts A' _ c' ts w' r1 r2 (by omega) (by omega)).mono fun e w'' ⟨rv, h1, h2, h3⟩ => ⟨_, h1, h3, by rw [h2.2 rfl]⟩) (fun v w'' ⟨h1, h2⟩ => hK _ _ h1 h2)
            · intro vals w' hgr hG
              have M6 := Lib.hid (M7.out.up (Draw.below_1 hgr))
              refine st_not (.tmp 83) rfl true ((at_dst 6 (by kernel_rfl)).trans (hG 6 (by simp))) (wpAnyH_done (by kernel_rfl) ?_ _)
              clear hgr hG M7
              simp only [fill, dstAt, List.getElem?_cons_zero, List.getElem?_cons_succ, Option.bind_some, Act.put, List.setIfInBounds_toArray, List.set_cons_zero, List.set_cons_succ]
              generalize vals 0 = z0, vals 1 = z1, vals 2 = z2, vals 3 = z3, vals 4 = z4, vals 5 = z5, vals 6 = z6 at *
              generalize w' = w6 at *
              go_wp2_with fail
              go_roundw
              case rel => exact ⟨i + 1, ts, by go_num, by omega, Lib.hid M6.out.both, Lib.hid M6.out.bel⟩
              case measure => simp [intOf]; omega
      · obtain rfl : i = n := by omega
        go_wp2_with fail
        refine (awake_any _).mono ?_
        rintro e w6 ⟨rfl, hb6⟩
        have B6 := Lib.hid (HB.out.trans (hb6.mono HB.out.size))
        clear hb6 HS HB
        go_wp2_with fail
        go_ret
        exact ⟨rfl, B6.out⟩
end Go.Proofs.Ytnabjhdamofpgaa.LawDoes18
