/- The document's place. -/
import Derived.Test.YtnabjhdamofpgaaTabR1
import Derived.Test.YtnabjhdamofpgaaTabOps
import Derived.BigQuiet
import Derived.Deep.QuietTactic
set_option linter.unusedVariables false
namespace Go.Proofs.Ytnabjhdamofpgaa.TabR2
open Go.RowKit Go.PlainAid Go.Proofs.Ytnabjhdamofpgaa.Sums Go.Proofs.Ytnabjhdamofpgaa.Mem Go.Proofs.Ytnabjhdamofpgaa.Blk Go.Proofs.Ytnabjhdamofpgaa.Grp Go.Proofs.Ytnabjhdamofpgaa.AdrD Go.Proofs.Ytnabjhdamofpgaa.AdrR Go.Proofs.Ytnabjhdamofpgaa.Steps Go.Proofs.Ytnabjhdamofpgaa.Com Go.Proofs.Ytnabjhdamofpgaa.RowN Go.Proofs.Ytnabjhdamofpgaa.RowA Go.Proofs.Ytnabjhdamofpgaa.ArgT Go.Proofs.Ytnabjhdamofpgaa.TabD Go.Proofs.Ytnabjhdamofpgaa.TabR1 Go.Proofs.Ytnabjhdamofpgaa.TabOps Go.Proofs.Ytnabjhdamofpgaa.Free

theorem ent_ahead : Enters Try.prog 46 := enters_of Try.func46 (by kernel_rfl) rfl
theorem there_at {rs : List RouteR} {a : ByteArray} {m : Int} {i : Nat} {r : RouteR} (hp : placeN rs a m = i) (hr : rs[i]? = some r) : thereB rs a m = (decide (r.x0 = a) && decide (r.x1 = m)) := by
  unfold thereB
  rw [hp, hr]
theorem there_no {rs : List RouteR} {a : ByteArray} {m : Int} (hp : placeN rs a m = rs.length) : thereB rs a m = false := by
  unfold thereB
  rw [hp, List.getElem?_eq_none (Nat.le_refl _)]
set_option maxRecDepth 100000 in
set_option maxHeartbeats 8000000 in
theorem place_row (g : Nat) (A : Option Addr) (n c : Nat) (rs : List RouteR) (a : ByteArray) (m : Int) (w : World) (hg : Blk w g 29 #[.slice A n c]) (hrow : RowAt RT 4 w A n c (rs.flatMap RouteR.cells)) (hn : rs.length = n) (hm : n ≤ 64) (ok : ∀ r ∈ rs, Ok r) (ha : a.size ≤ 300) :
    Calls Try.prog 29 #[.pointer (some ⟨g, 0, none⟩), .agg #[.string a, .int .i64 m]] w fun e w' => e = .returned (.tuple #[.int .i64 ((placeN rs a m : Nat) : Int), .bool (thereB rs a m)]) ∧ Below w.heap.size w w' := by
  have B0 := Lib.hid ((Below.refl w.heap.size w).alloc (Nat.le_refl _) (.cells #[.string a, .int .i64 m] 31))
  have KP0 := Lib.hid (Blk.new w 31 #[.string a, .int .i64 m])
  have KT0 := Lib.hid (hg.below ((Below.refl w.heap.size w).alloc (Nat.le_refl _) (.cells #[.string a, .int .i64 m] 31)) hg.lt)
  have RW0 := Lib.hid (hrow.below ((Below.refl w.heap.size w).alloc (Nat.le_refl _) (.cells #[.string a, .int .i64 m] 31)))
  have RN := Lib.hid hn
  have OK := Lib.hid ok
  clear hg hrow hn ok
  go_enter Try.func29, Try.ntmps29
  go_wp2_with fail
  obtain ⟨w1, hw1⟩ : ∃ w1, w1 = w.alloc (.cells #[.string a, .int .i64 m] 31) := ⟨_, rfl⟩
  rw [← hw1] at KP0 KT0 RW0 B0 ⊢
  clear hw1
  obtain ⟨gp, hgp⟩ : ∃ gp, gp = w.heap.size := ⟨_, rfl⟩
  rw [← hgp] at KP0 ⊢
  clear hgp
  have KP := KP0
  have KT := KT0
  have RW := RW0
  clear KP0 KT0 RW0
  go_loopw [6] (fun iv wr => ∃ i : Nat, iv = .int .i64 (i : Int) ∧ i ≤ n ∧ Hid (∀ (k : Nat) (r : RouteR), k < i → rs[k]? = some r → aheadB r.x0 r.x1 a m = true) ∧ Hid (Below w1.heap.size w1 wr)) (fun iv _ => n - (intOf iv).toNat)
  case atStart => exact ⟨0, rfl, by omega, Lib.hid fun k r hk => absurd hk (by omega), Lib.hid (Below.refl _ _)⟩
  case round =>
    obtain ⟨i, rfl, hi, HS, HB⟩ := hrel
    by_cases hlt : i < n
    · obtain ⟨b, X, rfl, -, -, -⟩ := RW.out.some (by omega)
      have hr : rs[i]? = some (rs[i]'(by rw [RN.out]; exact hlt)) := List.getElem?_eq_getElem _
      generalize rs[i]'(by rw [RN.out]; exact hlt) = r at hr
      have HR := Lib.hid hr
      have LT := Lib.hid hlt
      have okr := OK.out r (List.mem_of_getElem? hr)
      obtain ⟨z, hz⟩ : ∃ z, aheadB r.x0 r.x1 a m = z := ⟨_, rfl⟩
      have AH := Lib.hid (fun W => ahead_ref r.x0 a r.x1 m (by have := okr.1; omega) ha W)
      rw [hz] at AH
      have HZ := Lib.hid hz
      clear hr okr hz
      have KTr := Lib.hid (KT.out.below HB.out KT.out.lt)
      have KPr := Lib.hid (KP.out.below HB.out KP.out.lt)
      have XT : Hid (∀ V, Below wr.drew.heap.size wr.drew V → Blk V g 29 #[.slice (some ⟨b, 0, none⟩) n c]) := Lib.hid fun V hV => Blk.below (show Blk wr.drew g 29 _ from KTr.out) hV (Blk.lt KTr.out)
      have XP : Hid (∀ V, Below wr.drew.heap.size wr.drew V → Blk V gp 31 #[.string a, .int .i64 m]) := Lib.hid fun V hV => Blk.below (show Blk wr.drew gp 31 _ from KPr.out) hV (Blk.lt KPr.out)
      have XR : Hid (∀ V, Below wr.drew.heap.size wr.drew V → Part.At V b (0 + i * 4) r.cells) := Lib.hid fun V hV => by
        rw [Nat.zero_add]
        exact row_route (RW.out.below (HB.out.trans ((Draw.below_1 hV).mono HB.out.size))) HR.out
      go_wp2_with fail
      refine wp_region_freeP [0, 1, 2, 3, 4, 5, 6, 7, 8, 9, 10, 11, 12, 13, 14, 15, 16, 17] 18 [] [(7, true)] (fun w1 w2 => Below w1.heap.size w1 w2) (fun k' w' v => match k' with
        | 0 => v = .int .i64 (((i : Nat) : Int))
        | 1 => v = .pointer (some ⟨g, 0, none⟩)
        | 2 => v = .pointer (some ⟨g, 0, none⟩)
        | 3 => v = .pointer (some ⟨g, 0, none⟩)
        | 4 => v = .slice (some ⟨b, 0, none⟩) n c
        | 5 => v = .int .i64 (((n : Nat) : Int))
        | 6 => v = .bool true
        | 7 => v = .bool true
        | 8 => v = .pointer (some ⟨g, 0, none⟩)
        | 9 => v = .pointer (some ⟨g, 0, none⟩)
        | 10 => v = .pointer (some ⟨g, 0, none⟩)
        | 11 => v = .slice (some ⟨b, 0, none⟩) n c
        | 12 => v = .int .i64 (((i : Nat) : Int))
        | 13 => v = .pointer (some ⟨b, 0 + i * 4, none⟩)
        | 14 => v = .pointer (some ⟨b, 0 + i * 4, none⟩)
        | 15 => v = .agg #[.string r.x0, .int .i64 r.x1]
        | 16 => v = .agg #[.string a, .int .i64 m]
        | _ => v = .bool z) (by kernel_rfl) (by kernel_rfl) (fun q hq w v hv => ?_) (Below.refl _ _) (fun _ _ _ h k => h.trans (k.mono h.size)) (fun k' w1 w2 v h => match k' with
        | 0 => fun x => x
        | 1 => fun x => x
        | 2 => fun x => x
        | 3 => fun x => x
        | 4 => fun x => x
        | 5 => fun x => x
        | 6 => fun x => x
        | 7 => fun x => x
        | 8 => fun x => x
        | 9 => fun x => x
        | 10 => fun x => x
        | 11 => fun x => x
        | 12 => fun x => x
        | 13 => fun x => x
        | 14 => fun x => x
        | 15 => fun x => x
        | 16 => fun x => x
        | _ + 17 => fun x => x) (fun _ _ _ _ _ h => h) ?_ _ (by rfl) ?_
      · simp only [List.mem_cons, List.not_mem_nil, or_false] at hq
        rcases hq with rfl <;> exact hv
      · refine obs_cons (by rfl) (fun vals w' hgr hdep K hK => ?_) (obs_cons (by rfl) (fun vals w' hgr hdep K hK => ?_) (obs_cons (by rfl) (fun vals w' hgr hdep K hK => ?_) (obs_cons (by rfl) (fun vals w' hgr hdep K hK => ?_) (obs_cons (by rfl) (fun vals w' hgr hdep K hK => ?_) (obs_cons (by rfl) (fun vals w' hgr hdep K hK => ?_) (obs_cons (by rfl) (fun vals w' hgr hdep K hK => ?_) (obs_cons (by rfl) (fun vals w' hgr hdep K hK => ?_) (obs_cons (by rfl) (fun vals w' hgr hdep K hK => ?_) (obs_cons (by rfl) (fun vals w' hgr hdep K hK => ?_) (obs_cons (by rfl) (fun vals w' hgr hdep K hK => ?_) (obs_cons (by rfl) (fun vals w' hgr hdep K hK => ?_) (obs_cons (by rfl) (fun vals w' hgr hdep K hK => ?_) (obs_cons (by rfl) (fun vals w' hgr hdep K hK => ?_) (obs_cons (by rfl) (fun vals w' hgr hdep K hK => ?_) (obs_cons (by rfl) (fun vals w' hgr hdep K hK => ?_) (obs_cons (by rfl) (fun vals w' hgr hdep K hK => ?_) (obs_cons (by rfl) (fun vals w' hgr hdep K hK => ?_) (obs_nil))))))))))))))))))
        · exact wp_move (.tmp 6) rfl _ (at_out _ (by kernel_rfl) rfl) (hK _ _ (Below.refl _ _) rfl)
        · exact wp_move (.tmp 0) rfl _ (at_out _ (by kernel_rfl) rfl) (hK _ _ (Below.refl _ _) rfl)
        · exact MapS.st_nil (.tmp 8) rfl _ ((at_dst 1 (by kernel_rfl)).trans (hdep 1 (by simp) (by kernel_rfl))) (hK _ _ (Below.refl _ _) rfl)
        · exact wp_field (.tmp 9) rfl _ _ ((at_dst 2 (by kernel_rfl)).trans (hdep 2 (by simp) (by kernel_rfl))) (by kernel_rfl) (hK _ _ (Below.refl _ _) rfl)
        · exact wp_load1 (.tmp 10) rfl ⟨g, 0, none⟩ ((at_dst 3 (by kernel_rfl)).trans (hdep 3 (by simp) (by kernel_rfl))) Try.underlying27 rfl _ ((XT.out w' hgr).cell 0) (hK _ _ (Below.refl _ _) rfl)
        · exact st_lenT Try.underlying27 (.tmp 11) rfl _ n c ((at_dst 4 (by kernel_rfl)).trans (hdep 4 (by simp) (by kernel_rfl))) (hK _ _ (Below.refl _ _) rfl)
        · exact wp_bin (.tmp 7) (.tmp 12) rfl _ _ _ ((at_dst 0 (by kernel_rfl)).trans (hdep 0 (by simp) (by kernel_rfl))) ((at_dst 5 (by kernel_rfl)).trans (hdep 5 (by simp) (by kernel_rfl))) (b_lssi _ _ _ (decide_eq_true (by have := LT.out; omega)) _ _ _) (hK _ _ (Below.refl _ _) rfl)
        · exact wp_move (.tmp 13) rfl _ ((at_dst 6 (by kernel_rfl)).trans (hdep 6 (by simp) (by kernel_rfl))) (hK _ _ (Below.refl _ _) rfl)
        · exact wp_move (.tmp 0) rfl _ (at_out _ (by kernel_rfl) rfl) (hK _ _ (Below.refl _ _) rfl)
        · exact MapS.st_nil (.tmp 15) rfl _ ((at_dst 8 (by kernel_rfl)).trans (hdep 8 (by simp) (by kernel_rfl))) (hK _ _ (Below.refl _ _) rfl)
        · exact wp_field (.tmp 16) rfl _ _ ((at_dst 9 (by kernel_rfl)).trans (hdep 9 (by simp) (by kernel_rfl))) (by kernel_rfl) (hK _ _ (Below.refl _ _) rfl)
        · exact wp_load1 (.tmp 17) rfl ⟨g, 0, none⟩ ((at_dst 10 (by kernel_rfl)).trans (hdep 10 (by simp) (by kernel_rfl))) Try.underlying27 rfl _ ((XT.out w' hgr).cell 0) (hK _ _ (Below.refl _ _) rfl)
        · exact wp_move (.tmp 6) rfl _ (at_out _ (by kernel_rfl) rfl) (hK _ _ (Below.refl _ _) rfl)
        · exact Part.st_elem_at (.tmp 18) (.tmp 19) rfl Try.underlying27 (by kernel_rfl) b 0 n c i ((at_dst 11 (by kernel_rfl)).trans (hdep 11 (by simp) (by kernel_rfl))) ((at_dst 12 (by kernel_rfl)).trans (hdep 12 (by simp) (by kernel_rfl))) LT.out (hK _ _ (Below.refl _ _) rfl)
        · exact wp_field (.tmp 20) rfl _ (.pointer (some ⟨b, 0 + i * 4, none⟩)) ((at_dst 13 (by kernel_rfl)).trans (hdep 13 (by simp) (by kernel_rfl))) (by kernel_rfl) (hK _ _ (Below.refl _ _) rfl)
        · exact Part.st_load_part 31 (.tmp 21) rfl b (0 + i * 4) [.string r.x0, .int .i64 r.x1] ((at_dst 14 (by kernel_rfl)).trans (hdep 14 (by simp) (by kernel_rfl))) (Part.run_part _ _ _ _ _ _ Try.underlying31 rfl (by kernel_rfl) ((XR.out w' hgr).sub 0 2)) (hK _ _ (Below.refl _ _) rfl)
        · exact Part.st_load_part 31 (.tmp 3) rfl gp 0 [.string a, .int .i64 m] (at_out _ (by kernel_rfl) rfl) (Part.run_part _ _ _ _ _ _ Try.underlying31 rfl (by kernel_rfl) (blk_part (XP.out w' hgr) 0 2)) (hK _ _ (Below.refl _ _) rfl)
        · exact wp_call 46 [.tmp 22, .tmp 23] _ rfl ent_ahead [.agg #[.string r.x0, .int .i64 r.x1], .agg #[.string a, .int .i64 m]] (Draw.list2 ((at_dst 15 (by kernel_rfl)).trans (hdep 15 (by simp) (by kernel_rfl))) ((at_dst 16 (by kernel_rfl)).trans (hdep 16 (by simp) (by kernel_rfl)))) (fun v w'' => v = .bool z ∧ Below w'.heap.size w' w'') ((AH.out w').mono fun e w'' ⟨h1, h2⟩ => ⟨_, h1, rfl, h2⟩) (fun v w'' ⟨h1, h2⟩ => hK _ _ h2 h1)
      · intro vals w' hgr hG
        refine Draw.st_pick (.tmp 14) (.tmp 24) (.const (.bool false)) rfl _ ((at_dst 7 (by kernel_rfl)).trans (hG 7 (by simp))) ((at_dst 17 (by kernel_rfl)).trans (hG 17 (by simp))) (wpAnyH_done (by kernel_rfl) ?_ _)
        have HB2 := Lib.hid (HB.out.trans ((Draw.below_1 hgr).mono HB.out.size))
        clear hG hgr XT XP XR HB KTr KPr
        simp only [fill, dstAt, List.getElem?_cons_zero, List.getElem?_cons_succ, Option.bind_some, Act.put, List.setIfInBounds_toArray, List.set_cons_zero, List.set_cons_succ]
        generalize vals 0 = u0, vals 1 = u1, vals 2 = u2, vals 3 = u3, vals 4 = u4, vals 5 = u5, vals 6 = u6, vals 7 = u7, vals 8 = u8, vals 9 = u9, vals 10 = u10, vals 11 = u11, vals 12 = u12, vals 13 = u13, vals 14 = u14, vals 15 = u15, vals 16 = u16, vals 17 = u17 at *
        generalize w' = w2 at *
        cases z
        · have PA : Hid (placeN rs a m = i) := Lib.hid (place_at HS.out (fun r' h => by rw [← Option.some.inj (HR.out.symm.trans h)]; exact HZ.out) (by rw [RN.out]; exact hi))
          obtain ⟨y, hy⟩ : ∃ y, (decide (r.x0 = a) && decide (r.x1 = m)) = y := ⟨_, rfl⟩
          have EY := Lib.hid hy
          have TA : Hid (thereB rs a m = y) := Lib.hid ((there_at PA.out HR.out).trans hy)
          have HB := HB2
          clear HB2 HS AH hy
          go_wp2_with fail
          have KTr := Lib.hid (KT.out.below HB.out KT.out.lt)
          have KPr := Lib.hid (KP.out.below HB.out KP.out.lt)
          have XT : Hid (∀ V, Below w2.drew.heap.size w2.drew V → Blk V g 29 #[.slice (some ⟨b, 0, none⟩) n c]) := Lib.hid fun V hV => Blk.below (show Blk w2.drew g 29 _ from KTr.out) hV (Blk.lt KTr.out)
          have XP : Hid (∀ V, Below w2.drew.heap.size w2.drew V → Blk V gp 31 #[.string a, .int .i64 m]) := Lib.hid fun V hV => Blk.below (show Blk w2.drew gp 31 _ from KPr.out) hV (Blk.lt KPr.out)
          have XR : Hid (∀ V, Below w2.drew.heap.size w2.drew V → Part.At V b (0 + i * 4) r.cells) := Lib.hid fun V hV => by
            rw [Nat.zero_add]
            exact row_route (RW.out.below (HB.out.trans ((Draw.below_1 hV).mono HB.out.size))) HR.out
          refine wp_region_freeP [0, 1, 2, 3, 4, 5, 6, 7, 8, 9, 10, 11, 12, 13, 14, 15, 16, 17, 18, 19, 20] 21 [] [(8, true)] (fun w1 w2 => Below w1.heap.size w1 w2) (fun k' w' v => match k' with
            | 0 => v = .int .i64 (((i : Nat) : Int))
            | 1 => v = .int .i64 (((i : Nat) : Int))
            | 2 => v = .pointer (some ⟨g, 0, none⟩)
            | 3 => v = .pointer (some ⟨g, 0, none⟩)
            | 4 => v = .pointer (some ⟨g, 0, none⟩)
            | 5 => v = .slice (some ⟨b, 0, none⟩) n c
            | 6 => v = .int .i64 (((n : Nat) : Int))
            | 7 => v = .bool true
            | 8 => v = .bool true
            | 9 => v = .pointer (some ⟨g, 0, none⟩)
            | 10 => v = .pointer (some ⟨g, 0, none⟩)
            | 11 => v = .pointer (some ⟨g, 0, none⟩)
            | 12 => v = .slice (some ⟨b, 0, none⟩) n c
            | 13 => v = .int .i64 (((i : Nat) : Int))
            | 14 => v = .pointer (some ⟨b, 0 + i * 4, none⟩)
            | 15 => v = .pointer (some ⟨b, 0 + i * 4, none⟩)
            | 16 => v = .agg #[.string r.x0, .int .i64 r.x1]
            | 17 => v = .agg #[.string a, .int .i64 m]
            | 18 => v = .bool y
            | 19 => v = .bool y
            | _ => v = .int .i64 (((i : Nat) : Int))) (by kernel_rfl) (by kernel_rfl) (fun q hq w v hv => ?_) (Below.refl _ _) (fun _ _ _ h k => h.trans (k.mono h.size)) (fun k' w1 w2 v h => match k' with
            | 0 => fun x => x
            | 1 => fun x => x
            | 2 => fun x => x
            | 3 => fun x => x
            | 4 => fun x => x
            | 5 => fun x => x
            | 6 => fun x => x
            | 7 => fun x => x
            | 8 => fun x => x
            | 9 => fun x => x
            | 10 => fun x => x
            | 11 => fun x => x
            | 12 => fun x => x
            | 13 => fun x => x
            | 14 => fun x => x
            | 15 => fun x => x
            | 16 => fun x => x
            | 17 => fun x => x
            | 18 => fun x => x
            | 19 => fun x => x
            | _ + 20 => fun x => x) (fun _ _ _ _ _ h => h) ?_ _ (by rfl) ?_
          · simp only [List.mem_cons, List.not_mem_nil, or_false] at hq
            rcases hq with rfl <;> exact hv
          · refine obs_cons (by rfl) (fun vals w' hgr hdep K hK => ?_) (obs_cons (by rfl) (fun vals w' hgr hdep K hK => ?_) (obs_cons (by rfl) (fun vals w' hgr hdep K hK => ?_) (obs_cons (by rfl) (fun vals w' hgr hdep K hK => ?_) (obs_cons (by rfl) (fun vals w' hgr hdep K hK => ?_) (obs_cons (by rfl) (fun vals w' hgr hdep K hK => ?_) (obs_cons (by rfl) (fun vals w' hgr hdep K hK => ?_) (obs_cons (by rfl) (fun vals w' hgr hdep K hK => ?_) (obs_cons (by rfl) (fun vals w' hgr hdep K hK => ?_) (obs_cons (by rfl) (fun vals w' hgr hdep K hK => ?_) (obs_cons (by rfl) (fun vals w' hgr hdep K hK => ?_) (obs_cons (by rfl) (fun vals w' hgr hdep K hK => ?_) (obs_cons (by rfl) (fun vals w' hgr hdep K hK => ?_) (obs_cons (by rfl) (fun vals w' hgr hdep K hK => ?_) (obs_cons (by rfl) (fun vals w' hgr hdep K hK => ?_) (obs_cons (by rfl) (fun vals w' hgr hdep K hK => ?_) (obs_cons (by rfl) (fun vals w' hgr hdep K hK => ?_) (obs_cons (by rfl) (fun vals w' hgr hdep K hK => ?_) (obs_cons (by rfl) (fun vals w' hgr hdep K hK => ?_) (obs_cons (by rfl) (fun vals w' hgr hdep K hK => ?_) (obs_cons (by rfl) (fun vals w' hgr hdep K hK => ?_) (obs_nil)))))))))))))))))))))
            · exact wp_move (.tmp 6) rfl _ (at_out _ (by kernel_rfl) rfl) (hK _ _ (Below.refl _ _) rfl)
            · exact wp_move (.tmp 6) rfl _ (at_out _ (by kernel_rfl) rfl) (hK _ _ (Below.refl _ _) rfl)
            · exact wp_move (.tmp 0) rfl _ (at_out _ (by kernel_rfl) rfl) (hK _ _ (Below.refl _ _) rfl)
            · exact MapS.st_nil (.tmp 30) rfl _ ((at_dst 2 (by kernel_rfl)).trans (hdep 2 (by simp) (by kernel_rfl))) (hK _ _ (Below.refl _ _) rfl)
            · exact wp_field (.tmp 31) rfl _ _ ((at_dst 3 (by kernel_rfl)).trans (hdep 3 (by simp) (by kernel_rfl))) (by kernel_rfl) (hK _ _ (Below.refl _ _) rfl)
            · exact wp_load1 (.tmp 32) rfl ⟨g, 0, none⟩ ((at_dst 4 (by kernel_rfl)).trans (hdep 4 (by simp) (by kernel_rfl))) Try.underlying27 rfl _ ((XT.out w' hgr).cell 0) (hK _ _ (Below.refl _ _) rfl)
            · exact st_lenT Try.underlying27 (.tmp 33) rfl _ n c ((at_dst 5 (by kernel_rfl)).trans (hdep 5 (by simp) (by kernel_rfl))) (hK _ _ (Below.refl _ _) rfl)
            · exact wp_bin (.tmp 29) (.tmp 34) rfl _ _ _ ((at_dst 1 (by kernel_rfl)).trans (hdep 1 (by simp) (by kernel_rfl))) ((at_dst 6 (by kernel_rfl)).trans (hdep 6 (by simp) (by kernel_rfl))) (b_lssi _ _ _ (decide_eq_true (by have := LT.out; omega)) _ _ _) (hK _ _ (Below.refl _ _) rfl)
            · exact wp_move (.tmp 35) rfl _ ((at_dst 7 (by kernel_rfl)).trans (hdep 7 (by simp) (by kernel_rfl))) (hK _ _ (Below.refl _ _) rfl)
            · exact wp_move (.tmp 0) rfl _ (at_out _ (by kernel_rfl) rfl) (hK _ _ (Below.refl _ _) rfl)
            · exact MapS.st_nil (.tmp 37) rfl _ ((at_dst 9 (by kernel_rfl)).trans (hdep 9 (by simp) (by kernel_rfl))) (hK _ _ (Below.refl _ _) rfl)
            · exact wp_field (.tmp 38) rfl _ _ ((at_dst 10 (by kernel_rfl)).trans (hdep 10 (by simp) (by kernel_rfl))) (by kernel_rfl) (hK _ _ (Below.refl _ _) rfl)
            · exact wp_load1 (.tmp 39) rfl ⟨g, 0, none⟩ ((at_dst 11 (by kernel_rfl)).trans (hdep 11 (by simp) (by kernel_rfl))) Try.underlying27 rfl _ ((XT.out w' hgr).cell 0) (hK _ _ (Below.refl _ _) rfl)
            · exact wp_move (.tmp 6) rfl _ (at_out _ (by kernel_rfl) rfl) (hK _ _ (Below.refl _ _) rfl)
            · exact Part.st_elem_at (.tmp 40) (.tmp 41) rfl Try.underlying27 (by kernel_rfl) b 0 n c i ((at_dst 12 (by kernel_rfl)).trans (hdep 12 (by simp) (by kernel_rfl))) ((at_dst 13 (by kernel_rfl)).trans (hdep 13 (by simp) (by kernel_rfl))) LT.out (hK _ _ (Below.refl _ _) rfl)
            · exact wp_field (.tmp 42) rfl _ (.pointer (some ⟨b, 0 + i * 4, none⟩)) ((at_dst 14 (by kernel_rfl)).trans (hdep 14 (by simp) (by kernel_rfl))) (by kernel_rfl) (hK _ _ (Below.refl _ _) rfl)
            · exact Part.st_load_part 31 (.tmp 43) rfl b (0 + i * 4) [.string r.x0, .int .i64 r.x1] ((at_dst 15 (by kernel_rfl)).trans (hdep 15 (by simp) (by kernel_rfl))) (Part.run_part _ _ _ _ _ _ Try.underlying31 rfl (by kernel_rfl) ((XR.out w' hgr).sub 0 2)) (hK _ _ (Below.refl _ _) rfl)
            · exact Part.st_load_part 31 (.tmp 3) rfl gp 0 [.string a, .int .i64 m] (at_out _ (by kernel_rfl) rfl) (Part.run_part _ _ _ _ _ _ Try.underlying31 rfl (by kernel_rfl) (blk_part (XP.out w' hgr) 0 2)) (hK _ _ (Below.refl _ _) rfl)
            · exact wp_bin (.tmp 44) (.tmp 45) rfl _ _ _ ((at_dst 16 (by kernel_rfl)).trans (hdep 16 (by simp) (by kernel_rfl))) ((at_dst 17 (by kernel_rfl)).trans (hdep 17 (by simp) (by kernel_rfl))) (b_eqP _ _ _ _ _ (EY.out) _ _ _) (hK _ _ (Below.refl _ _) rfl)
            · exact Draw.st_pick (.tmp 36) (.tmp 46) (.const (.bool false)) rfl _ ((at_dst 8 (by kernel_rfl)).trans (hdep 8 (by simp) (by kernel_rfl))) ((at_dst 18 (by kernel_rfl)).trans (hdep 18 (by simp) (by kernel_rfl))) (hK _ _ (Below.refl _ _) rfl)
            · exact st_assign (.tmp 28) _ rfl ((at_dst 0 (by kernel_rfl)).trans (hdep 0 (by simp) (by kernel_rfl))) (hK _ _ (Below.refl _ _) rfl)
          · intro vals w' hgr hG
            refine st_assign (.tmp 47) _ rfl ((at_dst 19 (by kernel_rfl)).trans (hG 19 (by simp))) (wpAnyH_done (by kernel_rfl) ?_ _)
            have e20 : vals 20 = .int .i64 ((i : Nat) : Int) := hG 20 (by simp)
            have HB3 := Lib.hid (HB.out.trans ((Draw.below_1 hgr).mono HB.out.size))
            clear hG hgr XT XP XR HB KTr KPr
            simp only [fill, dstAt, List.getElem?_cons_zero, List.getElem?_cons_succ, Option.bind_some, Act.put, List.setIfInBounds_toArray, List.set_cons_zero, List.set_cons_succ]
            rw [e20]
            generalize vals 0 = v0, vals 1 = v1, vals 2 = v2, vals 3 = v3, vals 4 = v4, vals 5 = v5, vals 6 = v6, vals 7 = v7, vals 8 = v8, vals 9 = v9, vals 10 = v10, vals 11 = v11, vals 12 = v12, vals 13 = v13, vals 14 = v14, vals 15 = v15, vals 16 = v16, vals 17 = v17, vals 18 = v18, vals 19 = v19 at *
            go_wp2_with fail
            go_ret2
            exact ⟨by rw [PA.out, TA.out]; rfl, B0.out.trans (HB3.out.mono B0.out.size)⟩
        · have HN : Hid (∀ (k : Nat) (r' : RouteR), k < i + 1 → rs[k]? = some r' → aheadB r'.x0 r'.x1 a m = true) := Lib.hid fun k r' hk h' => by
            rcases Nat.lt_or_ge k i with q | q
            · exact HS.out k r' q h'
            · obtain rfl : k = i := by omega
              rw [Option.some.inj (h'.symm.trans HR.out)]
              exact HZ.out
          clear HS AH
          go_wp2_with fail
          go_roundw
          case rel => exact ⟨i + 1, by go_num, by omega, HN, HB2⟩
          case measure => simp [intOf]; omega
    · have E : Hid (placeN rs a m = n) := Lib.hid (place_at (fun k r hk => HS.out k r (by omega)) (fun r h => absurd h (by rw [List.getElem?_eq_none (by rw [RN.out]; exact Nat.le_refl _)]; simp)) (by rw [RN.out]; exact Nat.le_refl _))
      have TA : Hid (thereB rs a m = false) := Lib.hid (there_no (by rw [E.out, RN.out]))
      obtain rfl : i = n := by omega
      have ct := (KT.out.below HB.out KT.out.lt).cell 0
      clear HS
      go_wp2_with fail
      go_quiet (fail)
      go_wp2_with fail
      go_quiet (fail)
      go_wp2_with fail
      go_ret2
      exact ⟨by rw [E.out, TA.out]; rfl, B0.out.trans ((below_drewN (below_drewN HB.out _) _).mono B0.out.size)⟩
end Go.Proofs.Ytnabjhdamofpgaa.TabR2
