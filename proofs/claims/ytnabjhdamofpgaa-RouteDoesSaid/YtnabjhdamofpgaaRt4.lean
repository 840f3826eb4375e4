/- The code's Remove; tables that are nil. -/
import Derived.Test.YtnabjhdamofpgaaRt3
set_option linter.unusedVariables false
namespace Go.Proofs.Ytnabjhdamofpgaa.Rt4
open Go.RowKit Go.PlainAid Go.Proofs.Ytnabjhdamofpgaa.Sums Go.Proofs.Ytnabjhdamofpgaa.Mem Go.Proofs.Ytnabjhdamofpgaa.Blk Go.Proofs.Ytnabjhdamofpgaa.Grp Go.Proofs.Ytnabjhdamofpgaa.AdrD Go.Proofs.Ytnabjhdamofpgaa.AdrR Go.Proofs.Ytnabjhdamofpgaa.Steps Go.Proofs.Ytnabjhdamofpgaa.Com Go.Proofs.Ytnabjhdamofpgaa.RowN Go.Proofs.Ytnabjhdamofpgaa.RowA Go.Proofs.Ytnabjhdamofpgaa.ArgT Go.Proofs.Ytnabjhdamofpgaa.TabD Go.Proofs.Ytnabjhdamofpgaa.TabOps Go.Proofs.Ytnabjhdamofpgaa.TabM Go.Proofs.Ytnabjhdamofpgaa.Free Go.Proofs.Ytnabjhdamofpgaa.RtD Go.Proofs.Ytnabjhdamofpgaa.Rt1 Go.Proofs.Ytnabjhdamofpgaa.Rt3 Go.Proofs.Ytnabjhdamofpgaa.TabR3

theorem add_nil (r : RouteR) (w : World) : Calls Try.prog 10 #[.pointer none, .agg (RA r)] w fun e w' => e = .returned (.int .i64 3) ∧ Below w.heap.size w w' := by
  have B0 := Lib.hid ((Below.refl w.heap.size w).alloc (Nat.le_refl _) (.cells (RA r) 33))
  go_enter Try.func10, Try.ntmps10
  go_wp2_with fail
  go_ret
  exact ⟨rfl, B0.out⟩
theorem remove_nil (a : ByteArray) (m : Int) (w : World) : Calls Try.prog 12 #[.pointer none, .agg #[.string a, .int .i64 m]] w fun e w' => e = .returned (.int .i64 3) ∧ Below w.heap.size w w' := by
  have B0 := Lib.hid ((Below.refl w.heap.size w).alloc (Nat.le_refl _) (.cells #[.string a, .int .i64 m] 31))
  go_enter Try.func12, Try.ntmps12
  go_wp2_with fail
  go_ret
  exact ⟨rfl, B0.out⟩
theorem list_nil (w : World) : Calls Try.prog 17 #[.pointer none] w fun e w' => e = .returned (.slice none 0 0) ∧ w = w' := by
  go_enter Try.func17, Try.ntmps17
  go_wp2_with fail
  go_ret
  exact ⟨rfl, rfl⟩
theorem there_lt {rs : List RouteR} {a : ByteArray} {m : Int} (h : thereB rs a m = true) : placeN rs a m < rs.length := (TabA.there_some h).1
set_option maxRecDepth 100000 in
set_option maxHeartbeats 1600000 in
theorem remove_c (F : Nat → Prop) (g : Nat) (rs : List RouteR) (a : ByteArray) (m : Int) (w : World) (h : RtAt F w g rs) (hF : ∀ k, F k → k < w.heap.size) (ha : a.size ≤ maxLen) :
    Calls Try.prog 12 #[.pointer (some ⟨g, 0, none⟩), .agg #[.string a, .int .i64 m]] w fun e w' => e = .returned (.int .i64 (remE rs a m)) ∧ RtAt F w' g (remL rs a m) ∧ Keep F w w' := by
  obtain ⟨n, hn⟩ : ∃ n, rs.length = n := ⟨_, rfl⟩
  have few := h.few
  rw [hn] at few
  have H := Lib.hid h
  have HF := Lib.hid hF
  have RN := Lib.hid hn
  have MC := Lib.hid (fun W => masked_any a m ha W)
  have qs := pfx_size a m
  obtain ⟨q, hq⟩ : ∃ q, pfx a m = q := ⟨_, rfl⟩
  have HQ := Lib.hid hq
  rw [hq] at MC qs
  obtain ⟨fb, hfb⟩ : ∃ fb, fitB a.size m = fb := ⟨_, rfl⟩
  rw [hfb] at MC
  obtain ⟨tb, htb⟩ : ∃ tb, thereB rs q m = tb := ⟨_, rfl⟩
  have HTB := Lib.hid htb
  have RB : Hid (remB rs a m = (fb && tb)) := Lib.hid (by unfold remB; rw [hfb, hq, htb])
  have B0 := Lib.hid ((Below.refl w.heap.size w).alloc (Nat.le_refl _) (.cells #[.string a, .int .i64 m] 31))
  have K0 := Lib.hid (Blk.new w 31 #[.string a, .int .i64 m])
  clear h hF hq hfb htb
  cases fb
  · have E : Hid (remE rs a m = 6 ∧ remL rs a m = rs) := Lib.hid ⟨by unfold remE; rw [RB.out]; rfl, by unfold remL; rw [RB.out]; rfl⟩
    clear RB HTB
    go_enter Try.func12, Try.ntmps12
    go_wp2_with (refine Store.at_load 31 (.tmp 3) ?_ ?_; exact rfl; refine Loads.wpList_load_w rfl 31 (.tmp 3) rfl w.heap.size rfl 31 #[.string a, .int .i64 m] (0, 0) _ (K0.out) Try.underlying31 rfl (by kernel_rfl) ?_)
    refine (MC.out _).mono ?_
    rintro e w2 ⟨rfl, hb2⟩
    have B2 := Lib.hid (B0.out.trans (hb2.mono B0.out.size))
    have K2 := Lib.hid (K0.out.below hb2 K0.out.lt)
    have B3 := Lib.hid (setRow_bel B2.out (Nat.le_refl _) #[.string q, .int .i64 0])
    clear hb2 B0 K0 B2
    go_wp2_with (refine Store.at_store 31 (.tmp 3) (.tmp 13) ?_ ?_; exact rfl; refine wpList_store_row rfl 31 (.tmp 3) (.tmp 13) rfl w.heap.size #[.string q, .int .i64 0] rfl rfl 31 _ K2.out (by kernel_rfl) rfl (one_pf _ _) ?_)
    go_ret
    exact ⟨by rw [E.out.1]; rfl, by rw [E.out.2]; exact H.out.below B3.out, Keep.of B3.out⟩
  · obtain ⟨A, c, hg0, hx0, hFg, hFA, hgA⟩ := H.out.ex
    rw [hn] at hg0 hx0
    have HG := Lib.hid hg0
    have HX := Lib.hid hx0
    have GL := Lib.hid hg0.lt
    have X1 := Lib.hid hFg
    have X2 := Lib.hid hFA
    have X3 := Lib.hid hgA
    clear hg0 hx0 hFg hFA hgA hn
    go_enter Try.func12, Try.ntmps12
    go_wp2_with (refine Store.at_load 31 (.tmp 3) ?_ ?_; exact rfl; refine Loads.wpList_load_w rfl 31 (.tmp 3) rfl w.heap.size rfl 31 #[.string a, .int .i64 m] (0, 0) _ (K0.out) Try.underlying31 rfl (by kernel_rfl) ?_)
    refine (MC.out _).mono ?_
    rintro e w2 ⟨rfl, hb2⟩
    have B2 := Lib.hid (B0.out.trans (hb2.mono B0.out.size))
    have K2 := Lib.hid (K0.out.below hb2 K0.out.lt)
    have B3 := Lib.hid (setRow_bel B2.out (Nat.le_refl _) #[.string q, .int .i64 m])
    have K3 := Lib.hid (Part.setRow_blk K2.out #[.string q, .int .i64 m])
    have G3 := Lib.hid (HG.out.below B3.out GL.out)
    have R3 := Lib.hid (HX.out.below B3.out)
    have PL := Lib.hid (place_c g A n c rs q m (w2.setRow w.heap.size #[.string q, .int .i64 m]) G3.out R3.out RN.out few H.out.tab (by omega))
    rw [HTB.out] at PL
    obtain ⟨i, hi⟩ : ∃ i, placeN rs q m = i := ⟨_, rfl⟩
    rw [hi] at PL
    have HI := Lib.hid hi
    clear hb2 B0 K0 B2 hi
    go_wp2_with (first | (refine Store.at_store 31 (.tmp 3) (.tmp 13) ?_ ?_; exact rfl; refine wpList_store_row rfl 31 (.tmp 3) (.tmp 13) rfl w.heap.size #[.string q, .int .i64 m] rfl rfl 31 _ K2.out (by kernel_rfl) rfl (one_pf _ _) ?_) | (refine Store.at_load 31 (.tmp 3) ?_ ?_; exact rfl; refine Loads.wpList_load_w rfl 31 (.tmp 3) rfl w.heap.size rfl 31 #[.string q, .int .i64 m] (0, 0) _ (K3.out) Try.underlying31 rfl (by kernel_rfl) ?_))
    generalize w2.setRow w.heap.size #[.string q, .int .i64 m] = w3 at *
    refine PL.out.mono ?_
    rintro e w4 ⟨rfl, hb4⟩
    have B4 := Lib.hid (B3.out.trans (hb4.mono B3.out.size))
    have G4 := Lib.hid (G3.out.below hb4 G3.out.lt)
    have R4 := Lib.hid (R3.out.below hb4)
    clear hb4 PL K2 K3 G3 R3 B3 HG HX
    cases tb
    · have E : Hid (remE rs a m = 6 ∧ remL rs a m = rs) := Lib.hid ⟨by unfold remE; rw [RB.out]; rfl, by unfold remL; rw [RB.out]; rfl⟩
      clear RB HTB
      go_wp2_with fail
      go_ret
      exact ⟨by rw [E.out.1]; rfl, by rw [E.out.2]; exact H.out.below B4.out, Keep.of B4.out⟩
    · have IL : i < n := by have := there_lt HTB.out; rw [HI.out, RN.out] at this; exact this
      have E : Hid (remE rs a m = 0 ∧ remL rs a m = rs.take i ++ rs.drop (i + 1)) := Lib.hid ⟨by unfold remE; rw [RB.out]; rfl, by unfold remL; rw [RB.out, HQ.out, HI.out]; rfl⟩
      have T : Hid (Tab (rs.take i ++ rs.drop (i + 1))) := Lib.hid (by rw [← E.out.2]; exact H.out.tab.rem a m)
      have hw : IntKind.i64.wrap ((i : Int) + 1) = (i : Int) + 1 := IntWalk.i64_in _ (by omega)
      have DC := Lib.hid (DelT.delete_route A n c i _ w4 R4.out (by omega) IL)
      have c1 := G4.out.cell 1
      clear RB HTB
      go_wp2_with fail
      refine DC.out.mono ?_
      rintro e w5 ⟨rfl, hr5, hk5⟩
      have G5 := Lib.hid (show Blk w5 g 54 #[FN, .slice A n c] from (hk5.block g X3.out G4.out.lt).trans G4.out)
      have R5 := Lib.hid hr5
      have K5 : Hid (Keep F w w5) := Lib.hid ((Keep.of B4.out).trans (hk5.mono fun k f _ z => X2.out k z f))
      have FL : Hid ((rs.take i ++ rs.drop (i + 1)).flatMap RouteR.cells = (rs.flatMap RouteR.cells).take (i * 4) ++ (rs.flatMap RouteR.cells).drop ((i + 1) * 4)) := Lib.hid (by rw [List.flatMap_append, TabA.flat_take, TabA.flat_drop])
      have LN : Hid ((rs.take i ++ rs.drop (i + 1)).length = n - 1) := Lib.hid (by rw [List.length_append, List.length_take, List.length_drop, RN.out]; omega)
      clear hr5 hk5 DC c1
      go_wp2_with (refine Store.at_store 27 (.tmp 35) (.tmp 33) ?_ ?_; exact rfl; refine Store.wpList_store_one rfl 27 (.tmp 35) (.tmp 33) rfl g 1 (.slice A (n - 1) c) rfl rfl 54 _ G5.out (by simp) (by kernel_rfl) rfl #[FN, .slice A (n - 1) c] rfl rfl ?_)
      go_ret
      refine ⟨by rw [E.out.1]; rfl, ?_, K5.out.trans (Keep.row _ g _ X1.out)⟩
      rw [E.out.2]
      refine ⟨⟨A, c, ?_, ?_, X1.out, X2.out, X3.out⟩, T.out, by rw [LN.out]; omega⟩
      · rw [LN.out]
        exact setRow_heap _ _ _ _ _ _ G5.out
      · rw [LN.out, FL.out]
        exact R5.out.keep fun k hk _ => setRow_other _ _ _ _ (fun z => X3.out (z ▸ hk))
end Go.Proofs.Ytnabjhdamofpgaa.Rt4
