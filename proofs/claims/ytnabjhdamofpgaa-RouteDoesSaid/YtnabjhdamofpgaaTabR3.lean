/- The document's Remove. -/
import Derived.Test.YtnabjhdamofpgaaTabA
set_option linter.unusedVariables false
namespace Go.Proofs.Ytnabjhdamofpgaa.TabR3
open Go.RowKit Go.PlainAid Go.Proofs.Ytnabjhdamofpgaa.Sums Go.Proofs.Ytnabjhdamofpgaa.Mem Go.Proofs.Ytnabjhdamofpgaa.Blk Go.Proofs.Ytnabjhdamofpgaa.Grp Go.Proofs.Ytnabjhdamofpgaa.AdrD Go.Proofs.Ytnabjhdamofpgaa.AdrR Go.Proofs.Ytnabjhdamofpgaa.Steps Go.Proofs.Ytnabjhdamofpgaa.Com Go.Proofs.Ytnabjhdamofpgaa.RowN Go.Proofs.Ytnabjhdamofpgaa.RowA Go.Proofs.Ytnabjhdamofpgaa.ArgT Go.Proofs.Ytnabjhdamofpgaa.TabD Go.Proofs.Ytnabjhdamofpgaa.TabR1 Go.Proofs.Ytnabjhdamofpgaa.TabR2 Go.Proofs.Ytnabjhdamofpgaa.RowP Go.Proofs.Ytnabjhdamofpgaa.TabA

def remB (rs : List RouteR) (a : ByteArray) (m : Int) : Bool := fitB a.size m && thereB rs (pfx a m) m
def remE (rs : List RouteR) (a : ByteArray) (m : Int) : Int := if remB rs a m then 0 else 6
def remL (rs : List RouteR) (a : ByteArray) (m : Int) : List RouteR := if remB rs a m then rs.take (placeN rs (pfx a m) m) ++ rs.drop (placeN rs (pfx a m) m + 1) else rs
set_option maxRecDepth 100000 in
set_option maxHeartbeats 1600000 in
theorem remove_ref (F : Nat → Prop) (g : Nat) (rs : List RouteR) (a : ByteArray) (m : Int) (w : World) (h : TabAt F w g rs) (hF : ∀ k, F k → k < w.heap.size) (ha : a.size ≤ 300) :
    Calls Try.prog 13 #[.pointer (some ⟨g, 0, none⟩), .agg #[.string a, .int .i64 m]] w fun e w' => e = .returned (.int .i64 (remE rs a m)) ∧ TabAt F w' g (remL rs a m) ∧ Keep F w w' := by
  obtain ⟨n, hn⟩ : ∃ n, rs.length = n := ⟨_, rfl⟩
  have few := h.few
  rw [hn] at few
  have H := Lib.hid h
  have HF := Lib.hid hF
  have RN := Lib.hid hn
  have PC := Lib.hid (fun W => prefix_ref a m ha W)
  have qs := pfx_size a m
  obtain ⟨q, hq⟩ : ∃ q, pfx a m = q := ⟨_, rfl⟩
  have HQ := Lib.hid hq
  rw [hq] at PC qs
  obtain ⟨fb, hfb⟩ : ∃ fb, fitB a.size m = fb := ⟨_, rfl⟩
  rw [hfb] at PC
  have HFB := Lib.hid hfb
  obtain ⟨tb, htb⟩ : ∃ tb, thereB rs q m = tb := ⟨_, rfl⟩
  have HTB := Lib.hid htb
  have RB : Hid (remB rs a m = (fb && tb)) := Lib.hid (by unfold remB; rw [hfb, hq, htb])
  have B0 := Lib.hid ((Below.refl w.heap.size w).alloc (Nat.le_refl _) (.cells #[.string a, .int .i64 m] 31))
  have K0 := Lib.hid (Blk.new w 31 #[.string a, .int .i64 m])
  clear h hF hq hfb htb
  go_enter Try.func13, Try.ntmps13
  go_wp2_with (refine Store.at_load 31 (.tmp 3) ?_ ?_; exact rfl; refine Loads.wpList_load_w rfl 31 (.tmp 3) rfl w.heap.size rfl 31 #[.string a, .int .i64 m] (0, 0) _ K0.out Try.underlying31 rfl (by kernel_rfl) ?_)
  refine (PC.out _).mono ?_
  rintro e w2 ⟨rfl, hb2⟩
  have B2 := Lib.hid (B0.out.trans (hb2.mono B0.out.size))
  have J2 := Lib.hid (Blk.new w2 31 #[.string ⟨#[]⟩, .int .i64 0])
  have K3 := Lib.hid (Part.setRow_blk J2.out #[.string q, .int .i64 m])
  have B3 : Hid (Below w.heap.size w ((w2.alloc (.cells #[.string ⟨#[]⟩, .int .i64 0] 31)).setRow w2.heap.size #[.string q, .int .i64 m])) := Lib.hid (setRow_bel (B2.out.alloc B2.out.size _) B2.out.size _)
  obtain ⟨A, c, hg0, hx0, hFg, hFA, hgA⟩ := H.out.ex
  rw [hn] at hg0 hx0
  have BW := B3.out.mono (Nat.le_refl _)
  have hg3 := hg0.below B3.out hg0.lt
  have hx3 := hx0.below B3.out
  have PL := Lib.hid (place_row g A n c rs q m ((w2.alloc (.cells #[.string ⟨#[]⟩, .int .i64 0] 31)).setRow w2.heap.size #[.string q, .int .i64 m]) hg3 hx3.row hn few H.out.ok (by omega))
  rw [HTB.out] at PL
  obtain ⟨i, hi⟩ : ∃ i, placeN rs q m = i := ⟨_, rfl⟩
  rw [hi] at PL
  have HI := Lib.hid hi
  have HG3 := Lib.hid hg3
  have HX3 := Lib.hid hx3
  have GL := Lib.hid hg0.lt
  have X1 := Lib.hid hFg
  have X2 := Lib.hid hFA
  have X3 := Lib.hid hgA
  have X4 : Hid (∀ k, own A k → k < w.heap.size) := Lib.hid fun k hk => hx0.row.lt hk
  clear hb2 hg0 hx0 hFg hFA hgA BW hg3 hx3 hi B2 B0 K0 PC qs
  go_wp2_with (first
    | (refine Store.at_store 31 (.tmp 5) (.tmp 13) ?_ ?_; exact rfl; refine wpList_store_row rfl 31 (.tmp 5) (.tmp 13) rfl w2.heap.size #[.string q, .int .i64 m] rfl rfl 31 _ J2.out (by kernel_rfl) rfl (one_pf _ _) ?_)
    | (refine Store.at_load 31 (.tmp 5) ?_ ?_; exact rfl; refine Loads.wpList_load_w rfl 31 (.tmp 5) rfl w2.heap.size rfl 31 #[.string q, .int .i64 m] (0, 0) _ K3.out Try.underlying31 rfl (by kernel_rfl) ?_))
  generalize ((w2.alloc (.cells #[.string ⟨#[]⟩, .int .i64 0] 31)).setRow w2.heap.size #[.string q, .int .i64 m]) = w3 at *
  refine PL.out.mono ?_
  rintro e w4 ⟨rfl, hb4⟩
  have B4 := Lib.hid (B3.out.trans (hb4.mono B3.out.size))
  have G4 := Lib.hid (HG3.out.below hb4 HG3.out.lt)
  have R4 := Lib.hid (HX3.out.below hb4)
  clear hb4 PL J2 K3 HG3 HX3 B3
  by_cases both : (fb && tb) = false
  · have E : Hid (remE rs a m = 6 ∧ remL rs a m = rs) := Lib.hid ⟨by unfold remE; rw [RB.out, both]; rfl, by unfold remL; rw [RB.out, both]; rfl⟩
    clear RB HFB HTB
    cases fb
    · go_wp2_with fail
      go_ret
      exact ⟨by rw [E.out.1]; rfl, by rw [E.out.2]; exact H.out.below B4.out, Keep.of B4.out⟩
    · obtain rfl : tb = false := by simpa using both
      go_wp2_with fail
      go_ret
      exact ⟨by rw [E.out.1]; rfl, by rw [E.out.2]; exact H.out.below B4.out, Keep.of B4.out⟩
  · obtain ⟨rfl, rfl⟩ : fb = true ∧ tb = true := by simpa using both
    have IL : i < n := by have := (there_some HTB.out).1; rw [HI.out, RN.out] at this; exact this
    have E : Hid (remE rs a m = 0 ∧ remL rs a m = rs.take i ++ rs.drop (i + 1)) := Lib.hid ⟨by unfold remE; rw [RB.out]; rfl, by unfold remL; rw [RB.out, HQ.out, HI.out]; rfl⟩
    have hw : IntKind.i64.wrap ((i : Int) + 1) = (i : Int) + 1 := IntWalk.i64_in _ (by omega)
    clear both RB HFB HTB
    obtain ⟨b, X, rfl, -, -, -⟩ := R4.out.row.some (by omega)
    have cn := R4.out.row.le
    have s1 := run_take (some ⟨b, 0, none⟩) n c i (i : Int) rfl (by omega) (fun z => by cases z)
    have s2 := run_drop b n c (i + 1) ((i : Int) + 1) (by omega) (by omega)
    obtain ⟨o7, h7⟩ : ∃ x, off c (i + 1) = x := ⟨_, rfl⟩
    obtain ⟨m7, hm7⟩ : ∃ x, n - (i + 1) = x := ⟨_, rfl⟩
    obtain ⟨c7, hc7⟩ : ∃ x, c - (i + 1) = x := ⟨_, rfl⟩
    rw [h7, hm7, hc7] at s2
    obtain ⟨A5, c5, w5, r5, x5, a5, k5⟩ := append_rt (rs := []) (RowX.nil RT 4 w4) (some ⟨b, 0, none⟩) i c (rs.take i) (by rw [List.length_take, RN.out]; omega) (.inr ⟨b, 0, rfl, part_take R4.out.row i⟩) (by omega)
    simp only [Nat.zero_add, List.nil_append] at r5 x5
    have k5' : ∀ k, k < w4.heap.size → w5.heap[k]? = w4.heap[k]? := fun k hk => k5.block k (fun ⟨x, z, _⟩ => by cases z) hk
    have G5 := Lib.hid (show Blk w5 g 29 #[.slice (some ⟨b, 0, none⟩) n c] from (k5' g G4.out.lt).trans G4.out)
    have R5 := Lib.hid (R4.out.keep (w' := w5) fun k _ hk => k5' k hk)
    have O5 : Hid (∀ k, own A5 k → w4.heap.size ≤ k) := Lib.hid fun k ⟨x, hx, hk⟩ => by
      rcases a5 with e | ⟨k', e, hl⟩
      · rw [e] at hx; cases hx
      · rw [e] at hx; cases hx; rw [← hk]; exact hl
    obtain ⟨A6, c6, w6, r6, x6, a6, k6⟩ := append_rt x5 (some ⟨b, o7, none⟩) m7 c7 (rs.drop (i + 1)) (by rw [List.length_drop, RN.out]; exact hm7) (.inr ⟨b, _, rfl, by rw [← h7]; exact part_drop R5.out.row RN.out (i + 1) (by omega)⟩) (by omega)
    obtain ⟨N7, hN7⟩ : ∃ x, i + m7 = x := ⟨_, rfl⟩
    rw [hN7] at r6 x6
    have G6 := Lib.hid (show Blk w6 g 29 #[.slice (some ⟨b, 0, none⟩) n c] from (k6.block g (fun z => by have := O5.out g z; have := G4.out.lt; omega) (by have := G5.out.lt; omega)).trans G5.out)
    have O6 : Hid (∀ k, own A6 k → w4.heap.size ≤ k) := Lib.hid fun k hk => by
      rcases a6 with e | ⟨k', e, hl⟩
      · rw [e] at hk; exact O5.out k hk
      · obtain ⟨x, hx, hk⟩ := hk
        rw [e] at hx; cases hx; rw [← hk]
        exact Nat.le_trans k5.size hl
    have c4 := G4.out.cell 0
    have c5' := G5.out.cell 0
    have LN : Hid ((rs.take i ++ rs.drop (i + 1)).length = N7) := Lib.hid (by rw [List.length_append, List.length_take, List.length_drop, RN.out]; omega)
    have OK' : Hid (∀ r ∈ rs.take i ++ rs.drop (i + 1), Ok r) := Lib.hid fun r hr => (List.mem_append.1 hr).elim (fun z => H.out.ok r (List.mem_of_mem_take z)) (fun z => H.out.ok r (List.mem_of_mem_drop z))
    have K6 : Hid (Keep F w w6) := Lib.hid (((Keep.of B4.out).trans (k5.mono fun k _ _ ⟨x, z, _⟩ => by cases z)).trans (k6.mono fun k f _ z => by
      have := O5.out k z; have := HF.out k f; have := B4.out.size; omega))
    have X6 : Hid (RowX RT 4 w6 A6 (N7) c6 ((rs.take i ++ rs.drop (i + 1)).flatMap RouteR.cells)) := Lib.hid (by simpa using x6)
    clear x5 x6 a5 a6 k5 k6 k5' h7 hm7 hc7 hN7
    go_wp2_with (first
      | (at_builtin; refine Lib.wpList_append_run w4 rfl (.tmp 27) (.tmp 33) 27 27 rfl (.slice none 0 0) (.slice (some ⟨b, 0, none⟩) i c) rfl rfl (.slice A5 i c5) w5 (r5 27) ?_)
      | (at_builtin; refine Lib.wpList_append_run w5 rfl (.tmp 35) (.tmp 42) 27 27 rfl (.slice A5 i c5) (.slice (some ⟨b, o7, none⟩) m7 c7) rfl rfl (.slice A6 N7 c6) w6 (r6 27) ?_)
      | (refine Store.at_store 27 (.tmp 47) (.tmp 45) ?_ ?_; exact rfl; refine Store.wpList_store_one rfl 27 (.tmp 47) (.tmp 45) rfl g 0 (.slice A6 (N7) c6) rfl rfl 29 _ G6.out (by simp) (by kernel_rfl) rfl #[.slice A6 (N7) c6] rfl rfl ?_))
    go_ret
    have og : ¬ own A6 g := fun z => by have := O6.out g z; have := GL.out; have := B4.out.size; omega
    refine ⟨by rw [E.out.1]; rfl, ?_, K6.out.trans (Keep.row _ g _ X1.out)⟩
    rw [E.out.2]
    refine ⟨⟨A6, c6, ?_, ?_, X1.out, fun k hk f => ?_, og⟩, OK'.out, by rw [List.length_append, List.length_take, List.length_drop, RN.out]; omega⟩
    · rw [LN.out]
      exact setRow_heap _ _ _ _ _ _ G6.out
    · rw [LN.out]
      exact X6.out.keep fun k hk _ => setRow_other _ _ _ _ (fun z => og (z ▸ hk))
    · have := O6.out k hk
      have := HF.out k f
      have := B4.out.size
      omega
end Go.Proofs.Ytnabjhdamofpgaa.TabR3
