/- The document's Add. -/
import Derived.Test.YtnabjhdamofpgaaTabR4
set_option linter.unusedVariables false
namespace Go.Proofs.Ytnabjhdamofpgaa.TabR5
open Go.RowKit Go.PlainAid Go.Proofs.Ytnabjhdamofpgaa.Sums Go.Proofs.Ytnabjhdamofpgaa.Mem Go.Proofs.Ytnabjhdamofpgaa.Blk Go.Proofs.Ytnabjhdamofpgaa.Grp Go.Proofs.Ytnabjhdamofpgaa.AdrD Go.Proofs.Ytnabjhdamofpgaa.AdrR Go.Proofs.Ytnabjhdamofpgaa.Steps Go.Proofs.Ytnabjhdamofpgaa.Com Go.Proofs.Ytnabjhdamofpgaa.RowN Go.Proofs.Ytnabjhdamofpgaa.RowA Go.Proofs.Ytnabjhdamofpgaa.ArgT Go.Proofs.Ytnabjhdamofpgaa.TabD Go.Proofs.Ytnabjhdamofpgaa.TabR1 Go.Proofs.Ytnabjhdamofpgaa.TabR2 Go.Proofs.Ytnabjhdamofpgaa.TabA Go.Proofs.Ytnabjhdamofpgaa.TabR3 Go.Proofs.Ytnabjhdamofpgaa.TabM Go.Proofs.Ytnabjhdamofpgaa.TabOps Go.Proofs.Ytnabjhdamofpgaa.Free Go.Proofs.Ytnabjhdamofpgaa.Rt6 Go.Proofs.Ytnabjhdamofpgaa.TabR4

attribute [local irreducible] wpList
theorem take_any {w : World} {A : Option Addr} {n c : Nat} {rs : List RouteR} (h : RowAt RT 4 w A n c (rs.flatMap RouteR.cells)) (i : Nat) (hi : i ≤ n) :
    (∀ W, (Instr.slice 27 (.slice A n c) none (some (.int .i64 (i : Int))) none).run Try.prog W = .ok (.slice A i c) W) ∧ ∀ w', (RowAt RT 4 w' A n c (rs.flatMap RouteR.cells)) → ((A = none ∧ i = 0) ∨ ∃ b o, A = some ⟨b, o, none⟩ ∧ Part.At w' b o ((rs.take i).flatMap RouteR.cells)) := by
  have hle := h.le
  refine ⟨fun W => run_take A n c i (i : Int) rfl (by omega) (fun e => ?_) W, fun w' h' => ?_⟩
  · rcases h.lies with ⟨_, hc⟩ | ⟨b, X, e', _⟩
    · omega
    · rw [e] at e'; cases e'
  · rcases h.lies with ⟨e, hc⟩ | ⟨b, X, rfl, _⟩
    · exact .inl ⟨e, by omega⟩
    · exact .inr ⟨b, 0, rfl, part_take h' i⟩
theorem drop_any {w : World} {A : Option Addr} {n c : Nat} {rs : List RouteR} (h : RowAt RT 4 w A n c (rs.flatMap RouteR.cells)) (hn : rs.length = n) (i : Nat) (hi : i ≤ n) :
    ∃ S k, (∀ W, (Instr.slice 27 (.slice A n c) (some (.int .i64 (i : Int))) none none).run Try.prog W = .ok (.slice S (n - i) k) W) ∧ ∀ w', (RowAt RT 4 w' A n c (rs.flatMap RouteR.cells)) → ((S = none ∧ n - i = 0) ∨ ∃ b o, S = some ⟨b, o, none⟩ ∧ Part.At w' b o ((rs.drop i).flatMap RouteR.cells)) := by
  have hle := h.le
  rcases h.lies with ⟨rfl, rfl⟩ | ⟨b, X, rfl, _⟩
  · obtain rfl : n = 0 := by omega
    obtain rfl : i = 0 := by omega
    exact ⟨none, 0, fun W => run_drop0 W, fun w' h' => .inl ⟨rfl, rfl⟩⟩
  · exact ⟨some ⟨b, off c i, none⟩, c - i, fun W => run_drop b n c i (i : Int) rfl hi W, fun w' h' => .inr ⟨b, _, rfl, part_drop h' hn i hi⟩⟩
theorem row_setX {w : World} {b n c : Nat} {rs : List RouteR} (h : RowX RT 4 w (some ⟨b, 0, none⟩) n c (rs.flatMap RouteR.cells)) (hn : rs.length = n) {i : Nat} (hi : i < n) (r : RouteR) :
    ∃ w', (storeVar 33 ⟨b, 0 + i * 4, none⟩ (.agg (RA r))).run Try.prog w = .ok () w' ∧ RowX RT 4 w' (some ⟨b, 0, none⟩) n c ((rs.set i r).flatMap RouteR.cells) ∧ Keep (fun k => ¬ own (some ⟨b, 0, none⟩) k) w w' := by
  obtain ⟨w', h1, h2, h3⟩ := row_set h.row hn hi r
  obtain ⟨b', X, hA, hX, hs, ht⟩ := h.row.some (by omega)
  cases hA
  have hle := h.row.le
  have hr := run_store_agg hX (i * 4) (RA r) (by kernel_rfl) (by show i * 4 + 4 ≤ X.size; omega) (one_ra r)
  rw [Nat.zero_add] at h1
  rw [h1] at hr
  injection hr with e1 e2
  subst e2
  refine ⟨_, by rw [Nat.zero_add]; exact h1, ⟨h2, fun b' Y hA hY => ?_⟩, h3⟩
  cases hA
  have e := hY.symm.trans (setRow_heap w b X (spl X (i * 4) (RA r).toList) RT (0, 0) hX)
  simp at e
  rw [e, spl_size (by show i * 4 + 4 ≤ X.size; omega)]
  exact h.fits _ _ rfl hX
set_option maxRecDepth 100000 in
set_option maxHeartbeats 4000000 in
theorem full_ref (F : Nat → Prop) (g : Nat) (rs : List RouteR) (r : RouteR) (w : World) (h : TabAt F w g rs) (hF : ∀ k, F k → k < w.heap.size) (ha : r.x0.size ≤ 300) (hv : r.x2.size ≤ 300) (hok : addB r.x0 r.x1 r.x2 r.x3 = true) (hth : thereB rs (pfx r.x0 r.x1) r.x1 = false) (hfull : 64 ≤ rs.length) :
    Calls Try.prog 11 #[.pointer (some ⟨g, 0, none⟩), .agg (RA r)] w fun e w' => e = .returned (.int .i64 7) ∧ TabAt F w' g (rs) ∧ Keep F w w' := by
  obtain ⟨hf, hpb, way⟩ := ref_ok r hok
  obtain ⟨n, hn⟩ : ∃ n, rs.length = n := ⟨_, rfl⟩
  have few := h.few
  rw [hn] at few
  have RN := Lib.hid hn
  have H := Lib.hid h
  have HF := Lib.hid hF
  have qs := pfx_size r.x0 r.x1
  obtain ⟨q, hq⟩ : ∃ q, pfx r.x0 r.x1 = q := ⟨_, rfl⟩
  obtain ⟨fb, hfb⟩ : ∃ fb, fitB r.x0.size r.x1 = fb := ⟨_, rfl⟩
  have PC := Lib.hid (fun W => prefix_ref r.x0 r.x1 ha W)
  rw [hq, hfb] at PC
  rw [hq] at qs
  have B0 := Lib.hid ((Below.refl w.heap.size w).alloc (Nat.le_refl _) (.cells (RA r) 33))
  have K0 := Lib.hid (Blk.new w 33 (RA r))
  have RP : (loadVar 31 ⟨w.heap.size, 0, none⟩).run Try.prog (w.alloc (.cells (RA r) 33)) = .ok (.agg #[.string r.x0, .int .i64 r.x1]) (w.alloc (.cells (RA r) 33)) := Part.run_part _ w.heap.size 0 31 [.string r.x0, .int .i64 r.x1] _ Try.underlying31 rfl (by kernel_rfl) (TabOps.blk_part K0.out 0 2)
  rw [hf] at hfb
  obtain rfl : fb = true := hfb.symm
  rw [hq] at way hth
  have OKN : Hid (Ok (⟨q, r.x1, r.x2, r.x3⟩ : RouteR)) := Lib.hid ⟨qs, hv⟩
  have HQ := Lib.hid hq
  have HTH := Lib.hid hth
  obtain ⟨A, c, hg0, hx0, hFg, hFA, hgA⟩ := h.ex
  rw [hn] at hg0 hx0 hfull
  have HG := Lib.hid hg0
  have HX := Lib.hid hx0
  have GL := Lib.hid hg0.lt
  have NBX : Hid (∀ k, own A k → k < w.heap.size) := Lib.hid fun k hk => hx0.row.lt hk
  have X1 := Lib.hid hFg
  have X2 := Lib.hid hFA
  have X3 := Lib.hid hgA
  obtain ⟨i, hi⟩ : ∃ i, placeN rs q r.x1 = i := ⟨_, rfl⟩
  have HI := Lib.hid hi
  have iln : i ≤ n := by rw [← hi, ← hn]; exact placeN_le _ _ _
  have QS := Lib.hid qs
  have AL : Hid (addL rs r.x0 r.x1 r.x2 r.x3 = rs) := Lib.hid (by
    unfold addL
    rw [hok, if_pos rfl, hq, hth, hi]
    rw [if_neg (by simp), if_pos (by omega)])
  clear h hF hq hfb hf hok hth hg0 hx0 hFg hFA hgA hi hn qs ha hv
  go_enter Try.func11, Try.ntmps11
  go_wp2_with (refine Store.at_load 31 (.tmp 11) ?_ ?_; exact rfl; refine Part.wpList_load_part rfl 31 (.tmp 11) rfl w.heap.size 0 [.string r.x0, .int .i64 r.x1] rfl RP ?_)
  refine (PC.out _).mono ?_
  rintro e w2 ⟨rfl, hb2⟩
  have B2 := Lib.hid (B0.out.trans (hb2.mono B0.out.size))
  have L2 : Hid (w.heap.size < w2.heap.size) := Lib.hid (by have := hb2.size; simp at this; omega)
  have KR2 := Lib.hid (K0.out.below hb2 K0.out.lt)
  have J2 := Lib.hid (Blk.new w2 31 #[.string ⟨#[]⟩, .int .i64 0])
  have K3 := Lib.hid (Part.setRow_blk J2.out #[.string q, .int .i64 r.x1])
  have B3 : Hid (Below w.heap.size w ((w2.alloc (.cells #[.string ⟨#[]⟩, .int .i64 0] 31)).setRow w2.heap.size #[.string q, .int .i64 r.x1])) := Lib.hid (setRow_bel (B2.out.alloc B2.out.size _) B2.out.size _)
  have KR3 : Hid (Blk ((w2.alloc (.cells #[.string ⟨#[]⟩, .int .i64 0] 31)).setRow w2.heap.size #[.string q, .int .i64 r.x1]) w.heap.size 33 (RA r)) := Lib.hid ((setRow_other _ _ _ _ (by have := L2.out; omega)).trans (Blk.alloc KR2.out _))
  clear hb2 RP K0 B0 B2 KR2 PC
  have KR4 : Hid (Blk (((w2.alloc (.cells #[.string ⟨#[]⟩, .int .i64 0] 31)).setRow w2.heap.size #[.string q, .int .i64 r.x1]).setRow w.heap.size #[.string q, .int .i64 r.x1, .string r.x2, .int .i64 r.x3]) w.heap.size 33 #[.string q, .int .i64 r.x1, .string r.x2, .int .i64 r.x3]) := Lib.hid (Part.setRow_blk KR3.out _)
  have KP4 : Hid (Blk (((w2.alloc (.cells #[.string ⟨#[]⟩, .int .i64 0] 31)).setRow w2.heap.size #[.string q, .int .i64 r.x1]).setRow w.heap.size #[.string q, .int .i64 r.x1, .string r.x2, .int .i64 r.x3]) w2.heap.size 31 #[.string q, .int .i64 r.x1]) := Lib.hid ((setRow_other _ _ _ _ (by have := L2.out; omega)).trans K3.out)
  have B4 : Hid (Below w.heap.size w (((w2.alloc (.cells #[.string ⟨#[]⟩, .int .i64 0] 31)).setRow w2.heap.size #[.string q, .int .i64 r.x1]).setRow w.heap.size #[.string q, .int .i64 r.x1, .string r.x2, .int .i64 r.x3])) := Lib.hid (setRow_bel B3.out (Nat.le_refl _) _)
  have G4 := Lib.hid (HG.out.below B4.out GL.out)
  have R4 := Lib.hid (HX.out.below B4.out)
  have PL := Lib.hid (place_row g A n c rs q r.x1 (((w2.alloc (.cells #[.string ⟨#[]⟩, .int .i64 0] 31)).setRow w2.heap.size #[.string q, .int .i64 r.x1]).setRow w.heap.size #[.string q, .int .i64 r.x1, .string r.x2, .int .i64 r.x3]) G4.out R4.out.row RN.out few H.out.ok (by have := QS.out; omega))
  rw [HTH.out, HI.out] at PL
  rcases way with z1 | ⟨z1, z2⟩
  all_goals
    go_wp2_with (first
          | (refine Store.at_store 31 (.tmp 5) (.tmp 14) ?_ ?_; exact rfl; refine wpList_store_row rfl 31 (.tmp 5) (.tmp 14) rfl w2.heap.size #[.string q, .int .i64 r.x1] rfl rfl 31 _ J2.out (by kernel_rfl) rfl (one_pf _ _) ?_)
          | (refine Store.at_load 9 (.tmp 19) ?_ ?_; exact rfl; refine Store2.wpList_load_cell rfl 9 (.tmp 19) rfl w.heap.size 2 (.string r.x2) rfl _ Try.underlying9 rfl 33 _ KR3.out rfl ?_)
          | (refine Store.at_load 9 (.tmp 23) ?_ ?_; exact rfl; refine Store2.wpList_load_cell rfl 9 (.tmp 23) rfl w.heap.size 2 (.string r.x2) rfl _ Try.underlying9 rfl 33 _ KR3.out rfl ?_)
          | (refine Store.at_load 9 (.tmp 26) ?_ ?_; exact rfl; refine Store2.wpList_load_cell rfl 9 (.tmp 26) rfl w2.heap.size 0 (.string q) rfl _ Try.underlying9 rfl 31 _ K3.out rfl ?_)
          | (refine Store.at_load 3 (.tmp 33) ?_ ?_; exact rfl; refine Store2.wpList_load_cell rfl 3 (.tmp 33) rfl w.heap.size 3 (.int .i64 r.x3) rfl _ Try.underlying3 rfl 33 _ KR3.out rfl ?_)
          | (refine Store.at_load 31 (.tmp 5) ?_ ?_; exact rfl; refine Loads.wpList_load_w rfl 31 (.tmp 5) rfl w2.heap.size rfl 31 #[.string q, .int .i64 r.x1] (0, 0) _ (K3.out) Try.underlying31 rfl (by kernel_rfl) ?_)
          | (refine Store.at_store 31 (.tmp 38) (.tmp 37) ?_ ?_; exact rfl; refine Store.wpList_store_two rfl 31 (.tmp 38) (.tmp 37) rfl w.heap.size 0 (.string q) (.int .i64 r.x1) rfl rfl 33 _ KR3.out (by simp) (by kernel_rfl) rfl rfl #[.string q, .int .i64 r.x1, .string r.x2, .int .i64 r.x3] rfl ?_)
          | (refine Store.at_load 31 (.tmp 5) ?_ ?_; exact rfl; refine Loads.wpList_load_w rfl 31 (.tmp 5) rfl w2.heap.size rfl 31 #[.string q, .int .i64 r.x1] (0, 0) _ (KP4.out) Try.underlying31 rfl (by kernel_rfl) ?_))
    generalize ((w2.alloc (.cells #[.string ⟨#[]⟩, .int .i64 0] 31)).setRow w2.heap.size #[.string q, .int .i64 r.x1]).setRow w.heap.size #[.string q, .int .i64 r.x1, .string r.x2, .int .i64 r.x3] = w5 at *
    refine PL.out.mono ?_
    rintro e w6 ⟨rfl, hb6⟩
    have B6 := Lib.hid (B4.out.trans (hb6.mono B4.out.size))
    have G6 := Lib.hid (G4.out.below hb6 G4.out.lt)
    have R6 := Lib.hid (R4.out.below hb6)
    have K6 := Lib.hid (KR4.out.below hb6 KR4.out.lt)
    clear hb6 PL J2 K3 KR3 B3 G4 R4 KP4 KR4 B4
    have c1 := G6.out.cell 0
    have g3 : decide ((64 : Int) ≤ (n : Int)) = true := decide_eq_true (by omega)
    have g3' : decide (64 ≤ n) = true := decide_eq_true hfull
    go_wp2_with fail
    go_ret
    exact ⟨rfl, H.out.below B6.out, Keep.of B6.out⟩
set_option maxRecDepth 100000 in
set_option maxHeartbeats 4000000 in
theorem there_ref (F : Nat → Prop) (g : Nat) (rs : List RouteR) (r : RouteR) (w : World) (h : TabAt F w g rs) (hF : ∀ k, F k → k < w.heap.size) (ha : r.x0.size ≤ 300) (hv : r.x2.size ≤ 300) (hok : addB r.x0 r.x1 r.x2 r.x3 = true) (hth : thereB rs (pfx r.x0 r.x1) r.x1 = true) :
    Calls Try.prog 11 #[.pointer (some ⟨g, 0, none⟩), .agg (RA r)] w fun e w' => e = .returned (.int .i64 0) ∧ TabAt F w' g (addL rs r.x0 r.x1 r.x2 r.x3) ∧ Keep F w w' := by
  obtain ⟨hf, hpb, way⟩ := ref_ok r hok
  obtain ⟨n, hn⟩ : ∃ n, rs.length = n := ⟨_, rfl⟩
  have few := h.few
  rw [hn] at few
  have RN := Lib.hid hn
  have H := Lib.hid h
  have HF := Lib.hid hF
  have qs := pfx_size r.x0 r.x1
  obtain ⟨q, hq⟩ : ∃ q, pfx r.x0 r.x1 = q := ⟨_, rfl⟩
  obtain ⟨fb, hfb⟩ : ∃ fb, fitB r.x0.size r.x1 = fb := ⟨_, rfl⟩
  have PC := Lib.hid (fun W => prefix_ref r.x0 r.x1 ha W)
  rw [hq, hfb] at PC
  rw [hq] at qs
  have B0 := Lib.hid ((Below.refl w.heap.size w).alloc (Nat.le_refl _) (.cells (RA r) 33))
  have K0 := Lib.hid (Blk.new w 33 (RA r))
  have RP : (loadVar 31 ⟨w.heap.size, 0, none⟩).run Try.prog (w.alloc (.cells (RA r) 33)) = .ok (.agg #[.string r.x0, .int .i64 r.x1]) (w.alloc (.cells (RA r) 33)) := Part.run_part _ w.heap.size 0 31 [.string r.x0, .int .i64 r.x1] _ Try.underlying31 rfl (by kernel_rfl) (TabOps.blk_part K0.out 0 2)
  rw [hf] at hfb
  obtain rfl : fb = true := hfb.symm
  rw [hq] at way hth
  have OKN : Hid (Ok (⟨q, r.x1, r.x2, r.x3⟩ : RouteR)) := Lib.hid ⟨qs, hv⟩
  have HQ := Lib.hid hq
  have HTH := Lib.hid hth
  obtain ⟨A, c, hg0, hx0, hFg, hFA, hgA⟩ := h.ex
  rw [hn] at hg0 hx0
  have HG := Lib.hid hg0
  have HX := Lib.hid hx0
  have GL := Lib.hid hg0.lt
  have NBX : Hid (∀ k, own A k → k < w.heap.size) := Lib.hid fun k hk => hx0.row.lt hk
  have X1 := Lib.hid hFg
  have X2 := Lib.hid hFA
  have X3 := Lib.hid hgA
  obtain ⟨i, hi⟩ : ∃ i, placeN rs q r.x1 = i := ⟨_, rfl⟩
  have HI := Lib.hid hi
  have iln : i ≤ n := by rw [← hi, ← hn]; exact placeN_le _ _ _
  have QS := Lib.hid qs
  have AL : Hid (addL rs r.x0 r.x1 r.x2 r.x3 = rs.set i (⟨q, r.x1, r.x2, r.x3⟩ : RouteR)) := Lib.hid (by
    unfold addL
    rw [hok, if_pos rfl, hq, hth, hi]
    rw [if_pos rfl])
  clear h hF hq hfb hf hok hth hg0 hx0 hFg hFA hgA hi hn qs ha hv
  go_enter Try.func11, Try.ntmps11
  go_wp2_with (refine Store.at_load 31 (.tmp 11) ?_ ?_; exact rfl; refine Part.wpList_load_part rfl 31 (.tmp 11) rfl w.heap.size 0 [.string r.x0, .int .i64 r.x1] rfl RP ?_)
  refine (PC.out _).mono ?_
  rintro e w2 ⟨rfl, hb2⟩
  have B2 := Lib.hid (B0.out.trans (hb2.mono B0.out.size))
  have L2 : Hid (w.heap.size < w2.heap.size) := Lib.hid (by have := hb2.size; simp at this; omega)
  have KR2 := Lib.hid (K0.out.below hb2 K0.out.lt)
  have J2 := Lib.hid (Blk.new w2 31 #[.string ⟨#[]⟩, .int .i64 0])
  have K3 := Lib.hid (Part.setRow_blk J2.out #[.string q, .int .i64 r.x1])
  have B3 : Hid (Below w.heap.size w ((w2.alloc (.cells #[.string ⟨#[]⟩, .int .i64 0] 31)).setRow w2.heap.size #[.string q, .int .i64 r.x1])) := Lib.hid (setRow_bel (B2.out.alloc B2.out.size _) B2.out.size _)
  have KR3 : Hid (Blk ((w2.alloc (.cells #[.string ⟨#[]⟩, .int .i64 0] 31)).setRow w2.heap.size #[.string q, .int .i64 r.x1]) w.heap.size 33 (RA r)) := Lib.hid ((setRow_other _ _ _ _ (by have := L2.out; omega)).trans (Blk.alloc KR2.out _))
  clear hb2 RP K0 B0 B2 KR2 PC
  have KR4 : Hid (Blk (((w2.alloc (.cells #[.string ⟨#[]⟩, .int .i64 0] 31)).setRow w2.heap.size #[.string q, .int .i64 r.x1]).setRow w.heap.size #[.string q, .int .i64 r.x1, .string r.x2, .int .i64 r.x3]) w.heap.size 33 #[.string q, .int .i64 r.x1, .string r.x2, .int .i64 r.x3]) := Lib.hid (Part.setRow_blk KR3.out _)
  have KP4 : Hid (Blk (((w2.alloc (.cells #[.string ⟨#[]⟩, .int .i64 0] 31)).setRow w2.heap.size #[.string q, .int .i64 r.x1]).setRow w.heap.size #[.string q, .int .i64 r.x1, .string r.x2, .int .i64 r.x3]) w2.heap.size 31 #[.string q, .int .i64 r.x1]) := Lib.hid ((setRow_other _ _ _ _ (by have := L2.out; omega)).trans K3.out)
  have B4 : Hid (Below w.heap.size w (((w2.alloc (.cells #[.string ⟨#[]⟩, .int .i64 0] 31)).setRow w2.heap.size #[.string q, .int .i64 r.x1]).setRow w.heap.size #[.string q, .int .i64 r.x1, .string r.x2, .int .i64 r.x3])) := Lib.hid (setRow_bel B3.out (Nat.le_refl _) _)
  have G4 := Lib.hid (HG.out.below B4.out GL.out)
  have R4 := Lib.hid (HX.out.below B4.out)
  have PL := Lib.hid (place_row g A n c rs q r.x1 (((w2.alloc (.cells #[.string ⟨#[]⟩, .int .i64 0] 31)).setRow w2.heap.size #[.string q, .int .i64 r.x1]).setRow w.heap.size #[.string q, .int .i64 r.x1, .string r.x2, .int .i64 r.x3]) G4.out R4.out.row RN.out few H.out.ok (by have := QS.out; omega))
  rw [HTH.out, HI.out] at PL
  rcases way with z1 | ⟨z1, z2⟩
  all_goals
    go_wp2_with (first
          | (refine Store.at_store 31 (.tmp 5) (.tmp 14) ?_ ?_; exact rfl; refine wpList_store_row rfl 31 (.tmp 5) (.tmp 14) rfl w2.heap.size #[.string q, .int .i64 r.x1] rfl rfl 31 _ J2.out (by kernel_rfl) rfl (one_pf _ _) ?_)
          | (refine Store.at_load 9 (.tmp 19) ?_ ?_; exact rfl; refine Store2.wpList_load_cell rfl 9 (.tmp 19) rfl w.heap.size 2 (.string r.x2) rfl _ Try.underlying9 rfl 33 _ KR3.out rfl ?_)
          | (refine Store.at_load 9 (.tmp 23) ?_ ?_; exact rfl; refine Store2.wpList_load_cell rfl 9 (.tmp 23) rfl w.heap.size 2 (.string r.x2) rfl _ Try.underlying9 rfl 33 _ KR3.out rfl ?_)
          | (refine Store.at_load 9 (.tmp 26) ?_ ?_; exact rfl; refine Store2.wpList_load_cell rfl 9 (.tmp 26) rfl w2.heap.size 0 (.string q) rfl _ Try.underlying9 rfl 31 _ K3.out rfl ?_)
          | (refine Store.at_load 3 (.tmp 33) ?_ ?_; exact rfl; refine Store2.wpList_load_cell rfl 3 (.tmp 33) rfl w.heap.size 3 (.int .i64 r.x3) rfl _ Try.underlying3 rfl 33 _ KR3.out rfl ?_)
          | (refine Store.at_load 31 (.tmp 5) ?_ ?_; exact rfl; refine Loads.wpList_load_w rfl 31 (.tmp 5) rfl w2.heap.size rfl 31 #[.string q, .int .i64 r.x1] (0, 0) _ (K3.out) Try.underlying31 rfl (by kernel_rfl) ?_)
          | (refine Store.at_store 31 (.tmp 38) (.tmp 37) ?_ ?_; exact rfl; refine Store.wpList_store_two rfl 31 (.tmp 38) (.tmp 37) rfl w.heap.size 0 (.string q) (.int .i64 r.x1) rfl rfl 33 _ KR3.out (by simp) (by kernel_rfl) rfl rfl #[.string q, .int .i64 r.x1, .string r.x2, .int .i64 r.x3] rfl ?_)
          | (refine Store.at_load 31 (.tmp 5) ?_ ?_; exact rfl; refine Loads.wpList_load_w rfl 31 (.tmp 5) rfl w2.heap.size rfl 31 #[.string q, .int .i64 r.x1] (0, 0) _ (KP4.out) Try.underlying31 rfl (by kernel_rfl) ?_))
    generalize ((w2.alloc (.cells #[.string ⟨#[]⟩, .int .i64 0] 31)).setRow w2.heap.size #[.string q, .int .i64 r.x1]).setRow w.heap.size #[.string q, .int .i64 r.x1, .string r.x2, .int .i64 r.x3] = w5 at *
    refine PL.out.mono ?_
    rintro e w6 ⟨rfl, hb6⟩
    have B6 := Lib.hid (B4.out.trans (hb6.mono B4.out.size))
    have G6 := Lib.hid (G4.out.below hb6 G4.out.lt)
    have R6 := Lib.hid (R4.out.below hb6)
    have K6 := Lib.hid (KR4.out.below hb6 KR4.out.lt)
    clear hb6 PL J2 K3 KR3 B3 G4 R4 KP4 KR4 B4
    have IL : Hid (i < n) := Lib.hid (by have := Rt4.there_lt HTH.out; rw [HI.out, RN.out] at this; exact this)
    obtain ⟨b, X, rfl, -, -, -⟩ := R6.out.row.some (by have := IL.out; omega)
    go_wp2_with fail
    have XT : Hid (∀ V, Below w6.drew.heap.size w6.drew V → Blk V g 29 #[.slice (some ⟨b, 0, none⟩) n c]) := Lib.hid fun V hV => Blk.below (show Blk w6.drew g 29 _ from G6.out) hV (Blk.lt G6.out)
    have XR : Hid (∀ V, Below w6.drew.heap.size w6.drew V → Blk V w.heap.size 33 #[.string q, .int .i64 r.x1, .string r.x2, .int .i64 r.x3]) := Lib.hid fun V hV => Blk.below (show Blk w6.drew w.heap.size 33 #[.string q, .int .i64 r.x1, .string r.x2, .int .i64 r.x3] from K6.out) hV (Blk.lt K6.out)
    refine wp_region_free [0, 1, 2, 3, 4, 5] 6 [7] (fun w1 w2 => Below w1.heap.size w1 w2) (fun k' w' v => match k' with
      | 0 => v = .pointer (some ⟨g, 0, none⟩)
      | 1 => v = .pointer (some ⟨g, 0, none⟩)
      | 2 => v = .pointer (some ⟨g, 0, none⟩)
      | 3 => v = .slice (some ⟨b, 0, none⟩) n c
      | 4 => v = .int .i64 (((i : Nat) : Int))
      | _ => v = .agg #[.string q, .int .i64 r.x1, .string r.x2, .int .i64 r.x3]) (by kernel_rfl) (by kernel_rfl) (Below.refl _ _) (fun _ _ _ h k => h.trans (k.mono h.size)) (fun k' w1 w2 v h => match k' with
      | 0 => fun x => x
      | 1 => fun x => x
      | 2 => fun x => x
      | 3 => fun x => x
      | 4 => fun x => x
      | _ + 5 => fun x => x) (fun _ _ _ _ _ h => h) ?_ _ (by rfl) ?_
    · refine obs_cons (by rfl) (fun vals w' hgr hdep K hK => ?_) (obs_cons (by rfl) (fun vals w' hgr hdep K hK => ?_) (obs_cons (by rfl) (fun vals w' hgr hdep K hK => ?_) (obs_cons (by rfl) (fun vals w' hgr hdep K hK => ?_) (obs_cons (by rfl) (fun vals w' hgr hdep K hK => ?_) (obs_cons (by rfl) (fun vals w' hgr hdep K hK => ?_) (obs_nil))))))
      · exact wp_move (.tmp 0) rfl _ (at_out _ (by kernel_rfl) rfl) (hK _ _ (Below.refl _ _) rfl)
      · exact MapS.st_nil (.tmp 46) rfl _ ((at_dst 0 (by kernel_rfl)).trans (hdep 0 (by simp) (by kernel_rfl))) (hK _ _ (Below.refl _ _) rfl)
      · exact wp_field (.tmp 47) rfl _ _ ((at_dst 1 (by kernel_rfl)).trans (hdep 1 (by simp) (by kernel_rfl))) (by kernel_rfl) (hK _ _ (Below.refl _ _) rfl)
      · exact wp_load1 (.tmp 48) rfl ⟨g, 0, none⟩ ((at_dst 2 (by kernel_rfl)).trans (hdep 2 (by simp) (by kernel_rfl))) Try.underlying27 rfl _ ((XT.out w' hgr).cell 0) (hK _ _ (Below.refl _ _) rfl)
      · exact wp_move (.tmp 7) rfl _ (at_out _ (by kernel_rfl) rfl) (hK _ _ (Below.refl _ _) rfl)
      · exact Part.st_load_part 33 (.tmp 3) rfl w.heap.size 0 [.string q, .int .i64 r.x1, .string r.x2, .int .i64 r.x3] (at_out _ (by kernel_rfl) rfl) (Part.run_part _ _ _ _ _ _ Try.underlying33 rfl (by kernel_rfl) (blk_part (XR.out w' hgr) 0 4)) (hK _ _ (Below.refl _ _) rfl)
    · intro vals w' hgr hG
      have e3 : vals 3 = .slice (some ⟨b, 0, none⟩) n c := hG 3 (by simp)
      have e4 : vals 4 = .int .i64 ((i : Nat) : Int) := hG 4 (by simp)
      have e5 : vals 5 = .agg #[.string q, .int .i64 r.x1, .string r.x2, .int .i64 r.x3] := hG 5 (by simp)
      have hU : Below w6.heap.size w6 w' := Draw.below_1 hgr
      obtain ⟨w8, RS, hr8, hk8⟩ := row_setX (R6.out.below hU) RN.out IL.out (⟨q, r.x1, r.x2, r.x3⟩ : RouteR)
      refine Part.st_elem_at (N := 4) (.tmp 49) (.tmp 50) rfl Try.underlying27 (by kernel_rfl) b 0 n c i ((at_dst 3 (by kernel_rfl)).trans e3) ((at_dst 4 (by kernel_rfl)).trans e4) IL.out ?_
      refine wpAnyH_next 7 _ rfl rfl (by kernel_rfl) (Rt6.st_store_run 33 (.tmp 52) (.tmp 51) rfl ⟨b, 0 + i * 4, none⟩ (put_tmps_eq (fill_size _ _ _) (by kernel_rfl)) _ (put_tmps_ne (by rfl) ((at_dst 5 (by kernel_rfl)).trans e5)) RS ⟨trivial, wpAnyH_done (by kernel_rfl) ?_ _⟩)
      have B7 := Lib.hid (B6.out.trans (hU.mono B6.out.size))
      have G7 := Lib.hid (G6.out.below hU G6.out.lt)
      have E : Hid (TabAt F w8 g (addL rs r.x0 r.x1 r.x2 r.x3) ∧ Keep F w w8) := Lib.hid (by
        refine ⟨⟨⟨some ⟨b, 0, none⟩, c, ?_, ?_, X1.out, X2.out, X3.out⟩, fun x hx => ?_, by rw [AL.out, List.length_set]; exact H.out.few⟩, (Keep.of B7.out).trans (hk8.mono fun k f _ z => X2.out k z f)⟩
        · rw [AL.out, List.length_set, RN.out]
          exact (hk8.block g X3.out G7.out.lt).trans G7.out
        · rw [AL.out, List.length_set, RN.out]
          exact hr8
        · rw [AL.out] at hx
          rcases List.mem_or_eq_of_mem_set hx with hx | rfl
          · exact H.out.ok x hx
          · exact OKN.out)
      clear hG hgr hU RS hr8 hk8 XT XR G6 R6 K6 e3 e4 e5
      simp only [fill, dstAt, List.getElem?_cons_zero, List.getElem?_cons_succ, Option.bind_some, Act.put, List.setIfInBounds_toArray, List.set_cons_zero, List.set_cons_succ]
      generalize vals 0 = z0, vals 1 = z1, vals 2 = z2, vals 3 = z3, vals 4 = z4, vals 5 = z5 at *
      go_wp2_with fail
      go_ret
      exact ⟨rfl, E.out.1, E.out.2⟩
set_option maxRecDepth 100000 in
set_option maxHeartbeats 4000000 in
theorem new_ref (F : Nat → Prop) (g : Nat) (rs : List RouteR) (r : RouteR) (w : World) (h : TabAt F w g rs) (hF : ∀ k, F k → k < w.heap.size) (ha : r.x0.size ≤ 300) (hv : r.x2.size ≤ 300) (hok : addB r.x0 r.x1 r.x2 r.x3 = true) (hth : thereB rs (pfx r.x0 r.x1) r.x1 = false) (hfull : ¬ 64 ≤ rs.length) :
    Calls Try.prog 11 #[.pointer (some ⟨g, 0, none⟩), .agg (RA r)] w fun e w' => e = .returned (.int .i64 0) ∧ TabAt F w' g (addL rs r.x0 r.x1 r.x2 r.x3) ∧ Keep F w w' := by
  obtain ⟨hf, hpb, way⟩ := ref_ok r hok
  obtain ⟨n, hn⟩ : ∃ n, rs.length = n := ⟨_, rfl⟩
  have few := h.few
  rw [hn] at few
  have RN := Lib.hid hn
  have H := Lib.hid h
  have HF := Lib.hid hF
  have qs := pfx_size r.x0 r.x1
  obtain ⟨q, hq⟩ : ∃ q, pfx r.x0 r.x1 = q := ⟨_, rfl⟩
  obtain ⟨fb, hfb⟩ : ∃ fb, fitB r.x0.size r.x1 = fb := ⟨_, rfl⟩
  have PC := Lib.hid (fun W => prefix_ref r.x0 r.x1 ha W)
  rw [hq, hfb] at PC
  rw [hq] at qs
  have B0 := Lib.hid ((Below.refl w.heap.size w).alloc (Nat.le_refl _) (.cells (RA r) 33))
  have K0 := Lib.hid (Blk.new w 33 (RA r))
  have RP : (loadVar 31 ⟨w.heap.size, 0, none⟩).run Try.prog (w.alloc (.cells (RA r) 33)) = .ok (.agg #[.string r.x0, .int .i64 r.x1]) (w.alloc (.cells (RA r) 33)) := Part.run_part _ w.heap.size 0 31 [.string r.x0, .int .i64 r.x1] _ Try.underlying31 rfl (by kernel_rfl) (TabOps.blk_part K0.out 0 2)
  rw [hf] at hfb
  obtain rfl : fb = true := hfb.symm
  rw [hq] at way hth
  have OKN : Hid (Ok (⟨q, r.x1, r.x2, r.x3⟩ : RouteR)) := Lib.hid ⟨qs, hv⟩
  have HQ := Lib.hid hq
  have HTH := Lib.hid hth
  obtain ⟨A, c, hg0, hx0, hFg, hFA, hgA⟩ := h.ex
  rw [hn] at hg0 hx0 hfull
  have HG := Lib.hid hg0
  have HX := Lib.hid hx0
  have GL := Lib.hid hg0.lt
  have NBX : Hid (∀ k, own A k → k < w.heap.size) := Lib.hid fun k hk => hx0.row.lt hk
  have X1 := Lib.hid hFg
  have X2 := Lib.hid hFA
  have X3 := Lib.hid hgA
  obtain ⟨i, hi⟩ : ∃ i, placeN rs q r.x1 = i := ⟨_, rfl⟩
  have HI := Lib.hid hi
  have iln : i ≤ n := by rw [← hi, ← hn]; exact placeN_le _ _ _
  have QS := Lib.hid qs
  have AL : Hid (addL rs r.x0 r.x1 r.x2 r.x3 = rs.take i ++ (⟨q, r.x1, r.x2, r.x3⟩ : RouteR) :: rs.drop i) := Lib.hid (by
    unfold addL
    rw [hok, if_pos rfl, hq, hth, hi]
    rw [if_neg (by simp), if_neg (by omega)])
  clear h hF hq hfb hf hok hth hg0 hx0 hFg hFA hgA hi hn qs ha hv
  go_enter Try.func11, Try.ntmps11
  go_wp2_with (refine Store.at_load 31 (.tmp 11) ?_ ?_; exact rfl; refine Part.wpList_load_part rfl 31 (.tmp 11) rfl w.heap.size 0 [.string r.x0, .int .i64 r.x1] rfl RP ?_)
  refine (PC.out _).mono ?_
  rintro e w2 ⟨rfl, hb2⟩
  have B2 := Lib.hid (B0.out.trans (hb2.mono B0.out.size))
  have L2 : Hid (w.heap.size < w2.heap.size) := Lib.hid (by have := hb2.size; simp at this; omega)
  have KR2 := Lib.hid (K0.out.below hb2 K0.out.lt)
  have J2 := Lib.hid (Blk.new w2 31 #[.string ⟨#[]⟩, .int .i64 0])
  have K3 := Lib.hid (Part.setRow_blk J2.out #[.string q, .int .i64 r.x1])
  have B3 : Hid (Below w.heap.size w ((w2.alloc (.cells #[.string ⟨#[]⟩, .int .i64 0] 31)).setRow w2.heap.size #[.string q, .int .i64 r.x1])) := Lib.hid (setRow_bel (B2.out.alloc B2.out.size _) B2.out.size _)
  have KR3 : Hid (Blk ((w2.alloc (.cells #[.string ⟨#[]⟩, .int .i64 0] 31)).setRow w2.heap.size #[.string q, .int .i64 r.x1]) w.heap.size 33 (RA r)) := Lib.hid ((setRow_other _ _ _ _ (by have := L2.out; omega)).trans (Blk.alloc KR2.out _))
  clear hb2 RP K0 B0 B2 KR2 PC
  have KR4 : Hid (Blk (((w2.alloc (.cells #[.string ⟨#[]⟩, .int .i64 0] 31)).setRow w2.heap.size #[.string q, .int .i64 r.x1]).setRow w.heap.size #[.string q, .int .i64 r.x1, .string r.x2, .int .i64 r.x3]) w.heap.size 33 #[.string q, .int .i64 r.x1, .string r.x2, .int .i64 r.x3]) := Lib.hid (Part.setRow_blk KR3.out _)
  have KP4 : Hid (Blk (((w2.alloc (.cells #[.string ⟨#[]⟩, .int .i64 0] 31)).setRow w2.heap.size #[.string q, .int .i64 r.x1]).setRow w.heap.size #[.string q, .int .i64 r.x1, .string r.x2, .int .i64 r.x3]) w2.heap.size 31 #[.string q, .int .i64 r.x1]) := Lib.hid ((setRow_other _ _ _ _ (by have := L2.out; omega)).trans K3.out)
  have B4 : Hid (Below w.heap.size w (((w2.alloc (.cells #[.string ⟨#[]⟩, .int .i64 0] 31)).setRow w2.heap.size #[.string q, .int .i64 r.x1]).setRow w.heap.size #[.string q, .int .i64 r.x1, .string r.x2, .int .i64 r.x3])) := Lib.hid (setRow_bel B3.out (Nat.le_refl _) _)
  have G4 := Lib.hid (HG.out.below B4.out GL.out)
  have R4 := Lib.hid (HX.out.below B4.out)
  have PL := Lib.hid (place_row g A n c rs q r.x1 (((w2.alloc (.cells #[.string ⟨#[]⟩, .int .i64 0] 31)).setRow w2.heap.size #[.string q, .int .i64 r.x1]).setRow w.heap.size #[.string q, .int .i64 r.x1, .string r.x2, .int .i64 r.x3]) G4.out R4.out.row RN.out few H.out.ok (by have := QS.out; omega))
  rw [HTH.out, HI.out] at PL
  rcases way with z1 | ⟨z1, z2⟩
  all_goals
    go_wp2_with (first
          | (refine Store.at_store 31 (.tmp 5) (.tmp 14) ?_ ?_; exact rfl; refine wpList_store_row rfl 31 (.tmp 5) (.tmp 14) rfl w2.heap.size #[.string q, .int .i64 r.x1] rfl rfl 31 _ J2.out (by kernel_rfl) rfl (one_pf _ _) ?_)
          | (refine Store.at_load 9 (.tmp 19) ?_ ?_; exact rfl; refine Store2.wpList_load_cell rfl 9 (.tmp 19) rfl w.heap.size 2 (.string r.x2) rfl _ Try.underlying9 rfl 33 _ KR3.out rfl ?_)
          | (refine Store.at_load 9 (.tmp 23) ?_ ?_; exact rfl; refine Store2.wpList_load_cell rfl 9 (.tmp 23) rfl w.heap.size 2 (.string r.x2) rfl _ Try.underlying9 rfl 33 _ KR3.out rfl ?_)
          | (refine Store.at_load 9 (.tmp 26) ?_ ?_; exact rfl; refine Store2.wpList_load_cell rfl 9 (.tmp 26) rfl w2.heap.size 0 (.string q) rfl _ Try.underlying9 rfl 31 _ K3.out rfl ?_)
          | (refine Store.at_load 3 (.tmp 33) ?_ ?_; exact rfl; refine Store2.wpList_load_cell rfl 3 (.tmp 33) rfl w.heap.size 3 (.int .i64 r.x3) rfl _ Try.underlying3 rfl 33 _ KR3.out rfl ?_)
          | (refine Store.at_load 31 (.tmp 5) ?_ ?_; exact rfl; refine Loads.wpList_load_w rfl 31 (.tmp 5) rfl w2.heap.size rfl 31 #[.string q, .int .i64 r.x1] (0, 0) _ (K3.out) Try.underlying31 rfl (by kernel_rfl) ?_)
          | (refine Store.at_store 31 (.tmp 38) (.tmp 37) ?_ ?_; exact rfl; refine Store.wpList_store_two rfl 31 (.tmp 38) (.tmp 37) rfl w.heap.size 0 (.string q) (.int .i64 r.x1) rfl rfl 33 _ KR3.out (by simp) (by kernel_rfl) rfl rfl #[.string q, .int .i64 r.x1, .string r.x2, .int .i64 r.x3] rfl ?_)
          | (refine Store.at_load 31 (.tmp 5) ?_ ?_; exact rfl; refine Loads.wpList_load_w rfl 31 (.tmp 5) rfl w2.heap.size rfl 31 #[.string q, .int .i64 r.x1] (0, 0) _ (KP4.out) Try.underlying31 rfl (by kernel_rfl) ?_))
    generalize ((w2.alloc (.cells #[.string ⟨#[]⟩, .int .i64 0] 31)).setRow w2.heap.size #[.string q, .int .i64 r.x1]).setRow w.heap.size #[.string q, .int .i64 r.x1, .string r.x2, .int .i64 r.x3] = w5 at *
    refine PL.out.mono ?_
    rintro e w6 ⟨rfl, hb6⟩
    have B6 := Lib.hid (B4.out.trans (hb6.mono B4.out.size))
    have G6 := Lib.hid (G4.out.below hb6 G4.out.lt)
    have R6 := Lib.hid (R4.out.below hb6)
    have K6 := Lib.hid (KR4.out.below hb6 KR4.out.lt)
    clear hb6 PL J2 K3 KR3 B3 G4 R4 KP4 KR4 B4
    have c6 := G6.out.cell 0
    have g3 : decide ((64 : Int) ≤ (n : Int)) = false := decide_eq_false (by omega)
    have g3' : decide (64 ≤ n) = false := decide_eq_false hfull
    have N64 := Lib.hid (show n < 64 by omega)
    have HIN := Lib.hid iln
    obtain ⟨s1, t1⟩ := take_any R6.out.row i iln
    obtain ⟨S2, k2, s2, t2⟩ := drop_any R6.out.row RN.out i iln
    obtain ⟨m2, hm2⟩ : ∃ x, n - i = x := ⟨_, rfl⟩
    rw [hm2] at s2 t2
    have NB : Hid (∀ k, own A k → k < w6.heap.size) := Lib.hid fun k hk => R6.out.row.lt hk
    obtain ⟨A7, c7, w7, r7, x7, a7, k7⟩ := append_rt (rs := []) (RowX.nil RT 4 w6) A i c (rs.take i) (by rw [List.length_take, RN.out]; omega) (t1 w6 R6.out.row) (by omega)
    simp only [Nat.zero_add, List.nil_append] at r7 x7
    have k7' : ∀ k, k < w6.heap.size → w7.heap[k]? = w6.heap[k]? := fun k hk => k7.block k (fun ⟨x, z, _⟩ => by cases z) hk
    have G7 := Lib.hid (show Blk w7 g 29 #[.slice A n c] from (k7' g G6.out.lt).trans G6.out)
    have R7 := Lib.hid (R6.out.keep (w' := w7) fun k _ hk => k7' k hk)
    have K7 := Lib.hid (show Blk w7 w.heap.size 33 #[.string q, .int .i64 r.x1, .string r.x2, .int .i64 r.x3] from (k7' _ K6.out.lt).trans K6.out)
    have O7 : Hid (∀ k, own A7 k → w6.heap.size ≤ k) := Lib.hid fun k ⟨x, hx, hk⟩ => by
      rcases a7 with e | ⟨k', e, hl⟩
      · rw [e] at hx; cases hx
      · rw [e] at hx; cases hx; rw [← hk]; exact hl
    have S7 : Hid (w6.heap.size ≤ w7.heap.size) := Lib.hid k7.size
    have bL := Blk.new w7 33 #[.string q, .int .i64 r.x1, .string r.x2, .int .i64 r.x3]
    have x7' := Lib.hid (x7.below ((Below.refl w7.heap.size w7).alloc (Nat.le_refl _) (.cells #[.string q, .int .i64 r.x1, .string r.x2, .int .i64 r.x3] 33)))
    have G7' := Lib.hid (G7.out.alloc (.cells #[.string q, .int .i64 r.x1, .string r.x2, .int .i64 r.x3] 33))
    have R7' := Lib.hid (R7.out.below ((Below.refl w7.heap.size w7).alloc (Nat.le_refl _) (.cells #[.string q, .int .i64 r.x1, .string r.x2, .int .i64 r.x3] 33)))
    obtain ⟨A8, c8, w8, r8, x8, a8, k8⟩ := append_rt (w := w7.alloc (.cells #[.string q, .int .i64 r.x1, .string r.x2, .int .i64 r.x3] 33)) (rs := rs.take i) x7'.out (some ⟨w7.heap.size, 0, none⟩) 1 1 [(⟨q, r.x1, r.x2, r.x3⟩ : RouteR)] rfl (.inr ⟨_, _, rfl, fun j v hj => by
      have hj' : (RouteR.cells (⟨q, r.x1, r.x2, r.x3⟩ : RouteR))[j]? = some v := by simpa using hj
      rw [bL.cell, Nat.zero_add, ← Array.getElem?_toList]
      exact hj'⟩) (by omega)
    have g78 : g < (w7.alloc (.cells #[.string q, .int .i64 r.x1, .string r.x2, .int .i64 r.x3] 33)).heap.size := G7'.out.lt
    have G8 := Lib.hid (show Blk w8 g 29 #[.slice A n c] from (k8.block g (fun z => by have := O7.out g z; have := G6.out.lt; omega) g78).trans G7'.out)
    have R8 := Lib.hid (R7'.out.keep (w' := w8) fun k hk hlt => k8.block k (fun z => by have := O7.out k z; have := NB.out k hk; omega) hlt)
    have O8 : Hid (∀ k, own A8 k → w6.heap.size ≤ k) := Lib.hid fun k hk => by
      rcases a8 with e | ⟨k', e, hl⟩
      · rw [e] at hk; exact O7.out k hk
      · obtain ⟨x, hx, hk⟩ := hk
        have h3 : w6.heap.size ≤ k' := by have := S7.out; simp at hl; omega
        rw [e] at hx; cases hx; rw [← hk]
        exact h3
    obtain ⟨A9, c9, w9, r9, x9, a9, k9⟩ := append_rt x8 S2 m2 k2 (rs.drop i) (by rw [List.length_drop, RN.out]; exact hm2) (t2 w8 R8.out.row) (by omega)
    obtain ⟨N9, hN9⟩ : ∃ x, i + 1 + m2 = x := ⟨_, rfl⟩
    rw [hN9] at r9 x9
    have S8 : Hid (w7.heap.size ≤ w8.heap.size) := Lib.hid (by have := k8.size; simp at this; omega)
    have G9 := Lib.hid (show Blk w9 g 29 #[.slice A n c] from (k9.block g (fun z => by have := O8.out g z; have := G6.out.lt; omega) G8.out.lt).trans G8.out)
    have O9 : Hid (∀ k, own A9 k → w6.heap.size ≤ k) := Lib.hid fun k hk => by
      rcases a9 with e | ⟨k', e, hl⟩
      · rw [e] at hk; exact O8.out k hk
      · obtain ⟨x, hx, hk⟩ := hk
        rw [e] at hx; cases hx; rw [← hk]
        have := S7.out
        have := S8.out
        exact Nat.le_trans (by omega) hl
    have c7' := G7.out.cell 0
    have c8' := G8.out.cell 0
    have LN : Hid ((rs.take i ++ (⟨q, r.x1, r.x2, r.x3⟩ : RouteR) :: rs.drop i).length = N9) := Lib.hid (by have := RN.out; simp; omega)
    have OK' : Hid (∀ x ∈ rs.take i ++ (⟨q, r.x1, r.x2, r.x3⟩ : RouteR) :: rs.drop i, Ok x) := Lib.hid fun x hx => (List.mem_append.1 hx).elim (fun z => H.out.ok x (List.mem_of_mem_take z)) (fun z => (List.mem_cons.1 z).elim (fun e => e ▸ OKN.out) (fun z => H.out.ok x (List.mem_of_mem_drop z)))
    have F9 : Hid (Keep F w w9) := Lib.hid (((((Keep.of B6.out).trans (k7.mono fun k _ _ ⟨x, z, _⟩ => by cases z)).trans (Keep.of ((Below.refl w7.heap.size w7).alloc (Nat.le_refl _) (.cells #[.string q, .int .i64 r.x1, .string r.x2, .int .i64 r.x3] 33)))).trans (k8.mono fun k f _ z => by
      have := O7.out k z; have := HF.out k f; have := B6.out.size; omega)).trans (k9.mono fun k f _ z => by
      have := O8.out k z; have := HF.out k f; have := B6.out.size; omega))
    have X9 : Hid (RowX RT 4 w9 A9 N9 c9 ((rs.take i ++ (⟨q, r.x1, r.x2, r.x3⟩ : RouteR) :: rs.drop i).flatMap RouteR.cells)) := Lib.hid (by simpa using x9)
    have HBS : ∀ W, (Instr.buildSlice 27 1 #[(0, .agg #[.string q, .int .i64 r.x1, .string r.x2, .int .i64 r.x3])]).run Try.prog W = .ok (.slice (some ⟨W.heap.size, 0, none⟩) 1 1) (W.alloc (.cells #[.string q, .int .i64 r.x1, .string r.x2, .int .i64 r.x3] 33)) := fun W => run_one W (⟨q, r.x1, r.x2, r.x3⟩ : RouteR)
    clear x7 x8 x9 a7 a8 a9 k7 k8 k9 k7' hN9 hm2 t1 t2 x7' g78 bL
    go_wp2_with (first
      | (at_builtin; refine Lib.wpList_append_run w6 rfl (.tmp 59) (.tmp 65) 27 27 rfl (.slice none 0 0) (.slice A i c) rfl rfl (.slice A7 i c7) w7 (r7 27) ?_)
      | (at_builtin; refine Lib.wpList_append_run (w7.alloc (.cells #[.string q, .int .i64 r.x1, .string r.x2, .int .i64 r.x3] 33)) rfl (.tmp 67) (.tmp 69) 27 27 rfl (.slice A7 i c7) (.slice (some ⟨w7.heap.size, 0, none⟩) 1 1) rfl rfl (.slice A8 (i + 1) c8) w8 (r8 27) ?_)
      | (at_builtin; refine Lib.wpList_append_run w8 rfl (.tmp 71) (.tmp 77) 27 27 rfl (.slice A8 (i + 1) c8) (.slice S2 m2 k2) rfl rfl (.slice A9 N9 c9) w9 (r9 27) ?_)
      | (refine Store.at_load 33 (.tmp 3) ?_ ?_; exact rfl; refine Loads.wpList_load_w rfl 33 (.tmp 3) rfl w.heap.size rfl 33 #[.string q, .int .i64 r.x1, .string r.x2, .int .i64 r.x3] (0, 0) _ (K7.out) Try.underlying33 rfl (by kernel_rfl) ?_)
      | (refine Store.at_store 27 (.tmp 82) (.tmp 80) ?_ ?_; exact rfl; refine Store.wpList_store_one rfl 27 (.tmp 82) (.tmp 80) rfl g 0 (.slice A9 N9 c9) rfl rfl 29 _ G9.out (by simp) (by kernel_rfl) rfl #[.slice A9 N9 c9] rfl rfl ?_))
    go_ret
    have og : ¬ own A9 g := fun z => by have := O9.out g z; have := GL.out; have := B6.out.size; omega
    refine ⟨rfl, ?_, F9.out.trans (Keep.row _ g _ X1.out)⟩
    rw [AL.out]
    refine ⟨⟨A9, c9, ?_, ?_, X1.out, fun k hk f => ?_, og⟩, OK'.out, by rw [List.length_append, List.length_take, List.length_cons, List.length_drop, RN.out]; have := N64.out; omega⟩
    · rw [LN.out]
      exact setRow_heap _ _ _ _ _ _ G9.out
    · rw [LN.out]
      exact X9.out.keep fun k hk _ => setRow_other _ _ _ _ (fun z => og (z ▸ hk))
    · have := O9.out k hk
      have := HF.out k f
      have := B6.out.size
      omega
theorem add_ref (F : Nat → Prop) (g : Nat) (rs : List RouteR) (r : RouteR) (w : World) (h : TabAt F w g rs) (hF : ∀ k, F k → k < w.heap.size) (ha : r.x0.size ≤ 300) (hv : r.x2.size ≤ 300) :
    Calls Try.prog 11 #[.pointer (some ⟨g, 0, none⟩), .agg (RA r)] w fun e w' => e = .returned (.int .i64 (addE rs r.x0 r.x1 r.x2 r.x3)) ∧ TabAt F w' g (addL rs r.x0 r.x1 r.x2 r.x3) ∧ Keep F w w' := by
  cases hb : addB r.x0 r.x1 r.x2 r.x3 with
  | false =>
    have e1 : addE rs r.x0 r.x1 r.x2 r.x3 = 1 := by unfold addE; rw [hb]; rfl
    have e2 : addL rs r.x0 r.x1 r.x2 r.x3 = rs := by unfold addL; rw [hb]; rfl
    rw [e1, e2]
    exact bad_ref F g rs r w h hF ha hv hb
  | true =>
    cases ht : thereB rs (pfx r.x0 r.x1) r.x1 with
    | true =>
      have e1 : addE rs r.x0 r.x1 r.x2 r.x3 = 0 := by unfold addE; rw [hb, ht]; rfl
      rw [e1]
      exact there_ref F g rs r w h hF ha hv hb ht
    | false =>
      by_cases hf : 64 ≤ rs.length
      · have e1 : addE rs r.x0 r.x1 r.x2 r.x3 = 7 := by unfold addE; rw [hb, ht, if_pos rfl, if_neg (by simp), if_pos hf]
        have e2 : addL rs r.x0 r.x1 r.x2 r.x3 = rs := by unfold addL; rw [hb, ht, if_pos rfl, if_neg (by simp), if_pos hf]
        rw [e1, e2]
        exact full_ref F g rs r w h hF ha hv hb ht hf
      · have e1 : addE rs r.x0 r.x1 r.x2 r.x3 = 0 := by unfold addE; rw [hb, ht, if_pos rfl, if_neg (by simp), if_neg hf]
        rw [e1]
        exact new_ref F g rs r w h hF ha hv hb ht hf
end Go.Proofs.Ytnabjhdamofpgaa.TabR5
