/- RouteGone's walk. -/
import Derived.Test.YtnabjhdamofpgaaLawGoneD
import Derived.BigQuiet
import Derived.Deep.QuietTactic
import Derived.Deep.AppendSrc
set_option linter.unusedVariables false
namespace Go.Proofs.Ytnabjhdamofpgaa.LawGone18
open Go.RowKit Go.PlainAid Go.Proofs.Ytnabjhdamofpgaa.Sums Go.Proofs.Ytnabjhdamofpgaa.Mem Go.Proofs.Ytnabjhdamofpgaa.Blk Go.Proofs.Ytnabjhdamofpgaa.Grp Go.Proofs.Ytnabjhdamofpgaa.AdrD Go.Proofs.Ytnabjhdamofpgaa.AdrR Go.Proofs.Ytnabjhdamofpgaa.Steps Go.Proofs.Ytnabjhdamofpgaa.Com Go.Proofs.Ytnabjhdamofpgaa.RowN Go.Proofs.Ytnabjhdamofpgaa.RowA Go.Proofs.Ytnabjhdamofpgaa.ArgT Go.Proofs.Ytnabjhdamofpgaa.TabD Go.Proofs.Ytnabjhdamofpgaa.TabOps Go.Proofs.Ytnabjhdamofpgaa.TabM Go.Proofs.Ytnabjhdamofpgaa.Free Go.Proofs.Ytnabjhdamofpgaa.RtD Go.Proofs.Ytnabjhdamofpgaa.Rt4 Go.Proofs.Ytnabjhdamofpgaa.Rt7 Go.Proofs.Ytnabjhdamofpgaa.Rt9 Go.Proofs.Ytnabjhdamofpgaa.RtA Go.Proofs.Ytnabjhdamofpgaa.LawS18 Go.Proofs.Ytnabjhdamofpgaa.TabR3 Go.Proofs.Ytnabjhdamofpgaa.LawLong18 Go.Proofs.Ytnabjhdamofpgaa.LawGoneD

attribute [local irreducible] wpList wpQuiet
theorem rows_below {w w' : World} {A : Option Addr} {n : Nat} {rs : List RouteR} (h : RouteRows w A n rs) (hb : Below w.heap.size w w') : RouteRows w' A n rs :=
  ⟨h.1, fun hn => by
    obtain ⟨b, o, e, hlt, hall⟩ := h.2 hn
    exact ⟨b, o, e, Nat.lt_of_lt_of_le hlt hb.size, fun k r hr => ⟨(hall k r hr).1, fun j v hj => (hb.cell (p := ⟨b, o + k * 4 + j, none⟩) hlt).trans ((hall k r hr).2 j v hj)⟩⟩⟩
set_option maxRecDepth 100000 in
set_option maxHeartbeats 8000000 in
theorem gone_any (A : Option Addr) (n c : Nat) (rs : List RouteR) (q : RouteR) (d : ByteArray) (w : World) (h : RouteRows w A n rs) (hm : n ≤ 9223372036854775807) (hq0 : q.x0.size ≤ 140737488355328) (hq2 : q.x2.size ≤ 140737488355328) (hd : d.size ≤ 140737488355328) : Calls Try.prog 7 #[.slice A n c, .agg (RA q), .string d] w fun e w' => e = .returned (.bool true) ∧ Below w.heap.size w w' := by
  have hB0 := (Below.refl w.heap.size w).alloc (Nat.le_refl _) (.cells (RA q) 33)
  have B0 := Lib.hid hB0
  have K0 := Lib.hid (Blk.new w 33 (RA q))
  have S0 : Hid ((w.alloc (.cells (RA q) 33)).heap.size = w.heap.size + 1) := Lib.hid (by simp)
  have ROWS := Lib.hid (rows_below h hB0)
  have RN := Lib.hid h.1
  have N0 := Lib.hid (solo_new (w.alloc (.cells (RA q) 33)))
  have w1_ : IntKind.i64.wrap ((q.x0.size : Int) + (q.x2.size : Int)) = (q.x0.size : Int) + (q.x2.size : Int) := IntWalk.i64_in _ (by omega)
  have w2_ : IntKind.i64.wrap ((q.x0.size : Int) + (q.x2.size : Int) + (d.size : Int)) = (q.x0.size : Int) + (q.x2.size : Int) + (d.size : Int) := IntWalk.i64_in _ (by omega)
  clear h hB0
  by_cases n40 : 40 < n
  · have q0 : decide ((40 : Int) < (n : Int)) = true := decide_eq_true (by omega)
    have q0' : decide (40 < n) = true := decide_eq_true n40
    clear n40 N0
    go_enter Try.func7, Try.ntmps7
    go_wp2_with fail
    go_ret
    exact ⟨rfl, B0.out⟩
  have q0 : decide ((40 : Int) < (n : Int)) = false := decide_eq_false (by omega)
  have q0' : decide (40 < n) = false := decide_eq_false n40
  by_cases s300 : 300 < q.x0.size + q.x2.size + d.size
  · have z0 : decide ((300 : Int) < (q.x0.size : Int) + (q.x2.size : Int) + (d.size : Int)) = true := decide_eq_true (by omega)
    have z0' : decide (300 < q.x0.size + q.x2.size + d.size) = true := decide_eq_true s300
    clear n40 s300 N0
    go_enter Try.func7, Try.ntmps7
    go_wp2_with fail
    go_ret
    exact ⟨rfl, B0.out⟩
  have z0 : decide ((300 : Int) < (q.x0.size : Int) + (q.x2.size : Int) + (d.size : Int)) = false := decide_eq_false (by omega)
  have z0' : decide (300 < q.x0.size + q.x2.size + d.size) = false := decide_eq_false s300
  have hn : n ≤ 40 := by omega
  have dm : d.size ≤ maxLen := by unfold maxLen; omega
  have qm0 : q.x0.size ≤ maxLen := by unfold maxLen; omega
  have qm2 : q.x2.size ≤ maxLen := by unfold maxLen; omega
  clear n40 s300
  go_enter Try.func7, Try.ntmps7
  go_wp2_with fail
  clear w1_ w2_
  generalize w.alloc (.cells (RA q) 33) = w0 at *
  refine N0.out.mono ?_
  rintro e w1 ⟨rfl, hb, hlt, ht⟩
  have B1 := Lib.hid hb
  have S1 := Lib.hid ht
  clear hb hlt ht N0
  go_wp2_with fail
  go_loopw [8] (fun iv wr => ∃ (i : Nat) (ts : List RouteR), iv = .int .i64 (i : Int) ∧ i ≤ n ∧ Hid (ts = foldA (rs.take i)) ∧ Hid (Solo (RtX w0.heap.size ts) (fun k => k < w0.heap.size) wr) ∧ Hid (Below w0.heap.size w0 wr)) (fun iv _ => n - (intOf iv).toNat)
  case atStart => exact ⟨0, [], rfl, by omega, Lib.hid rfl, S1, B1⟩
  case round =>
    clear S1 B1
    obtain ⟨i, ts, rfl, hi, HT, HS, HB⟩ := hrel
    by_cases hlt : i < n
    · skip
      have hr : rs[i]? = some (rs[i]'(by rw [RN.out]; exact hlt)) := List.getElem?_eq_getElem _
      generalize rs[i]'(by rw [RN.out]; exact hlt) = r at hr
      have HR := Lib.hid hr
      obtain ⟨s0, s2, b, o, rfl, hbl, AT⟩ := rows_at ROWS.out HB.out hr
      have AT0 := Lib.hid AT
      have p0 := AT 0 _ rfl
      have p2 := AT 2 _ rfl
      simp only [Nat.add_zero] at p0
      have hw : IntKind.i64.wrap ((r.x0.size : Int) + (r.x2.size : Int)) = (r.x0.size : Int) + (r.x2.size : Int) := IntWalk.i64_in _ (by omega)
      clear hr AT
      by_cases big : 300 < r.x0.size + r.x2.size
      · have q1 : decide ((300 : Int) < (r.x0.size : Int) + (r.x2.size : Int)) = true := decide_eq_true (by omega)
        have q1' : decide (300 < r.x0.size + r.x2.size) = true := decide_eq_true big
        clear big HS AT0
        go_wp2_with fail
        go_quiet (fail)
        go_wp2_with fail
        go_ret
        exact ⟨rfl, below_drewN (B0.out.trans (HB.out.mono B0.out.size)) _⟩
      · have q1 : decide ((300 : Int) < (r.x0.size : Int) + (r.x2.size : Int)) = false := decide_eq_false (by omega)
        have q1' : decide (300 < r.x0.size + r.x2.size) = false := decide_eq_false big
        have sz0 : r.x0.size ≤ maxLen := by unfold maxLen; omega
        have sz2 : r.x2.size ≤ maxLen := by unfold maxLen; omega
        have AC := Lib.hid (fun W (H : Solo (RtX w0.heap.size ts) (fun k => k < w0.heap.size) W) => solo_add r H sz0 sz2)
        clear big s0 s2 sz0 sz2
        go_wp2_with fail
        go_quiet (fail)
        have S2 := Lib.hid (HS.out.up (rt_obj _ _) (below_drewN (Below.refl wr.heap.size wr) nq))
        have B2 := Lib.hid (below_drewN HB.out nq)
        have RP : (loadVar 33 ⟨b, o + i * 4, none⟩).run Try.prog (wr.drewN nq) = .ok (.agg (RA r)) (wr.drewN nq) := Part.run_part _ b (o + i * 4) 33 r.cells _ Try.underlying33 rfl (by kernel_rfl) (show Part.At (wr.drewN nq) b (o + i * 4) r.cells from AT0.out)
        generalize wr.drewN nq = w2 at *
        clear p0 p2 hw q1 q1' AT0 HS HB
        go_wp2_with (refine Store.at_load 33 (.tmp 66) ?_ ?_; exact rfl; refine Part.wpList_load_part rfl 33 (.tmp 66) rfl b (o + i * 4) [.string r.x0, .int .i64 r.x1, .string r.x2, .int .i64 r.x3] rfl RP ?_)
        refine (AC.out _ S2.out).mono ?_
        rintro e w3 ⟨rfl, hs3, hk3⟩
        have S3 := Lib.hid hs3
        have B3 := Lib.hid (B2.out.trans (hk3.below B2.out.size fun k hk => hk))
        have TN : Hid (addL ts r.x0 r.x1 r.x2 r.x3 = foldA (rs.take (i + 1))) := Lib.hid (by rw [foldA_next HR.out, ← HT.out])
        clear hs3 hk3 AC S2 B2 RP
        go_wp2_with fail
        go_roundw
        case rel => exact ⟨i + 1, _, by go_num, by omega, TN, S3, B3⟩
        case measure => simp [intOf]; omega
    · obtain rfl : i = n := by omega
      have tlen : ts.length ≤ 40 := by
        rw [HT.out, List.take_of_length_le (by rw [RN.out]; exact Nat.le_refl _)]
        have := fold_len rs [] (by rw [RN.out]; simp; omega)
        rw [RN.out] at this
        unfold foldA
        simp at this
        omega
      obtain ⟨tb, _⟩ := solo_tab HS.out
      have TB := Lib.hid tb
      have LC := Lib.hid (solo_list HS.out)
      obtain ⟨m, hmm⟩ : ∃ m, ts.length = m := ⟨_, rfl⟩
      have ML := Lib.hid hmm
      rw [hmm] at LC tlen
      have KL := Lib.hid (K0.out.below HB.out K0.out.lt)
      have BL := Lib.hid (B0.out.trans (HB.out.mono B0.out.size))
      have SL_ := Lib.hid HB.out.size
      clear tb hmm HT HB ROWS RN q0 q0' z0 z0' K0 B0
      go_wp2_with fail
      refine LC.out.mono ?_
      rintro e w2 ⟨⟨A2, rfl, hl2, ho2⟩, hb2⟩
      have FC := Lib.hid (solo_find d (HS.out.up (rt_obj _ _) hb2) dm)
      obtain ⟨g2, rfl, hg2, hat2⟩ := hl2.at
      obtain ⟨a, ha⟩ : ∃ a, findR ts d = a := ⟨_, rfl⟩
      obtain ⟨fe, hfe⟩ : ∃ fe, findE ts d = fe := ⟨_, rfl⟩
      rw [ha, hfe] at FC
      have FA := Lib.hid ha
      have FE := Lib.hid hfe
      have G2 := Lib.hid (show wr.heap.size ≤ g2 from ho2 g2 ⟨_, rfl, rfl⟩)
      have L2 := Lib.hid hl2
      have HB2 := Lib.hid hb2
      clear hl2 ho2 hb2 LC hg2 hat2 ha hfe
      go_wp2_with fail
      refine FC.out.mono ?_
      rintro e w3 ⟨rfl, hb3⟩
      have HB3 := Lib.hid (HB2.out.trans (hb3.mono HB2.out.size))
      have H34 := Lib.hid ((Below.refl w3.heap.size w3).alloc (Nat.le_refl _) (.cells (RA a) 33))
      have H45 := Lib.hid (H34.out.alloc (by simp) (.cells #[.string d, .int .i64 0, .string ⟨#[]⟩, .int .i64 77] 33))
      have L5 := Lib.hid ((L2.out.below hb3).below H45.out)
      have K3 := Lib.hid (Blk.alloc (Blk.new w3 33 (RA a)) (.cells #[.string d, .int .i64 0, .string ⟨#[]⟩, .int .i64 77] 33))
      have J3 : Hid (Blk ((w3.alloc (.cells (RA a) 33)).alloc (.cells #[.string d, .int .i64 0, .string ⟨#[]⟩, .int .i64 77] 33)) (w3.heap.size + 1) 33 #[.string d, .int .i64 0, .string ⟨#[]⟩, .int .i64 77]) := Lib.hid (by
        have := Blk.new (w3.alloc (.cells (RA a) 33)) 33 #[.string d, .int .i64 0, .string ⟨#[]⟩, .int .i64 77]
        rw [show (w3.alloc (.cells (RA a) 33)).heap.size = w3.heap.size + 1 by simp] at this
        exact this)
      have Z5 : Hid (((w3.alloc (.cells (RA a) 33)).alloc (.cells #[.string d, .int .i64 0, .string ⟨#[]⟩, .int .i64 77] 33)).heap.size = w3.heap.size + 2) := Lib.hid (by simp)
      have HB5 := Lib.hid (HB3.out.trans (H45.out.mono HB3.out.size))
      have S5 : Hid (Solo (RtX w0.heap.size ts) (fun k => k < w0.heap.size ∨ (wr.heap.size ≤ k ∧ k < w3.heap.size + 2)) ((w3.alloc (.cells (RA a) 33)).alloc (.cells #[.string d, .int .i64 0, .string ⟨#[]⟩, .int .i64 77] 33))) := Lib.hid (HS.out.below (rt_obj _ _) HB5.out fun k z => z.imp id fun z => ⟨z.1, by rw [Z5.out]; exact z.2⟩)
      have KQ := Lib.hid (KL.out.below HB5.out KL.out.lt)
      have BS := Lib.hid (BL.out.trans (HB5.out.mono BL.out.size))
      have LT5 : Hid (g2 < w3.heap.size + 2) := Lib.hid (by
        obtain ⟨g', e', lt', _⟩ := L5.out.at
        cases e'
        rw [Z5.out] at lt'
        exact lt')
      have LT3 : Hid (wr.heap.size ≤ w3.heap.size) := Lib.hid HB3.out.size
      have RPQ : (loadVar 31 ⟨w.heap.size, 0, none⟩).run Try.prog ((w3.alloc (.cells (RA a) 33)).alloc (.cells #[.string d, .int .i64 0, .string ⟨#[]⟩, .int .i64 77] 33)) = .ok (.agg #[.string q.x0, .int .i64 q.x1]) ((w3.alloc (.cells (RA a) 33)).alloc (.cells #[.string d, .int .i64 0, .string ⟨#[]⟩, .int .i64 77] 33)) := Part.run_part _ w.heap.size 0 31 [.string q.x0, .int .i64 q.x1] _ Try.underlying31 rfl (by kernel_rfl) (TabOps.blk_part KQ.out 0 2)
      clear hb3 FC L2 HB2 H34 HB5 KL BL HS HB3
      have m64 : decide ((m : Int) < 64) = true := decide_eq_true (by omega)
      have m64' : decide (m < 64) = true := decide_eq_true (by omega)
      by_cases h182 : fe = 182
      · subst h182
        obtain ⟨f1, f2, f3, f4, f5⟩ := all_found TB.out (by rw [ML.out]; omega) FE.out
        have A5 := Lib.hid (solo_add (⟨d, 0, ⟨#[]⟩, 77⟩ : RouteR) S5.out dm (by unfold maxLen; exact Nat.zero_le _))
        simp only at A5
        rw [f1] at A5
        obtain ⟨ts6, ht6⟩ : ∃ ts6, addL ts d 0 ⟨#[]⟩ 77 = ts6 := ⟨_, rfl⟩
        rw [ht6] at A5 f2 f3 f4 f5
        obtain ⟨b, hb⟩ : ∃ b, findR ts6 d = b := ⟨_, rfl⟩
        rw [hb] at f2
        obtain ⟨b0, b1, b2, b3⟩ := b
        simp only at f2
        subst f2
        have F6 := Lib.hid (fun W (H : Solo (RtX w0.heap.size ts6) (fun k => k < w0.heap.size ∨ (wr.heap.size ≤ k ∧ k < w3.heap.size + 2)) W) => solo_find d H dm)
        rw [hb, f3] at F6
        have R6 := Lib.hid (fun W (H : Solo (RtX w0.heap.size ts6) (fun k => k < w0.heap.size ∨ (wr.heap.size ≤ k ∧ k < w3.heap.size + 2)) W) => solo_rem d 0 H dm)
        rw [f4, f5] at R6
        clear ht6 hb f1 f3 f4 f5 RPQ
        go_wp2_with (refine Store.at_load 33 (.tmp 12) ?_ ?_; exact rfl; refine Loads.wpList_load_w rfl 33 (.tmp 12) rfl (w3.heap.size + 1) rfl 33 #[.string d, .int .i64 0, .string ⟨#[]⟩, .int .i64 77] (0, 0) _ (J3.out) Try.underlying33 rfl (by kernel_rfl) ?_)
        generalize (w3.alloc (.cells (RA a) 33)).alloc (.cells #[.string d, .int .i64 0, .string ⟨#[]⟩, .int .i64 77] 33) = w5 at *
        refine A5.out.mono ?_
        rintro e w6 ⟨rfl, hs6, hk6⟩
        have S6 := Lib.hid hs6
        have KQ6 : Hid (Blk w6 w.heap.size 33 (RA q)) := Lib.hid ((hk6.block _ (.inl (by have := S0.out; omega)) KQ.out.lt).trans KQ.out)
        have KA6 : Hid (Blk w6 w3.heap.size 33 (RA a)) := Lib.hid ((hk6.block _ (.inr ⟨LT3.out, by omega⟩) K3.out.lt).trans K3.out)
        have KJ6 : Hid (Blk w6 (w3.heap.size + 1) 33 #[.string d, .int .i64 0, .string ⟨#[]⟩, .int .i64 77]) := Lib.hid ((hk6.block _ (.inr ⟨by have := LT3.out; omega, by omega⟩) J3.out.lt).trans J3.out)
        have L6 := Lib.hid (L5.out.keep (F := fun k => k < w0.heap.size ∨ (wr.heap.size ≤ k ∧ k < w3.heap.size + 2)) (fun k z => by obtain ⟨x, hx, hk⟩ := z; cases hx; have hk : g2 = k := hk; subst hk; exact .inr ⟨G2.out, LT5.out⟩) hk6)
        have BS6 := Lib.hid (BS.out.trans (hk6.below (B := w.heap.size) BS.out.size fun k hk => .inl (by have := S0.out; omega)))
        clear hs6 hk6 A5 S5 KQ K3 J3 L5 BS H45
        go_wp2_with fail
        refine (F6.out _ S6.out).mono ?_
        rintro e w7 ⟨rfl, hb7⟩
        have H78 := (hb7.trans ((Below.refl w7.heap.size w7).alloc (Nat.le_refl _) (.cells (RA ⟨b0, b1, b2, 77⟩) 33)|>.mono hb7.size))
        have S8 := Lib.hid (S6.out.up (rt_obj _ _) H78)
        have KQ8 := Lib.hid (Blk.below KQ6.out H78 (Blk.lt KQ6.out))
        have KA8 := Lib.hid (KA6.out.below H78 KA6.out.lt)
        have KJ8 := Lib.hid (KJ6.out.below H78 KJ6.out.lt)
        have L8 := Lib.hid (L6.out.below H78)
        have BS8 := Lib.hid (BS6.out.trans (H78.mono BS6.out.size))
        have c3 := (Blk.new w7 33 (RA ⟨b0, b1, b2, 77⟩)).cell 3
        have RPJ : (loadVar 31 ⟨w3.heap.size + 1, 0, none⟩).run Try.prog (w7.alloc (.cells (RA ⟨b0, b1, b2, 77⟩) 33)) = .ok (.agg #[.string d, .int .i64 0]) (w7.alloc (.cells (RA ⟨b0, b1, b2, 77⟩) 33)) := Part.run_part _ (w3.heap.size + 1) 0 31 [.string d, .int .i64 0] _ Try.underlying31 rfl (by kernel_rfl) (TabOps.blk_part KJ8.out 0 2)
        clear hb7 S6 KQ6 KA6 KJ6 L6 BS6 H78 F6
        go_wp2_with (first
          | (refine Store.at_load 31 (.tmp 109) ?_ ?_; exact rfl; refine Part.wpList_load_part rfl 31 (.tmp 109) rfl (w3.heap.size + 1) 0 [.string d, .int .i64 0] rfl RPJ ?_))
        generalize w7.alloc (.cells (RA ⟨b0, b1, b2, 77⟩) 33) = w8 at *
        refine (R6.out _ S8.out).mono ?_
        rintro e w9 ⟨rfl, hs9, hk9⟩
        have S9 := Lib.hid hs9
        have KQ9 : Hid (Blk w9 w.heap.size 33 (RA q)) := Lib.hid ((hk9.block _ (.inl (by have := S0.out; omega)) KQ8.out.lt).trans KQ8.out)
        have KA9 : Hid (Blk w9 w3.heap.size 33 (RA a)) := Lib.hid ((hk9.block _ (.inr ⟨LT3.out, by omega⟩) KA8.out.lt).trans KA8.out)
        have L9 := Lib.hid (L8.out.keep (F := fun k => k < w0.heap.size ∨ (wr.heap.size ≤ k ∧ k < w3.heap.size + 2)) (fun k z => by obtain ⟨x, hx, hk⟩ := z; cases hx; have hk : g2 = k := hk; subst hk; exact .inr ⟨G2.out, LT5.out⟩) hk9)
        have BS9 := Lib.hid (BS8.out.trans (hk9.below (B := w.heap.size) BS8.out.size fun k hk => .inl (by have := S0.out; omega)))
        have RPQ : (loadVar 31 ⟨w.heap.size, 0, none⟩).run Try.prog w9 = .ok (.agg #[.string q.x0, .int .i64 q.x1]) w9 := Part.run_part _ w.heap.size 0 31 [.string q.x0, .int .i64 q.x1] _ Try.underlying31 rfl (by kernel_rfl) (TabOps.blk_part KQ9.out 0 2)
        clear hs9 hk9 R6 S8 KQ8 KA8 KJ8 L8 BS8 RPJ c3
        have RQ := Lib.hid (solo_rem q.x0 q.x1 S9.out qm0)
        by_cases hre : remE ts q.x0 q.x1 = 0
        · rw [hre] at RQ
          go_wp2_with (refine Store.at_load 31 (.tmp 115) ?_ ?_; exact rfl; refine Part.wpList_load_part rfl 31 (.tmp 115) rfl w.heap.size 0 [.string q.x0, .int .i64 q.x1] rfl RPQ ?_)
          refine RQ.out.mono ?_
          rintro e w10 ⟨rfl, hs10, hk10⟩
          have B10 := Lib.hid (BS9.out.trans (hk10.below (B := w.heap.size) BS9.out.size fun k hk => .inl (by have := S0.out; omega)))
          clear hs10 hk10
          go_wp2_with fail
          refine (awake_any _).mono ?_
          rintro e w11 ⟨rfl, hb11⟩
          have B11 := Lib.hid (B10.out.trans (hb11.mono B10.out.size))
          clear hb11
          go_wp2_with fail
          go_ret
          exact ⟨rfl, B11.out⟩
        · obtain ⟨rb, re6, rl⟩ := rem_no hre
          obtain ⟨way, rla⟩ := gone_again (v := q.x2) (p := q.x3) hre (by rw [ML.out]; omega)
          rw [re6, rl] at RQ
          obtain ⟨fv, hfv⟩ : ∃ fv, addE ts q.x0 q.x1 q.x2 q.x3 = fv := ⟨_, rfl⟩
          obtain ⟨ts1, hts1⟩ : ∃ ts1, addL ts q.x0 q.x1 q.x2 q.x3 = ts1 := ⟨_, rfl⟩
          obtain ⟨gv, hgv⟩ : ∃ gv, remE ts1 q.x0 q.x1 = gv := ⟨_, rfl⟩
          rw [hts1] at way rla
          rw [hfv, hgv] at way
          have AQ := Lib.hid (fun W (H : Solo (RtX w0.heap.size ts) (fun k => k < w0.heap.size ∨ (wr.heap.size ≤ k ∧ k < w3.heap.size + 2)) W) => solo_add q H qm0 qm2)
          rw [hfv, hts1] at AQ
          have RR := Lib.hid (fun W (H : Solo (RtX w0.heap.size ts1) (fun k => k < w0.heap.size ∨ (wr.heap.size ≤ k ∧ k < w3.heap.size + 2)) W) => solo_rem q.x0 q.x1 H qm0)
          rw [hgv, rla] at RR
          have LC := Lib.hid (fun W (H : Solo (RtX w0.heap.size ts) (fun k => k < w0.heap.size ∨ (wr.heap.size ≤ k ∧ k < w3.heap.size + 2)) W) => solo_list H)
          rw [ML.out] at LC
          have FC := Lib.hid (fun W (H : Solo (RtX w0.heap.size ts) (fun k => k < w0.heap.size ∨ (wr.heap.size ≤ k ∧ k < w3.heap.size + 2)) W) => solo_find d H dm)
          rw [FA.out, FE.out] at FC
          have EQ : ∀ W, (binOp .eql 33 (.agg #[.string a.x0, .int .i64 a.x1, .string a.x2, .int .i64 a.x3]) (.agg #[.string a.x0, .int .i64 a.x1, .string a.x2, .int .i64 a.x3])).run Try.prog W = .ok (.bool true) W := fun W => by
            rw [run_eql_struct, show (#[.string a.x0, .int .i64 a.x1, .string a.x2, .int .i64 a.x3] : Array Value) = a.cells.toArray from rfl, EqR.eq_RouteR a a W, (EqR.eqb_Route a a).2 rfl]
            rfl
          clear hre rb re6 rl rla hfv hts1 hgv
          rcases way with ⟨rfl, rfl⟩ | ⟨rfl, rfl⟩
          all_goals
            go_wp2_with (refine Store.at_load 31 (.tmp 115) ?_ ?_; exact rfl; refine Part.wpList_load_part rfl 31 (.tmp 115) rfl w.heap.size 0 [.string q.x0, .int .i64 q.x1] rfl RPQ ?_)
            refine RQ.out.mono ?_
            rintro e w10 ⟨rfl, hs10, hk10⟩
            have S10 := Lib.hid hs10
            have KQ10 : Hid (Blk w10 w.heap.size 33 (RA q)) := Lib.hid ((hk10.block _ (.inl (by have := S0.out; omega)) KQ9.out.lt).trans KQ9.out)
            have KA10 : Hid (Blk w10 w3.heap.size 33 (RA a)) := Lib.hid ((hk10.block _ (.inr ⟨LT3.out, by omega⟩) KA9.out.lt).trans KA9.out)
            have L10 := Lib.hid (L9.out.keep (F := fun k => k < w0.heap.size ∨ (wr.heap.size ≤ k ∧ k < w3.heap.size + 2)) (fun k z => by obtain ⟨x, hx, hk⟩ := z; cases hx; have hk : g2 = k := hk; subst hk; exact .inr ⟨G2.out, LT5.out⟩) hk10)
            have B10 := Lib.hid (BS9.out.trans (hk10.below (B := w.heap.size) BS9.out.size fun k hk => .inl (by have := S0.out; omega)))
            clear hs10 hk10 RQ S9 KQ9 KA9 L9 BS9 RPQ
            go_wp2_with (refine Store.at_load 33 (.tmp 4) ?_ ?_; exact rfl; refine Loads.wpList_load_w rfl 33 (.tmp 4) rfl w.heap.size rfl 33 (RA q) (0, 0) _ (KQ10.out) Try.underlying33 rfl (by kernel_rfl) ?_)
            refine (AQ.out _ S10.out).mono ?_
            rintro e w11 ⟨rfl, hs11, hk11⟩
            have S11 := Lib.hid hs11
            have KQ11 : Hid (Blk w11 w.heap.size 33 (RA q)) := Lib.hid ((hk11.block _ (.inl (by have := S0.out; omega)) KQ10.out.lt).trans KQ10.out)
            have KA11 : Hid (Blk w11 w3.heap.size 33 (RA a)) := Lib.hid ((hk11.block _ (.inr ⟨LT3.out, by omega⟩) KA10.out.lt).trans KA10.out)
            have L11 := Lib.hid (L10.out.keep (F := fun k => k < w0.heap.size ∨ (wr.heap.size ≤ k ∧ k < w3.heap.size + 2)) (fun k z => by obtain ⟨x, hx, hk⟩ := z; cases hx; have hk : g2 = k := hk; subst hk; exact .inr ⟨G2.out, LT5.out⟩) hk11)
            have B11 := Lib.hid (B10.out.trans (hk11.below (B := w.heap.size) B10.out.size fun k hk => .inl (by have := S0.out; omega)))
            have RPQ : (loadVar 31 ⟨w.heap.size, 0, none⟩).run Try.prog w11 = .ok (.agg #[.string q.x0, .int .i64 q.x1]) w11 := Part.run_part _ w.heap.size 0 31 [.string q.x0, .int .i64 q.x1] _ Try.underlying31 rfl (by kernel_rfl) (TabOps.blk_part KQ11.out 0 2)
            clear hs11 hk11 AQ S10 KQ10 KA10 L10 B10
            go_wp2_with (refine Store.at_load 31 (.tmp 124) ?_ ?_; exact rfl; refine Part.wpList_load_part rfl 31 (.tmp 124) rfl w.heap.size 0 [.string q.x0, .int .i64 q.x1] rfl RPQ ?_)
            refine (RR.out _ S11.out).mono ?_
            rintro e w12 ⟨rfl, hs12, hk12⟩
            have S12 := Lib.hid hs12
            have KA12 : Hid (Blk w12 w3.heap.size 33 (RA a)) := Lib.hid ((hk12.block _ (.inr ⟨LT3.out, by omega⟩) KA11.out.lt).trans KA11.out)
            have L12 := Lib.hid (L11.out.keep (F := fun k => k < w0.heap.size ∨ (wr.heap.size ≤ k ∧ k < w3.heap.size + 2)) (fun k z => by obtain ⟨x, hx, hk⟩ := z; cases hx; have hk : g2 = k := hk; subst hk; exact .inr ⟨G2.out, LT5.out⟩) hk12)
            have B12 := Lib.hid (B11.out.trans (hk12.below (B := w.heap.size) B11.out.size fun k hk => .inl (by have := S0.out; omega)))
            clear hs12 hk12 RR S11 KQ11 KA11 L11 B11 RPQ
            go_wp2_with fail
            refine (LC.out _ S12.out).mono ?_
            rintro e w13 ⟨⟨A3, rfl, hl13, ho13⟩, hb13⟩
            obtain ⟨g3, rfl, hg3, -⟩ := hl13.at
            have L3 := Lib.hid hl13
            have S13 := Lib.hid (S12.out.up (rt_obj _ _) hb13)
            have KA13 := Lib.hid (KA12.out.below hb13 KA12.out.lt)
            have L13 := Lib.hid (L12.out.below hb13)
            have B13 := Lib.hid (B12.out.trans (hb13.mono B12.out.size))
            clear hl13 ho13 hb13 hg3 LC S12 KA12 L12 B12
            go_wp2_with fail
            go_loopw [19] (fun iv wv => ∃ j : Nat, iv = .int .i64 (j : Int) ∧ j ≤ m ∧ Hid (Below w13.heap.size w13 wv)) (fun iv _ => m - (intOf iv).toNat)
            case atStart => exact ⟨0, rfl, by omega, Lib.hid (Below.refl _ _)⟩
            case round =>
              obtain ⟨j, rfl, hj, HW⟩ := hrel
              by_cases hlt3 : j < m
              · have hs : ts[j]? = some (ts[j]'(by rw [ML.out]; exact hlt3)) := List.getElem?_eq_getElem _
                generalize ts[j]'(by rw [ML.out]; exact hlt3) = s at hs
                obtain ⟨g2_, e2, _, hat2⟩ := (L13.out.below HW.out).at
                cases e2
                obtain ⟨g3_, e3, _, hat3⟩ := (L3.out.below HW.out).at
                cases e3
                have p0 := hat2 j s hs 0 _ rfl
                have p1 := hat2 j s hs 1 _ rfl
                have p2 := hat2 j s hs 2 _ rfl
                have p3 := hat2 j s hs 3 _ rfl
                have r0 := hat3 j s hs 0 _ rfl
                have r1 := hat3 j s hs 1 _ rfl
                have r2 := hat3 j s hs 2 _ rfl
                have r3 := hat3 j s hs 3 _ rfl
                simp only [Nat.add_zero, Nat.zero_add] at p0 p1 p2 p3 r0 r1 r2 r3
                have NEQ : ∀ W, (binOp .neq 33 (.agg #[.string s.x0, .int .i64 s.x1, .string s.x2, .int .i64 s.x3]) (.agg #[.string s.x0, .int .i64 s.x1, .string s.x2, .int .i64 s.x3])).run Try.prog W = .ok (.bool false) W := fun W => by
                  rw [run_neq_struct, show (#[.string s.x0, .int .i64 s.x1, .string s.x2, .int .i64 s.x3] : Array Value) = s.cells.toArray from rfl, EqR.eq_RouteR s s W, (EqR.eqb_Route s s).2 rfl]
                  rfl
                have mm : ((m : Int) != (m : Int)) = false := by simp
                clear hs hat2 hat3
                go_wp2_with fail
                go_quiet (fail)
                clear p0 p1 p2 p3 r0 r1 r2 r3 NEQ
                go_wp2_with fail
                go_roundw
                case rel => exact ⟨j + 1, by go_num, by omega, Lib.hid (below_drewN HW.out _)⟩
                case measure => simp [intOf]; omega
              · obtain rfl : j = m := by omega
                have FQ := Lib.hid (FC.out _ (S13.out.up (rt_obj _ _) HW.out))
                have KA14 := Lib.hid (KA13.out.below HW.out KA13.out.lt)
                have B14 := Lib.hid (B13.out.trans (HW.out.mono B13.out.size))
                clear HW FC S13 KA13 B13 L13 L3
                go_wp2_with fail
                refine FQ.out.mono ?_
                rintro e w15 ⟨rfl, hb15⟩
                have B16 := Lib.hid ((B14.out.trans (hb15.mono B14.out.size)).alloc (B14.out.trans (hb15.mono B14.out.size)).size (.cells (RA a) 33))
                have KA16 := Lib.hid (Blk.alloc (KA14.out.below hb15 KA14.out.lt) (.cells (RA a) 33))
                have KH16 := Lib.hid (Blk.new w15 33 (RA a))
                clear hb15 FQ KA14 B14
                go_wp2_with fail
                refine (awake_any _).mono ?_
                rintro e w17 ⟨rfl, hb17⟩
                have B17 := Lib.hid (B16.out.trans (hb17.mono B16.out.size))
                have KA17 := Lib.hid (KA16.out.below hb17 KA16.out.lt)
                have KH17 := Lib.hid (KH16.out.below hb17 KH16.out.lt)
                clear hb17 KA16 KH16 B16
                go_wp2_with (first
                  | (refine Store.at_load 33 (.tmp 10) ?_ ?_; exact rfl; refine Loads.wpList_load_w rfl 33 (.tmp 10) rfl w3.heap.size rfl 33 (RA a) (0, 0) _ (KA17.out) Try.underlying33 rfl (by kernel_rfl) ?_)
                  | (refine Store.at_load 33 (.tmp 20) ?_ ?_; exact rfl; refine Loads.wpList_load_w rfl 33 (.tmp 20) rfl w15.heap.size rfl 33 (RA a) (0, 0) _ (KH17.out) Try.underlying33 rfl (by kernel_rfl) ?_))
                go_ret
                exact ⟨rfl, B17.out⟩
      · have h182' : (fe == 182) = false := by rw [beq_eq_false_iff_ne]; exact h182
        have S9 := S5
        have KQ9 := KQ
        have KA9 := K3
        have L9 := L5
        have BS9 := BS
        clear h182 S5 KQ K3 L5 BS J3 H45 Z5
        have RQ := Lib.hid (solo_rem q.x0 q.x1 S9.out qm0)
        by_cases hre : remE ts q.x0 q.x1 = 0
        · rw [hre] at RQ
          go_wp2_with (refine Store.at_load 31 (.tmp 115) ?_ ?_; exact rfl; refine Part.wpList_load_part rfl 31 (.tmp 115) rfl w.heap.size 0 [.string q.x0, .int .i64 q.x1] rfl RPQ ?_)
          refine RQ.out.mono ?_
          rintro e w10 ⟨rfl, hs10, hk10⟩
          have B10 := Lib.hid (BS9.out.trans (hk10.below (B := w.heap.size) BS9.out.size fun k hk => .inl (by have := S0.out; omega)))
          clear hs10 hk10
          go_wp2_with fail
          refine (awake_any _).mono ?_
          rintro e w11 ⟨rfl, hb11⟩
          have B11 := Lib.hid (B10.out.trans (hb11.mono B10.out.size))
          clear hb11
          go_wp2_with fail
          go_ret
          exact ⟨rfl, B11.out⟩
        · obtain ⟨rb, re6, rl⟩ := rem_no hre
          obtain ⟨way, rla⟩ := gone_again (v := q.x2) (p := q.x3) hre (by rw [ML.out]; omega)
          rw [re6, rl] at RQ
          obtain ⟨fv, hfv⟩ : ∃ fv, addE ts q.x0 q.x1 q.x2 q.x3 = fv := ⟨_, rfl⟩
          obtain ⟨ts1, hts1⟩ : ∃ ts1, addL ts q.x0 q.x1 q.x2 q.x3 = ts1 := ⟨_, rfl⟩
          obtain ⟨gv, hgv⟩ : ∃ gv, remE ts1 q.x0 q.x1 = gv := ⟨_, rfl⟩
          rw [hts1] at way rla
          rw [hfv, hgv] at way
          have AQ := Lib.hid (fun W (H : Solo (RtX w0.heap.size ts) (fun k => k < w0.heap.size ∨ (wr.heap.size ≤ k ∧ k < w3.heap.size + 2)) W) => solo_add q H qm0 qm2)
          rw [hfv, hts1] at AQ
          have RR := Lib.hid (fun W (H : Solo (RtX w0.heap.size ts1) (fun k => k < w0.heap.size ∨ (wr.heap.size ≤ k ∧ k < w3.heap.size + 2)) W) => solo_rem q.x0 q.x1 H qm0)
          rw [hgv, rla] at RR
          have LC := Lib.hid (fun W (H : Solo (RtX w0.heap.size ts) (fun k => k < w0.heap.size ∨ (wr.heap.size ≤ k ∧ k < w3.heap.size + 2)) W) => solo_list H)
          rw [ML.out] at LC
          have FC := Lib.hid (fun W (H : Solo (RtX w0.heap.size ts) (fun k => k < w0.heap.size ∨ (wr.heap.size ≤ k ∧ k < w3.heap.size + 2)) W) => solo_find d H dm)
          rw [FA.out, FE.out] at FC
          have EQ : ∀ W, (binOp .eql 33 (.agg #[.string a.x0, .int .i64 a.x1, .string a.x2, .int .i64 a.x3]) (.agg #[.string a.x0, .int .i64 a.x1, .string a.x2, .int .i64 a.x3])).run Try.prog W = .ok (.bool true) W := fun W => by
            rw [run_eql_struct, show (#[.string a.x0, .int .i64 a.x1, .string a.x2, .int .i64 a.x3] : Array Value) = a.cells.toArray from rfl, EqR.eq_RouteR a a W, (EqR.eqb_Route a a).2 rfl]
            rfl
          clear hre rb re6 rl rla hfv hts1 hgv
          rcases way with ⟨rfl, rfl⟩ | ⟨rfl, rfl⟩
          all_goals
            go_wp2_with (refine Store.at_load 31 (.tmp 115) ?_ ?_; exact rfl; refine Part.wpList_load_part rfl 31 (.tmp 115) rfl w.heap.size 0 [.string q.x0, .int .i64 q.x1] rfl RPQ ?_)
            generalize (w3.alloc (.cells (RA a) 33)).alloc (.cells #[.string d, .int .i64 0, .string ⟨#[]⟩, .int .i64 77] 33) = w9 at *
            refine RQ.out.mono ?_
            rintro e w10 ⟨rfl, hs10, hk10⟩
            have S10 := Lib.hid hs10
            have KQ10 : Hid (Blk w10 w.heap.size 33 (RA q)) := Lib.hid ((hk10.block _ (.inl (by have := S0.out; omega)) KQ9.out.lt).trans KQ9.out)
            have KA10 : Hid (Blk w10 w3.heap.size 33 (RA a)) := Lib.hid ((hk10.block _ (.inr ⟨LT3.out, by omega⟩) KA9.out.lt).trans KA9.out)
            have L10 := Lib.hid (L9.out.keep (F := fun k => k < w0.heap.size ∨ (wr.heap.size ≤ k ∧ k < w3.heap.size + 2)) (fun k z => by obtain ⟨x, hx, hk⟩ := z; cases hx; have hk : g2 = k := hk; subst hk; exact .inr ⟨G2.out, LT5.out⟩) hk10)
            have B10 := Lib.hid (BS9.out.trans (hk10.below (B := w.heap.size) BS9.out.size fun k hk => .inl (by have := S0.out; omega)))
            clear hs10 hk10 RQ S9 KQ9 KA9 L9 BS9 RPQ
            go_wp2_with (refine Store.at_load 33 (.tmp 4) ?_ ?_; exact rfl; refine Loads.wpList_load_w rfl 33 (.tmp 4) rfl w.heap.size rfl 33 (RA q) (0, 0) _ (KQ10.out) Try.underlying33 rfl (by kernel_rfl) ?_)
            refine (AQ.out _ S10.out).mono ?_
            rintro e w11 ⟨rfl, hs11, hk11⟩
            have S11 := Lib.hid hs11
            have KQ11 : Hid (Blk w11 w.heap.size 33 (RA q)) := Lib.hid ((hk11.block _ (.inl (by have := S0.out; omega)) KQ10.out.lt).trans KQ10.out)
            have KA11 : Hid (Blk w11 w3.heap.size 33 (RA a)) := Lib.hid ((hk11.block _ (.inr ⟨LT3.out, by omega⟩) KA10.out.lt).trans KA10.out)
            have L11 := Lib.hid (L10.out.keep (F := fun k => k < w0.heap.size ∨ (wr.heap.size ≤ k ∧ k < w3.heap.size + 2)) (fun k z => by obtain ⟨x, hx, hk⟩ := z; cases hx; have hk : g2 = k := hk; subst hk; exact .inr ⟨G2.out, LT5.out⟩) hk11)
            have B11 := Lib.hid (B10.out.trans (hk11.below (B := w.heap.size) B10.out.size fun k hk => .inl (by have := S0.out; omega)))
            have RPQ : (loadVar 31 ⟨w.heap.size, 0, none⟩).run Try.prog w11 = .ok (.agg #[.string q.x0, .int .i64 q.x1]) w11 := Part.run_part _ w.heap.size 0 31 [.string q.x0, .int .i64 q.x1] _ Try.underlying31 rfl (by kernel_rfl) (TabOps.blk_part KQ11.out 0 2)
            clear hs11 hk11 AQ S10 KQ10 KA10 L10 B10
            go_wp2_with (refine Store.at_load 31 (.tmp 124) ?_ ?_; exact rfl; refine Part.wpList_load_part rfl 31 (.tmp 124) rfl w.heap.size 0 [.string q.x0, .int .i64 q.x1] rfl RPQ ?_)
            refine (RR.out _ S11.out).mono ?_
            rintro e w12 ⟨rfl, hs12, hk12⟩
            have S12 := Lib.hid hs12
            have KA12 : Hid (Blk w12 w3.heap.size 33 (RA a)) := Lib.hid ((hk12.block _ (.inr ⟨LT3.out, by omega⟩) KA11.out.lt).trans KA11.out)
            have L12 := Lib.hid (L11.out.keep (F := fun k => k < w0.heap.size ∨ (wr.heap.size ≤ k ∧ k < w3.heap.size + 2)) (fun k z => by obtain ⟨x, hx, hk⟩ := z; cases hx; have hk : g2 = k := hk; subst hk; exact .inr ⟨G2.out, LT5.out⟩) hk12)
            have B12 := Lib.hid (B11.out.trans (hk12.below (B := w.heap.size) B11.out.size fun k hk => .inl (by have := S0.out; omega)))
            clear hs12 hk12 RR S11 KQ11 KA11 L11 B11 RPQ
            go_wp2_with fail
            refine (LC.out _ S12.out).mono ?_
            rintro e w13 ⟨⟨A3, rfl, hl13, ho13⟩, hb13⟩
            obtain ⟨g3, rfl, hg3, -⟩ := hl13.at
            have L3 := Lib.hid hl13
            have S13 := Lib.hid (S12.out.up (rt_obj _ _) hb13)
            have KA13 := Lib.hid (KA12.out.below hb13 KA12.out.lt)
            have L13 := Lib.hid (L12.out.below hb13)
            have B13 := Lib.hid (B12.out.trans (hb13.mono B12.out.size))
            clear hl13 ho13 hb13 hg3 LC S12 KA12 L12 B12
            go_wp2_with fail
            go_loopw [19] (fun iv wv => ∃ j : Nat, iv = .int .i64 (j : Int) ∧ j ≤ m ∧ Hid (Below w13.heap.size w13 wv)) (fun iv _ => m - (intOf iv).toNat)
            case atStart => exact ⟨0, rfl, by omega, Lib.hid (Below.refl _ _)⟩
            case round =>
              obtain ⟨j, rfl, hj, HW⟩ := hrel
              by_cases hlt3 : j < m
              · have hs : ts[j]? = some (ts[j]'(by rw [ML.out]; exact hlt3)) := List.getElem?_eq_getElem _
                generalize ts[j]'(by rw [ML.out]; exact hlt3) = s at hs
                obtain ⟨g2_, e2, _, hat2⟩ := (L13.out.below HW.out).at
                cases e2
                obtain ⟨g3_, e3, _, hat3⟩ := (L3.out.below HW.out).at
                cases e3
                have p0 := hat2 j s hs 0 _ rfl
                have p1 := hat2 j s hs 1 _ rfl
                have p2 := hat2 j s hs 2 _ rfl
                have p3 := hat2 j s hs 3 _ rfl
                have r0 := hat3 j s hs 0 _ rfl
                have r1 := hat3 j s hs 1 _ rfl
                have r2 := hat3 j s hs 2 _ rfl
                have r3 := hat3 j s hs 3 _ rfl
                simp only [Nat.add_zero, Nat.zero_add] at p0 p1 p2 p3 r0 r1 r2 r3
                have NEQ : ∀ W, (binOp .neq 33 (.agg #[.string s.x0, .int .i64 s.x1, .string s.x2, .int .i64 s.x3]) (.agg #[.string s.x0, .int .i64 s.x1, .string s.x2, .int .i64 s.x3])).run Try.prog W = .ok (.bool false) W := fun W => by
                  rw [run_neq_struct, show (#[.string s.x0, .int .i64 s.x1, .string s.x2, .int .i64 s.x3] : Array Value) = s.cells.toArray from rfl, EqR.eq_RouteR s s W, (EqR.eqb_Route s s).2 rfl]
                  rfl
                have mm : ((m : Int) != (m : Int)) = false := by simp
                clear hs hat2 hat3
                go_wp2_with fail
                go_quiet (fail)
                clear p0 p1 p2 p3 r0 r1 r2 r3 NEQ
                go_wp2_with fail
                go_roundw
                case rel => exact ⟨j + 1, by go_num, by omega, Lib.hid (below_drewN HW.out _)⟩
                case measure => simp [intOf]; omega
              · obtain rfl : j = m := by omega
                have FQ := Lib.hid (FC.out _ (S13.out.up (rt_obj _ _) HW.out))
                have KA14 := Lib.hid (KA13.out.below HW.out KA13.out.lt)
                have B14 := Lib.hid (B13.out.trans (HW.out.mono B13.out.size))
                clear HW FC S13 KA13 B13 L13 L3
                go_wp2_with fail
                refine FQ.out.mono ?_
                rintro e w15 ⟨rfl, hb15⟩
                have B16 := Lib.hid ((B14.out.trans (hb15.mono B14.out.size)).alloc (B14.out.trans (hb15.mono B14.out.size)).size (.cells (RA a) 33))
                have KA16 := Lib.hid (Blk.alloc (KA14.out.below hb15 KA14.out.lt) (.cells (RA a) 33))
                have KH16 := Lib.hid (Blk.new w15 33 (RA a))
                clear hb15 FQ KA14 B14
                go_wp2_with fail
                refine (awake_any _).mono ?_
                rintro e w17 ⟨rfl, hb17⟩
                have B17 := Lib.hid (B16.out.trans (hb17.mono B16.out.size))
                have KA17 := Lib.hid (KA16.out.below hb17 KA16.out.lt)
                have KH17 := Lib.hid (KH16.out.below hb17 KH16.out.lt)
                clear hb17 KA16 KH16 B16
                go_wp2_with (first
                  | (refine Store.at_load 33 (.tmp 10) ?_ ?_; exact rfl; refine Loads.wpList_load_w rfl 33 (.tmp 10) rfl w3.heap.size rfl 33 (RA a) (0, 0) _ (KA17.out) Try.underlying33 rfl (by kernel_rfl) ?_)
                  | (refine Store.at_load 33 (.tmp 20) ?_ ?_; exact rfl; refine Loads.wpList_load_w rfl 33 (.tmp 20) rfl w15.heap.size rfl 33 (RA a) (0, 0) _ (KH17.out) Try.underlying33 rfl (by kernel_rfl) ?_))
                go_ret
                exact ⟨rfl, B17.out⟩
end Go.Proofs.Ytnabjhdamofpgaa.LawGone18
