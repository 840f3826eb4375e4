/- The law SadAges. -/
import Derived.Test.YtppnkkpjfjhfkaaDoorM40
import Derived.Test.YtppnkkpjfjhfkaaDoorM39
import Derived.Deep.CutBlock
import Derived.Deep.CutRange
set_option linter.unusedVariables false
set_option maxRecDepth 100000
namespace Go.Proofs.YtppnkkpjfjhfkaaDoor.LawAges
open Go.RowKit Go.Proofs.YtppnkkpjfjhfkaaDoor.Mem Go.Proofs.YtppnkkpjfjhfkaaDoor.Blk Go.Proofs.YtppnkkpjfjhfkaaDoor.ArgT Go.Proofs.YtppnkkpjfjhfkaaDoor.Part Go.Proofs.YtppnkkpjfjhfkaaDoor.Longs Go.Proofs.YtppnkkpjfjhfkaaDoor.SadM Go.Proofs.YtppnkkpjfjhfkaaDoor.SadR3 Go.Proofs.YtppnkkpjfjhfkaaDoor.SadR4 Go.Proofs.YtppnkkpjfjhfkaaDoor.SadR5 Go.Proofs.YtppnkkpjfjhfkaaDoor.SadR6 Go.Proofs.YtppnkkpjfjhfkaaDoor.SadR7 Go.Proofs.YtppnkkpjfjhfkaaDoor.SadR10 Go.Proofs.YtppnkkpjfjhfkaaDoor.Few17 Go.Proofs.YtppnkkpjfjhfkaaDoor.RowN Go.Proofs.YtppnkkpjfjhfkaaDoor.Ob17 Go.Proofs.YtppnkkpjfjhfkaaDoor.Errno

theorem narrow {F : Nat → Prop} {W w : World} {gs : Nat} {es : List Ent} (h : Ob F W w gs es) : Ob (fun k => k < W.heap.size) W w gs es :=
  ⟨h.obj.mono fun k _ z => h.low k z, fun k hk => Nat.lt_of_lt_of_le hk h.bel.size, fun k hk => hk, h.bel, h.hand⟩
theorem age_out (now spi : Int) (out : Bool) (es : List Ent) : (ageS now spi out es).1 ≤ 2 := by
  unfold ageS
  split
  · simp
  · split
    · simp
    · unfold SadR1.ageN
      split
      · simp
      · split <;> simp
set_option maxHeartbeats 4000000 in
theorem ages_any (A : Option Addr) (n c : Nat) (rs : List Op17R) (rule : Int) (W : World) (h : Op17Rows W A n rs) (hg : Handle W) : Calls Tryd.prog 5 #[.slice A n c, .int .i64 rule] W fun er w' => er = .returned (.bool true) ∧ Below W.heap.size W w' := by
  have FW := Lib.hid (few_any A n c rs W h)
  have H := Lib.hid h
  have HG := Lib.hid hg
  clear h hg
  go_enter Tryd.func5, Tryd.ntmps5
  go_wp2_with fail
  refine FW.out.mono ?_
  rintro er w1 ⟨fb, rfl, hfb, hb⟩
  clear FW
  cases fb with
  | false =>
    have HB := Lib.hid hb
    clear hb hfb
    go_wp2_with fail
    go_ret
    exact ⟨rfl, HB.out⟩
  | true =>
    obtain ⟨n150, fits⟩ := hfb rfl
    have HF := Lib.hid fits
    have NC := Lib.hid (Ob.new HG.out hb)
    clear hb hfb fits HG
    go_wp2_with fail
    refine NC.out.mono ?_
    rintro er w2 ⟨rfl, o, -⟩
    have O2 := Lib.hid o
    clear o NC
    generalize w1.heap.size = gs at *
    go_wp2_with fail
    go_loopw [6, 7] (fun nv iv wr => ∃ (i : Nat) (nw : Int), iv = .int .i64 (i : Int) ∧ nv = .int .i64 nw ∧ i ≤ n ∧ (0 ≤ nw ∧ nw ≤ 1000000000) ∧ Hid (∃ es, SadP.Good i es ∧ Ob (fun k => k < W.heap.size) W wr gs es)) (fun _ iv _ => n - (intOf iv).toNat)
    case atStart => exact ⟨0, 0, rfl, rfl, by omega, by omega, Lib.hid ⟨[], SadP.Good.nil 0, O2.out⟩⟩
    case round =>
      clear O2
      obtain ⟨i, nw, rfl, rfl, hi, hnw, HT⟩ := hrel
      by_cases hlt : i < n
      · obtain ⟨es, G, O⟩ := HT.out
        obtain ⟨b, o, rfl, hbl, hall⟩ := H.out.2 (by omega)
        have hr : rs[i]? = some (rs[i]'(by rw [H.out.1]; exact hlt)) := List.getElem?_eq_getElem _
        generalize rs[i]'(by rw [H.out.1]; exact hlt) = r at hr
        obtain ⟨ok, cl⟩ := hall i r hr
        have ft := HF.out i r hr
        have FT : Hid (r.x4 ≤ 1000000000 ∧ -9223372036854775808 ≤ r.x4) := Lib.hid ⟨ft.2.1, ok.1.1⟩
        obtain ⟨sq, hsq⟩ : ∃ sq, sq = r.x7.toNat := ⟨_, rfl⟩
        have Q7 : Hid (sq < Q64) := Lib.hid (by have := ok.2.1; unfold Q64; omega)
        have E7 : Hid (r.x7 = (sq : Int)) := Lib.hid (by rw [hsq]; exact (Int.toNat_of_nonneg ok.2.1.1).symm)
        clear hsq
        have RP : (loadVar 36 ⟨b, o + i * 20, none⟩).run Tryd.prog wr = .ok (.agg (opCs r)) wr := run_part wr b (o + i * 20) 36 r.cells _ Tryd.underlying36 rfl (by kernel_rfl) ((show At W b (o + i * 20) r.cells from cl).below O.bel hbl)
        have J := Blk.new wr 36 #[.int .i64 0, .int .i64 0, .int .i64 0, .int .i64 0, .int .i64 0, .int .i64 0, .bool false, .int .u64 0, .int .i64 0, .string ⟨#[]⟩, .string ⟨#[]⟩, .string ⟨#[]⟩, .bool false, .int .i64 0, .int .i64 0, .bool false, .int .i64 0, .int .i64 0, .int .i64 0, .int .i64 0]
        have K8 := Lib.hid (setRow_blk J (opCs r))
        have bn := setRow_bel ((Below.refl wr.heap.size wr).alloc (Nat.le_refl _) (.cells #[.int .i64 0, .int .i64 0, .int .i64 0, .int .i64 0, .int .i64 0, .int .i64 0, .bool false, .int .u64 0, .int .i64 0, .string ⟨#[]⟩, .string ⟨#[]⟩, .string ⟨#[]⟩, .bool false, .int .i64 0, .int .i64 0, .bool false, .int .i64 0, .int .i64 0, .int .i64 0, .int .i64 0] 36)) (Nat.le_refl _) (opCs r)
        have O8 := Lib.hid (O.wide bn)
        have LT : Hid (wr.heap.size < ((wr.alloc (.cells #[.int .i64 0, .int .i64 0, .int .i64 0, .int .i64 0, .int .i64 0, .int .i64 0, .bool false, .int .u64 0, .int .i64 0, .string ⟨#[]⟩, .string ⟨#[]⟩, .string ⟨#[]⟩, .bool false, .int .i64 0, .int .i64 0, .bool false, .int .i64 0, .int .i64 0, .int .i64 0, .int .i64 0] 36)).setRow wr.heap.size (opCs r)).heap.size) := Lib.hid (Blk.lt K8.out)
        have one := Lib.hid (one_op r)
        obtain ⟨nx, hnx⟩ : ∃ nx, nx = max nw r.x1 := ⟨_, rfl⟩
        have NX : Hid (0 ≤ nx ∧ nx ≤ 1000000000) := Lib.hid (by have := ft.2.2; omega)
        have MX : max nw r.x1 = nx := hnx.symm
        have NW := Lib.hid (G.now (now := nx) (by have := NX.out; omega) NX.out.2)
        have GD := Lib.hid G
        have few := G.few
        obtain ⟨z6, h6⟩ : ∃ z6, z6 = r.x6 := ⟨_, rfl⟩
        have H6 := Lib.hid h6
        obtain ⟨a, ha⟩ : ∃ a, a = (ageS nx r.x2 z6 es).1 := ⟨_, rfl⟩
        obtain ⟨e, he⟩ : ∃ e, e = (ageS nx r.x2 z6 es).2 := ⟨_, rfl⟩
        have AE : Hid (ageS nx r.x2 z6 es = (a, e)) := Lib.hid (by rw [ha, he])
        obtain ⟨w8, hw8⟩ : ∃ w8, w8 = ((wr.alloc (.cells #[.int .i64 0, .int .i64 0, .int .i64 0, .int .i64 0, .int .i64 0, .int .i64 0, .bool false, .int .u64 0, .int .i64 0, .string ⟨#[]⟩, .string ⟨#[]⟩, .string ⟨#[]⟩, .bool false, .int .i64 0, .int .i64 0, .bool false, .int .i64 0, .int .i64 0, .int .i64 0, .int .i64 0] 36)).setRow wr.heap.size (opCs r)) := ⟨_, rfl⟩
        rw [← hw8] at K8 O8 LT
        have W8E := Lib.hid hw8.symm
        obtain ⟨bo, hbo⟩ : ∃ bo, bo = wr.heap.size := ⟨_, rfl⟩
        rw [← hbo] at K8 LT
        have BO := Lib.hid hbo.symm
        obtain ⟨F, hF⟩ : ∃ F : Nat → Prop, F = fun k => k < W.heap.size ∨ (wr.heap.size ≤ k ∧ k < w8.heap.size) := ⟨_, rfl⟩
        have FB : Hid (F bo) := Lib.hid (by rw [hF, hbo]; exact .inr ⟨Nat.le_refl _, by rw [← hbo]; exact LT.out⟩)
        rw [← hF] at O8
        have AC := O8.out.age (by omega) nx r.x2 z6 NW.out
        rw [← ha, ← he] at AC
        have AC := Lib.hid AC
        have A2 : Hid (a ≤ 2) := Lib.hid (by rw [ha]; exact age_out _ _ _ _)
        have d1 : w8.cell? ⟨bo, 1, none⟩ = some (.int .i64 r.x1) := K8.out.cell 1
        have d2 : w8.cell? ⟨bo, 2, none⟩ = some (.int .i64 r.x2) := K8.out.cell 2
        have d6 : w8.cell? ⟨bo, 6, none⟩ = some (.bool z6) := by rw [H6.out]; exact K8.out.cell 6
        clear hall cl hr ok G HT O bn ft hnx h6 ha he hw8 hF hbo LT
        go_wp2_with (first
          | (refine Store.at_load 36 (.tmp 38) ?_ ?_; exact rfl; refine wpList_load_part rfl 36 (.tmp 38) rfl b (o + i * 20) (opCs r).toList rfl RP ?_)
          | (refine Store.at_store 36 (.tmp 8) (.tmp 39) ?_ ?_; exact rfl; refine wpList_store_row rfl 36 (.tmp 8) (.tmp 39) rfl wr.heap.size (opCs r) rfl rfl 36 _ J (by kernel_rfl) rfl one.out ?_; rw [W8E.out, BO.out]; clear RP J))
        refine AC.out.mono ?_
        rintro er w9 ⟨rfl, o9, hb9⟩
        have O9 := Lib.hid o9
        have K9 := Lib.hid (Blk.below K8.out hb9 (Blk.lt K8.out))
        clear o9 hb9 AC O8 K8 d1 d2 d6 W8E BO one MX
        have d0 : w9.cell? ⟨bo, 0, none⟩ = some (.int .i64 r.x0) := K9.out.cell 0
        go_upto_block 2 with fail
        clear d0
        go_cut [] from 30 to 196 (fun wx => Hid (∃ es', SadP.Good (i + 1) es' ∧ SadP.Up es es' ∧ Ob F W wx gs es' ∧ Blk wx bo 36 (opCs r)))
        case first =>
          by_cases p0 : r.x0 = 0
          · as_aux_lemma =>
              have g00 : (r.x0 == 0) = true := by rw [beq_iff_eq]; exact p0
              have RL : (loadVar 34 ⟨bo, 8, none⟩).run Tryd.prog w9 = .ok (.agg #[.int .i64 r.x8, .string r.x9, .string r.x10, .string r.x11, .bool r.x12, .int .i64 r.x13, .int .i64 r.x14, .bool r.x15, .int .i64 r.x16, .int .i64 r.x17, .int .i64 r.x18, .int .i64 r.x19]) w9 := Step17.load_lifeO K9.out
              have AC := Lib.hid (O9.out.add (by omega) nx (Step17.lifeOf r))
              go_wp2_with (refine Store.at_load 34 (.tmp 60) ?_ ?_; exact rfl; refine Part.wpList_load_part (by kernel_rfl) 34 (.tmp 60) rfl bo 8 [.int .i64 r.x8, .string r.x9, .string r.x10, .string r.x11, .bool r.x12, .int .i64 r.x13, .int .i64 r.x14, .bool r.x15, .int .i64 r.x16, .int .i64 r.x17, .int .i64 r.x18, .int .i64 r.x19] rfl RL ?_)
              refine AC.out.mono ?_
              rintro er w10 ⟨rfl, o, kp⟩
              have O10 := Lib.hid o
              have K10 : Hid (Blk w10 bo 36 (opCs r)) := Lib.hid ((kp.block _ FB.out (Blk.lt K9.out)).trans K9.out)
              clear o kp AC RL
              go_wp2_with fail
              go_meet
              case rel => exact Lib.hid ⟨_, GD.out.add nx NX.out.2 _, SadP.add_up nx _, O10.out, K10.out⟩
          by_cases p4 : r.x0 = 4
          · as_aux_lemma =>
              have g00 : (r.x0 == 0) = false := by rw [beq_eq_false_iff_ne]; exact p0
              have g04 : (r.x0 == 4) = true := by rw [beq_iff_eq]; exact p4
              have d2 : w9.cell? ⟨bo, 2, none⟩ = some (.int .i64 r.x2) := K9.out.cell 2
              have d4 : w9.cell? ⟨bo, 4, none⟩ = some (.int .i64 r.x4) := K9.out.cell 4
              have SC := Lib.hid (O9.out.send (by omega) nx r.x2 r.x4 NW.out (GD.out.room (by omega) FT.out.2 FT.out.1))
              obtain ⟨sr, hsr⟩ := Step17w.sendS_sa nx r.x2 r.x4 es
              have SR := Lib.hid hsr
              obtain ⟨f, hf⟩ : ∃ f, f = (sendS nx r.x2 r.x4 es).2.2.1 := ⟨_, rfl⟩
              obtain ⟨sn, hsn⟩ : ∃ sn, sn = (sendS nx r.x2 r.x4 es).2.1 := ⟨_, rfl⟩
              have HF := Lib.hid hf
              rw [hsr, ← hf, ← hsn] at SC
              clear hf hsr hsn
              go_wp2_with fail
              refine SC.out.mono ?_
              rintro er w10 ⟨rfl, o, kp⟩
              have KK := Lib.hid ((kp.block _ FB.out (Blk.lt K9.out)).trans K9.out)
              have J10 := Blk.new w10 32 #[.int .i64 0, .string ⟨#[]⟩, .string ⟨#[]⟩, .string ⟨#[]⟩, .bool false, .int .i64 0]
              have B10 := Com.setRow_bel ((Below.refl w10.heap.size w10).alloc (Nat.le_refl _) (.cells #[.int .i64 0, .string ⟨#[]⟩, .string ⟨#[]⟩, .string ⟨#[]⟩, .bool false, .int .i64 0] 32)) (Nat.le_refl _) (saC sr).toArray
              have O10 := Lib.hid (o.up B10)
              have K10 := Lib.hid (Blk.below KK.out B10 (Blk.lt KK.out))
              have one := Lib.hid (oneSa sr)
              clear d2 d4
              clear o kp SC KK B10
              obtain ⟨wx, hwx⟩ : ∃ wx, wx = (w10.alloc (.cells #[.int .i64 0, .string ⟨#[]⟩, .string ⟨#[]⟩, .string ⟨#[]⟩, .bool false, .int .i64 0] 32)).setRow w10.heap.size (saC sr).toArray := ⟨_, rfl⟩
              rw [← hwx] at O10 K10
              have WX := Lib.hid hwx.symm
              clear hwx
              have d6 : wx.cell? ⟨bo, 6, none⟩ = some (.bool z6) := by rw [H6.out]; exact K10.out.cell 6
              by_cases q1 : a = 2
              · have g2 : ((a : Int) == 2) = true := by rw [beq_iff_eq]; omega
                cases z6
                · clear q1
                  go_wp2_with (refine wpList_store_row rfl 32 (.tmp 11) (.tmp 73) rfl w10.heap.size (saC sr).toArray rfl rfl 32 _ J10 (by kernel_rfl) (by kernel_rfl) one.out ?_; rw [WX.out]; clear J10)
                  go_meet
                  case rel => exact Lib.hid ⟨_, GD.out.send nx r.x2 r.x4 FT.out.1, SadP.send_up nx r.x2 r.x4, O10.out, K10.out⟩
                · by_cases q2 : e = 0
                  · have g3 : ((e : Int) == 0) = true := by rw [beq_iff_eq]; omega
                    have g4 : ((f : Int) == 0) = false := by
                      rw [beq_eq_false_iff_ne]
                      have := SadP.send_hard (n := r.x4) (show ageS nx r.x2 true es = (2, 0) by rw [AE.out, q1, q2])
                      rw [← HF.out] at this
                      omega
                    clear q1 q2
                    go_wp2_with (refine wpList_store_row rfl 32 (.tmp 11) (.tmp 73) rfl w10.heap.size (saC sr).toArray rfl rfl 32 _ J10 (by kernel_rfl) (by kernel_rfl) one.out ?_; rw [WX.out]; clear J10)
                    go_meet
                    case rel => exact Lib.hid ⟨_, GD.out.send nx r.x2 r.x4 FT.out.1, SadP.send_up nx r.x2 r.x4, O10.out, K10.out⟩
                  · have g3 : ((e : Int) == 0) = false := by rw [beq_eq_false_iff_ne]; omega
                    clear q1 q2
                    go_wp2_with (refine wpList_store_row rfl 32 (.tmp 11) (.tmp 73) rfl w10.heap.size (saC sr).toArray rfl rfl 32 _ J10 (by kernel_rfl) (by kernel_rfl) one.out ?_; rw [WX.out]; clear J10)
                    go_meet
                    case rel => exact Lib.hid ⟨_, GD.out.send nx r.x2 r.x4 FT.out.1, SadP.send_up nx r.x2 r.x4, O10.out, K10.out⟩
              · have g2 : ((a : Int) == 2) = false := by rw [beq_eq_false_iff_ne]; omega
                clear q1
                go_wp2_with (refine wpList_store_row rfl 32 (.tmp 11) (.tmp 73) rfl w10.heap.size (saC sr).toArray rfl rfl 32 _ J10 (by kernel_rfl) (by kernel_rfl) one.out ?_; rw [WX.out]; clear J10)
                go_meet
                case rel => exact Lib.hid ⟨_, GD.out.send nx r.x2 r.x4 FT.out.1, SadP.send_up nx r.x2 r.x4, O10.out, K10.out⟩
          by_cases p5 : r.x0 = 5
          · as_aux_lemma =>
              have g00 : (r.x0 == 0) = false := by rw [beq_eq_false_iff_ne]; exact p0
              have g04 : (r.x0 == 4) = false := by rw [beq_eq_false_iff_ne]; exact p4
              have g05 : (r.x0 == 5) = true := by rw [beq_iff_eq]; exact p5
              have d2 : w9.cell? ⟨bo, 2, none⟩ = some (.int .i64 r.x2) := K9.out.cell 2
              have d5 : w9.cell? ⟨bo, 5, none⟩ = some (.int .i64 r.x5) := K9.out.cell 5
              have SC := Lib.hid (O9.out.look (by omega) nx r.x2 r.x5 NW.out)
              obtain ⟨sr, hsr⟩ : ∃ sr, sr = (lookS nx r.x2 r.x5 es).1 := ⟨_, rfl⟩
              obtain ⟨f, hf⟩ : ∃ f, f = (lookS nx r.x2 r.x5 es).2.2 := ⟨_, rfl⟩
              obtain ⟨sn, hsn⟩ : ∃ sn, sn = (lookS nx r.x2 r.x5 es).2.1 := ⟨_, rfl⟩
              have HF := Lib.hid hf
              rw [← hsr, ← hf, ← hsn] at SC
              clear hf hsr hsn
              go_wp2_with fail
              refine SC.out.mono ?_
              rintro er w10 ⟨rfl, o, hb⟩
              have KK := Lib.hid (Blk.below K9.out hb (Blk.lt K9.out))
              have J10 := Blk.new w10 34 #[.int .i64 0, .string ⟨#[]⟩, .string ⟨#[]⟩, .string ⟨#[]⟩, .bool false, .int .i64 0, .int .i64 0, .bool false, .int .i64 0, .int .i64 0, .int .i64 0, .int .i64 0]
              have B10 := Com.setRow_bel ((Below.refl w10.heap.size w10).alloc (Nat.le_refl _) (.cells #[.int .i64 0, .string ⟨#[]⟩, .string ⟨#[]⟩, .string ⟨#[]⟩, .bool false, .int .i64 0, .int .i64 0, .bool false, .int .i64 0, .int .i64 0, .int .i64 0, .int .i64 0] 34)) (Nat.le_refl _) sr.cells.toArray
              have O10 := Lib.hid (o.up B10)
              have K10 := Lib.hid (Blk.below KK.out B10 (Blk.lt KK.out))
              have one := Lib.hid (oneL sr)
              clear d2 d5
              clear o hb SC KK B10
              obtain ⟨wx, hwx⟩ : ∃ wx, wx = (w10.alloc (.cells #[.int .i64 0, .string ⟨#[]⟩, .string ⟨#[]⟩, .string ⟨#[]⟩, .bool false, .int .i64 0, .int .i64 0, .bool false, .int .i64 0, .int .i64 0, .int .i64 0, .int .i64 0] 34)).setRow w10.heap.size sr.cells.toArray := ⟨_, rfl⟩
              rw [← hwx] at O10 K10
              have WX := Lib.hid hwx.symm
              clear hwx
              have d6 : wx.cell? ⟨bo, 6, none⟩ = some (.bool z6) := by rw [H6.out]; exact K10.out.cell 6
              by_cases q1 : a = 2
              · have g2 : ((a : Int) == 2) = true := by rw [beq_iff_eq]; omega
                cases z6
                · by_cases q2 : e = 0
                  · have g3 : ((e : Int) == 0) = true := by rw [beq_iff_eq]; omega
                    have g4 : ((f : Int) != 171) = false := by
                      have := SadP.look_hard (low := r.x5) (show ageS nx r.x2 false es = (2, 0) by rw [AE.out, q1, q2])
                      rw [← HF.out] at this
                      simp [this]
                    clear q1 q2
                    go_wp2_with (refine wpList_store_row rfl 34 (.tmp 14) (.tmp 100) rfl w10.heap.size sr.cells.toArray rfl rfl 34 _ J10 (by kernel_rfl) (by kernel_rfl) one.out ?_; rw [WX.out]; clear J10)
                    go_meet
                    case rel => exact Lib.hid ⟨_, GD.out.up, SadP.Up.refl _, O10.out, K10.out⟩
                  · have g3 : ((e : Int) == 0) = false := by rw [beq_eq_false_iff_ne]; omega
                    clear q1 q2
                    go_wp2_with (refine wpList_store_row rfl 34 (.tmp 14) (.tmp 100) rfl w10.heap.size sr.cells.toArray rfl rfl 34 _ J10 (by kernel_rfl) (by kernel_rfl) one.out ?_; rw [WX.out]; clear J10)
                    go_meet
                    case rel => exact Lib.hid ⟨_, GD.out.up, SadP.Up.refl _, O10.out, K10.out⟩
                · clear q1
                  go_wp2_with (refine wpList_store_row rfl 34 (.tmp 14) (.tmp 100) rfl w10.heap.size sr.cells.toArray rfl rfl 34 _ J10 (by kernel_rfl) (by kernel_rfl) one.out ?_; rw [WX.out]; clear J10)
                  go_meet
                  case rel => exact Lib.hid ⟨_, GD.out.up, SadP.Up.refl _, O10.out, K10.out⟩
              · have g2 : ((a : Int) == 2) = false := by rw [beq_eq_false_iff_ne]; omega
                clear q1
                go_wp2_with (refine wpList_store_row rfl 34 (.tmp 14) (.tmp 100) rfl w10.heap.size sr.cells.toArray rfl rfl 34 _ J10 (by kernel_rfl) (by kernel_rfl) one.out ?_; rw [WX.out]; clear J10)
                go_meet
                case rel => exact Lib.hid ⟨_, GD.out.up, SadP.Up.refl _, O10.out, K10.out⟩
          by_cases p6 : r.x0 = 6
          · as_aux_lemma =>
              have g00 : (r.x0 == 0) = false := by rw [beq_eq_false_iff_ne]; exact p0
              have g04 : (r.x0 == 4) = false := by rw [beq_eq_false_iff_ne]; exact p4
              have g05 : (r.x0 == 5) = false := by rw [beq_eq_false_iff_ne]; exact p5
              have g06 : (r.x0 == 6) = true := by rw [beq_iff_eq]; exact p6
              have d2 : w9.cell? ⟨bo, 2, none⟩ = some (.int .i64 r.x2) := K9.out.cell 2
              have d4 : w9.cell? ⟨bo, 4, none⟩ = some (.int .i64 r.x4) := K9.out.cell 4
              have d7 : w9.cell? ⟨bo, 7, none⟩ = some (.int .u64 r.x7) := K9.out.cell 7
              rw [E7.out] at d7
              have SC := Lib.hid (O9.out.take (by omega) nx r.x2 sq r.x4 NW.out (GD.out.room (by omega) FT.out.2 FT.out.1) Q7.out)
              obtain ⟨f, hf⟩ : ∃ f, f = (takeS nx r.x2 sq r.x4 es).1 := ⟨_, rfl⟩
              have HF := Lib.hid hf
              rw [← hf] at SC
              clear hf
              go_wp2_with fail
              refine SC.out.mono ?_
              rintro er w10 ⟨rfl, o, kp⟩
              have O10 := Lib.hid o
              have K10 : Hid (Blk w10 bo 36 (opCs r)) := Lib.hid ((kp.block _ FB.out (Blk.lt K9.out)).trans K9.out)
              clear d2 d4 d7
              clear o kp SC
              have d6 : w10.cell? ⟨bo, 6, none⟩ = some (.bool z6) := by rw [H6.out]; exact K10.out.cell 6
              by_cases q1 : a = 2
              · have g2 : ((a : Int) == 2) = true := by rw [beq_iff_eq]; omega
                cases z6
                · by_cases q2 : e = 0
                  · have g3 : ((e : Int) == 0) = true := by rw [beq_iff_eq]; omega
                    have g4 : ((f : Int) == 0) = false := by
                      rw [beq_eq_false_iff_ne]
                      have := SadP.take_hard (seq := sq) (n := r.x4) (show ageS nx r.x2 false es = (2, 0) by rw [AE.out, q1, q2])
                      rw [← HF.out] at this
                      omega
                    clear q1 q2
                    go_wp2_with fail
                    go_meet
                    case rel => exact Lib.hid ⟨_, GD.out.take nx r.x2 sq r.x4 FT.out.1, SadP.take_up nx r.x2 sq r.x4, O10.out, K10.out⟩
                  · have g3 : ((e : Int) == 0) = false := by rw [beq_eq_false_iff_ne]; omega
                    clear q1 q2
                    go_wp2_with fail
                    go_meet
                    case rel => exact Lib.hid ⟨_, GD.out.take nx r.x2 sq r.x4 FT.out.1, SadP.take_up nx r.x2 sq r.x4, O10.out, K10.out⟩
                · clear q1
                  go_wp2_with fail
                  go_meet
                  case rel => exact Lib.hid ⟨_, GD.out.take nx r.x2 sq r.x4 FT.out.1, SadP.take_up nx r.x2 sq r.x4, O10.out, K10.out⟩
              · have g2 : ((a : Int) == 2) = false := by rw [beq_eq_false_iff_ne]; omega
                clear q1
                go_wp2_with fail
                go_meet
                case rel => exact Lib.hid ⟨_, GD.out.take nx r.x2 sq r.x4 FT.out.1, SadP.take_up nx r.x2 sq r.x4, O10.out, K10.out⟩
          have g00 : (r.x0 == 0) = false := by rw [beq_eq_false_iff_ne]; exact p0
          have g04 : (r.x0 == 4) = false := by rw [beq_eq_false_iff_ne]; exact p4
          have g05 : (r.x0 == 5) = false := by rw [beq_eq_false_iff_ne]; exact p5
          have g06 : (r.x0 == 6) = false := by rw [beq_eq_false_iff_ne]; exact p6
          go_wp2_with fail
          go_meet
          case rel => exact Lib.hid ⟨_, GD.out.up, SadP.Up.refl _, O9.out, K9.out⟩
        case rest =>
          as_aux_lemma =>
            obtain ⟨es', gx, up, o, kx⟩ := hcut.out
            have GX := Lib.hid gx
            have KX := Lib.hid kx
            have NX2 := Lib.hid (gx.now (now := nx) (by have := NX.out; omega) NX.out.2)
            obtain ⟨a2, ha2⟩ : ∃ a2, a2 = (ageS nx r.x2 z6 es').1 := ⟨_, rfl⟩
            obtain ⟨e2, he2⟩ : ∃ e2, e2 = (ageS nx r.x2 z6 es').2 := ⟨_, rfl⟩
            have UP : Hid (e = 0 → e2 = 0 ∧ a ≤ a2) := Lib.hid fun z => by
              have := up nx r.x2 z6 (by rw [AE.out]; exact z)
              rw [AE.out, ← ha2, ← he2] at this
              exact this
            have AC := o.age (by have := gx.few; omega) nx r.x2 z6 NX2.out
            rw [← ha2, ← he2] at AC
            have AC := Lib.hid AC
            have d2 : wc.cell? ⟨bo, 2, none⟩ = some (.int .i64 r.x2) := kx.cell 2
            have d6 : wc.cell? ⟨bo, 6, none⟩ = some (.bool z6) := by rw [H6.out]; exact kx.cell 6
            clear gx up o kx ha2 he2 hcut
            go_wp2_with fail
            refine AC.out.mono ?_
            rintro er w11 ⟨rfl, o, -⟩
            have PC := Lib.hid (o.pick (by have := GX.out.few; omega) nx rule NX2.out)
            clear d2 d6
            clear o AC
            by_cases q3 : e = 0
            · have g3 : ((e : Int) == 0) = true := by rw [beq_iff_eq]; omega
              obtain ⟨u1, u2⟩ := UP.out q3
              have g4 : ((e2 : Int) != 0) = false := by simp [u1]
              have g6 : decide ((a2 : Int) < (a : Int)) = false := decide_eq_false (by omega)
              have g6' : decide (a2 < a) = false := decide_eq_false (by omega)
              clear u1 u2 q3 UP
              rcases SadP.pick_is GX.out nx rule with hp | ⟨hp1, hp2, hp3⟩
              · rw [hp] at PC
                clear hp
                go_wp2_with fail
                refine PC.out.mono ?_
                rintro er w12 ⟨rfl, o, -⟩
                have O12 := Lib.hid o
                have AC := Lib.hid (o.age (by have := GX.out.few; omega) nx 0 true NX2.out)
                clear o PC
                go_wp2_with fail
                refine AC.out.mono ?_
                rintro er w13 ⟨rfl, o, -⟩
                have O13 := Lib.hid (narrow o)
                clear o AC O12
                generalize (ageS nx 0 true es').1 = cc at *
                generalize (ageS nx 0 true es').2 = jj at *
                go_wp2_with fail
                go_roundw
                case rel => exact ⟨i + 1, nx, by go_num, rfl, by omega, NX.out, Lib.hid ⟨es', GX.out, O13.out⟩⟩
                case measure => simp [intOf]; omega
              · obtain ⟨sp, hsp⟩ : ∃ sp, sp = (pickS nx rule es').1 := ⟨_, rfl⟩
                rw [hp1, ← hsp] at PC
                rw [← hsp] at hp2 hp3
                clear hp1 hsp
                go_wp2_with fail
                refine PC.out.mono ?_
                rintro er w12 ⟨rfl, o, -⟩
                have AC := o.age (by have := GX.out.few; omega) nx sp true NX2.out
                rw [hp2] at AC
                obtain ⟨cc, hcc⟩ : ∃ cc, cc = (ageS nx sp true es').1 := ⟨_, rfl⟩
                rw [← hcc] at AC hp3
                have AC := Lib.hid AC
                have g5 : decide ((1 : Int) < (cc : Int)) = false := decide_eq_false (by omega)
                have g5' : decide (1 < cc) = false := decide_eq_false (by omega)
                clear o PC hp2 hp3 hcc
                go_wp2_with fail
                refine AC.out.mono ?_
                rintro er w13 ⟨rfl, o, -⟩
                have O13 := Lib.hid (narrow o)
                clear o AC
                go_wp2_with fail
                go_roundw
                case rel => exact ⟨i + 1, nx, by go_num, rfl, by omega, NX.out, Lib.hid ⟨es', GX.out, O13.out⟩⟩
                case measure => simp [intOf]; omega
            · have g3 : ((e : Int) == 0) = false := by rw [beq_eq_false_iff_ne]; omega
              clear q3 UP
              rcases SadP.pick_is GX.out nx rule with hp | ⟨hp1, hp2, hp3⟩
              · rw [hp] at PC
                clear hp
                go_wp2_with fail
                refine PC.out.mono ?_
                rintro er w12 ⟨rfl, o, -⟩
                have O12 := Lib.hid o
                have AC := Lib.hid (o.age (by have := GX.out.few; omega) nx 0 true NX2.out)
                clear o PC
                go_wp2_with fail
                refine AC.out.mono ?_
                rintro er w13 ⟨rfl, o, -⟩
                have O13 := Lib.hid (narrow o)
                clear o AC O12
                generalize (ageS nx 0 true es').1 = cc at *
                generalize (ageS nx 0 true es').2 = jj at *
                go_wp2_with fail
                go_roundw
                case rel => exact ⟨i + 1, nx, by go_num, rfl, by omega, NX.out, Lib.hid ⟨es', GX.out, O13.out⟩⟩
                case measure => simp [intOf]; omega
              · obtain ⟨sp, hsp⟩ : ∃ sp, sp = (pickS nx rule es').1 := ⟨_, rfl⟩
                rw [hp1, ← hsp] at PC
                rw [← hsp] at hp2 hp3
                clear hp1 hsp
                go_wp2_with fail
                refine PC.out.mono ?_
                rintro er w12 ⟨rfl, o, -⟩
                have AC := o.age (by have := GX.out.few; omega) nx sp true NX2.out
                rw [hp2] at AC
                obtain ⟨cc, hcc⟩ : ∃ cc, cc = (ageS nx sp true es').1 := ⟨_, rfl⟩
                rw [← hcc] at AC hp3
                have AC := Lib.hid AC
                have g5 : decide ((1 : Int) < (cc : Int)) = false := decide_eq_false (by omega)
                have g5' : decide (1 < cc) = false := decide_eq_false (by omega)
                clear o PC hp2 hp3 hcc
                go_wp2_with fail
                refine AC.out.mono ?_
                rintro er w13 ⟨rfl, o, -⟩
                have O13 := Lib.hid (narrow o)
                clear o AC
                go_wp2_with fail
                go_roundw
                case rel => exact ⟨i + 1, nx, by go_num, rfl, by omega, NX.out, Lib.hid ⟨es', GX.out, O13.out⟩⟩
                case measure => simp [intOf]; omega
      · have e : i = n := by omega
        subst e
        obtain ⟨es, _, T⟩ := HT.out
        have BB := Lib.hid T.bel
        have AW := Lib.hid (awake_any wr T.hd)
        clear T HT
        go_wp2_with fail
        refine AW.out.mono ?_
        rintro er w7 ⟨rfl, hb⟩
        have BN := Lib.hid (BB.out.trans (hb.mono BB.out.size))
        clear hb
        go_wp2_with fail
        go_ret
        exact ⟨rfl, BN.out⟩
end Go.Proofs.YtppnkkpjfjhfkaaDoor.LawAges
