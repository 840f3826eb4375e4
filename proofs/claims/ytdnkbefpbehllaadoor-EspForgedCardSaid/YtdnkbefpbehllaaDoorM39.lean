/- The code's Open. -/
import Derived.Test.YtdnkbefpbehllaaDoorM36
import Derived.Test.YtdnkbefpbehllaaDoorM38
set_option linter.unusedVariables false
namespace Go.Proofs.YtdnkbefpbehllaaDoor.Esp6
open Go.RowKit Go.Proofs.YtdnkbefpbehllaaDoor.Sums Go.Proofs.YtdnkbefpbehllaaDoor.Mem Go.Proofs.YtdnkbefpbehllaaDoor.Blk Go.Proofs.YtdnkbefpbehllaaDoor.Bits3 Go.Proofs.YtdnkbefpbehllaaDoor.Ints Go.Proofs.YtdnkbefpbehllaaDoor.AesB Go.Proofs.YtdnkbefpbehllaaDoor.PadR Go.Proofs.YtdnkbefpbehllaaDoor.EspD Go.Proofs.YtdnkbefpbehllaaDoor.CutA
open Go.Proofs.YtdnkbefpbehllaaDoor.CtrD (four four_byt)
open Go.Proofs.YtdnkbefpbehllaaDoor.EspR2 Go.Proofs.YtdnkbefpbehllaaDoor.Esp1 Go.Proofs.YtdnkbefpbehllaaDoor.Esp2 Go.Proofs.YtdnkbefpbehllaaDoor.Regs Go.Proofs.YtdnkbefpbehllaaDoor.Free Go.Proofs.YtdnkbefpbehllaaDoor.Steps Go.Proofs.YtdnkbefpbehllaaDoor.Dig1 Go.Proofs.YtdnkbefpbehllaaDoor.Esp3 Go.Proofs.YtdnkbefpbehllaaDoor.Esp4 Go.Proofs.YtdnkbefpbehllaaDoor.Esp5 Go.Proofs.YtdnkbefpbehllaaDoor.PadO
open Go.Proofs.YtdnkbefpbehllaaDoor.EspR4 (opX opY Ans3 lies_nil ans_err ans_ok)

theorem ent_expect : Enters Tryd.prog 21 := enters_of Tryd.func21 (by kernel_rfl) rfl
theorem ent_same : Enters Tryd.prog 13 := enters_of Tryd.func13 (by kernel_rfl) rfl
theorem fldP4 (g : Nat) (w : World) : (Instr.fieldAt 47 (.pointer (some ⟨g, 0, none⟩)) 4).run Tryd.prog w = .ok (.pointer (some ⟨g, 4, none⟩)) w := by kernel_rfl
theorem st_not {o : Oper} {a : Act} {w : World} {K : Act → World → Prop} {Q : Exit → Act → World → Prop} {ty : TypeId} (x : Operand) (ho : o.op = .unOp .not ty x) (r : Bool) (hx : a.eval x = .bool r) (hK : K (a.put o.dst (.bool (!r))) w) : Step Tryd.prog o a w K Q :=
  wp_value _ (by simp only [execOp, ho, hx]; simp [go_sem]) hK
theorem openE_ex (sp : Int) (ky sl mc : ByteArray) (es : Bool) (wn : Int) (q : Nat) (l : List Int) (h : exE sp ky sl mc es wn q l ≠ 0) : openE sp ky sl mc es wn q l = exE sp ky sl mc es wn q l := by
  unfold exE at h ⊢
  unfold openE
  by_cases h1 : (may sp ky sl mc wn && num es q) = false
  · rw [if_pos h1, if_pos h1]
  · rw [if_neg h1, if_neg h1]
    rw [if_neg h1] at h
    by_cases h2 : l.length < 36
    · rw [if_pos h2, if_pos h2]
    · rw [if_neg h2, if_neg h2]
      rw [if_neg h2] at h
      by_cases h3 : formB sp q l = false
      · rw [if_pos h3, if_pos h3]
      · rw [if_neg h3] at h
        exact absurd rfl h
theorem exE_ok (sp : Int) (ky sl mc : ByteArray) (es : Bool) (wn : Int) (q : Nat) (l : List Int) (h : exE sp ky sl mc es wn q l = 0) : may sp ky sl mc wn = true ∧ num es q = true ∧ 36 ≤ l.length ∧ formB sp q l = true ∧ openE sp ky sl mc es wn q l = if icvB mc es q l = false then 110 else if okO (plainL ky sl l) = false then 130 else 0 := by
  unfold exE at h
  unfold openE
  by_cases h1 : (may sp ky sl mc wn && num es q) = false
  · rw [if_pos h1] at h; cases h
  · rw [if_neg h1] at h ⊢
    by_cases h2 : l.length < 36
    · rw [if_pos h2] at h; cases h
    · rw [if_neg h2] at h ⊢
      by_cases h3 : formB sp q l = false
      · rw [if_pos h3] at h; cases h
      · rw [if_neg h3]
        have h1' : (may sp ky sl mc wn && num es q) = true := by simpa using h1
        rw [Bool.and_eq_true] at h1'
        exact ⟨h1'.1, h1'.2, by omega, by simpa using h3, rfl⟩
theorem parts_eq (l : List Int) (E : Nat) (h : 16 ≤ E) (U : List Nat) : nats (l.take 8 ++ ((l.drop 8).take 8 ++ ((l.drop 16).take (E - 16) ++ ints U))) = nats (l.take E) ++ U := by
  have e1 : l.take 16 = l.take 8 ++ (l.drop 8).take 8 := by rw [show 16 = 8 + 8 from rfl, List.take_add]
  have e2 : l.take E = l.take 16 ++ (l.drop 16).take (E - 16) := by rw [show E = 16 + (E - 16) by omega, List.take_add]; simp
  rw [e2, e1]
  have na : ∀ a b : List Int, nats (a ++ b) = nats a ++ nats b := fun a b => by simp [nats]
  rw [na, na, na, na, na, nats_ints]
  simp [List.append_assoc]

set_option maxRecDepth 100000 in
set_option maxHeartbeats 4000000 in
theorem open_no (sp : Int) (ky sl mc : ByteArray) (es : Bool) (wn : Int) (q : Nat) (hq : q < 18446744073709551616) (A : Option Addr) (n c : Nat) (l : List Int) (w : World) (B : Nat) (h : Holds w B A n c l) (hB : B ≤ w.heap.size) (hn : n ≤ 60000) (hT : Tab w) :
    Calls Tryd.prog 10 #[.agg #[.int .i64 sp, .string ky, .string sl, .string mc, .bool es, .int .i64 wn], .int .u64 (q : Int), .slice A n c] w (Ans3 w (opX sp ky sl mc es wn q l) (opY sp ky sl mc es wn q l) (openE sp ky sl mc es wn q l)) := by
  have K1 := Lib.hid (Blk.new w 23 #[.int .i64 sp, .string ky, .string sl, .string mc, .bool es, .int .i64 wn])
  have B0 := Lib.hid ((Below.refl w.heap.size w).alloc (Nat.le_refl _) (.cells #[.int .i64 sp, .string ky, .string sl, .string mc, .bool es, .int .i64 wn] 23))
  have EX := Lib.hid (examine_no sp ky sl mc es wn q hq A n c l (w.alloc (.cells #[.int .i64 sp, .string ky, .string sl, .string mc, .bool es, .int .i64 wn] 23)) B (h.below (B0.out.mono hB)) (Nat.le_trans hB B0.out.size) (by omega))
  by_cases hx : exE sp ky sl mc es wn q l = 0
  · obtain ⟨hm, hu, h36, hf, OE'⟩ := exE_ok sp ky sl mc es wn q l hx
    have OE := Lib.hid OE'
    rw [hx] at EX
    rw [h.1] at h36
    obtain ⟨m1, m2, m3, m4, m5, m6, m7⟩ := may_facts hm
    obtain ⟨b, p, rfl, _⟩ := h.2.2.2.2 (by omega)
    obtain ⟨E, hE⟩ : ∃ E, E = n - 16 := ⟨_, rfl⟩
    have E16 : 16 ≤ E := by omega
    have EN : E ≤ n := by omega
    obtain ⟨N3, hN3⟩ : ∃ N3, N3 = if es then 4 else 0 := ⟨_, rfl⟩
    have N3L : Hid (N3 ≤ 4) := Lib.hid (by rw [hN3]; split <;> omega)
    have DV := Lib.hid (fun (W : World) (hw : Below w.heap.size w W) => divide_no sp ky sl mc es wn q hq b p n c l W B (h.below (hw.mono hB)) (Nat.le_trans hB hw.size) h36 (by omega) N3 hN3 E hE)
    have F4 : E % 4 = 0 := by
      unfold formB endN at hf
      rw [Bool.and_eq_true, decide_eq_true_eq, h.1] at hf
      omega
    have eE : endN l = E := by unfold endN; rw [h.1]; omega
    obtain ⟨TT, hTT⟩ : ∃ TT, TT = tagL mc es q (nats (l.take E)) := ⟨_, rfl⟩
    have PLE : plainL ky sl l = ints (turnL ky sl (nats ((l.drop 8).take 8)) (nats ((l.drop 16).take (E - 16)))) := by unfold plainL; rw [eE]
    obtain ⟨PL, hPL⟩ : ∃ PL, PL = plainL ky sl l := ⟨_, rfl⟩
    have PE := Lib.hid hPL
    have PLN : PL.length = E - 16 := by
      rw [hPL, PLE, Ctr1.ints_len, turnL_len, nats_length, List.length_take, List.length_drop, h.1]
      omega
    obtain ⟨rb, hrb⟩ : ∃ rb, rb = icvB mc es q l := ⟨_, rfl⟩
    have RB : Hid (icvB mc es q l = rb) := Lib.hid hrb.symm
    have RT : rb = decide (ints TT = l.drop E) := by
      rw [hrb, hTT]
      unfold icvB
      rw [eE, decide_eq_decide]
      exact eq_comm
    have HP : Hid (∀ V, Below w.heap.size w V → Holds V V.heap.size (some ⟨b, p, none⟩) 8 c (l.take 8) ∧ Holds V V.heap.size (some (adr b p c 8)) 8 (c - 8) ((l.drop 8).take 8) ∧ Holds V V.heap.size (some (adr b p c 16)) (E - 16) (c - 16) ((l.drop 16).take (E - 16)) ∧ Holds V V.heap.size (some (adr b p c E)) (n - E) (c - E) (l.drop E)) := Lib.hid fun V hV => by
      have z := (h.below (hV.mono hB)).more (Nat.le_trans hB hV.size)
      exact ⟨z.upto (by omega), cutA_holds (lo := 8) (hi := 16) z (by omega) (by omega), cutA_holds z E16 EN, cutA_rest z EN⟩
    have OG : Hid (okO PL = true → PadU.opO PL = openO ky sl l ∧ PadU.opY PL = PL.getD (PL.length - 1) 0 ∧ PadU.opE PL = 0) := Lib.hid fun z => by
      unfold PadU.opO PadU.opY PadU.opE openO
      have nl : ¬ PL.length < 2 := by omega
      rw [← hPL, if_neg nl, if_neg nl, if_neg nl, z, if_pos rfl, if_pos rfl, if_pos rfl]
      exact ⟨rfl, rfl, rfl⟩
    have OB : Hid (okO PL = false → PadU.opO PL = [] ∧ PadU.opY PL = 0 ∧ PadU.opE PL = 130) := Lib.hid fun z => by
      unfold PadU.opO PadU.opY PadU.opE
      have nl : ¬ PL.length < 2 := by omega
      rw [if_neg nl, if_neg nl, if_neg nl, z]
      exact ⟨rfl, rfl, rfl⟩
    have IS2a : Hid (∀ W, Calls Tryd.prog 28 #[.iface 27 (.int .i64 0), .iface 27 (.int .i64 2)] W fun e w' => e = .returned (.bool false) ∧ W = w') := Lib.hid fun W => EspI.isE 0 2 W
    have IS130a : Hid (∀ W, Calls Tryd.prog 28 #[.iface 27 (.int .i64 0), .iface 27 (.int .i64 130)] W fun e w' => e = .returned (.bool false) ∧ W = w') := Lib.hid fun W => EspI.isE 0 130 W
    have IS2b : Hid (∀ W, Calls Tryd.prog 28 #[.iface 27 (.int .i64 130), .iface 27 (.int .i64 2)] W fun e w' => e = .returned (.bool false) ∧ W = w') := Lib.hid fun W => EspI.isE 130 2 W
    have IS130b : Hid (∀ W, Calls Tryd.prog 28 #[.iface 27 (.int .i64 130), .iface 27 (.int .i64 130)] W fun e w' => e = .returned (.bool true) ∧ W = w') := Lib.hid fun W => EspI.isE 130 130 W
    have NS := Lib.hid (And.intro hE (And.intro E16 (And.intro EN hn)))
    have TE : Hid ((MacD.full (nats (nums mc)) (nats (l.take 8 ++ ((l.drop 8).take 8 ++ ((l.drop 16).take (E - 16) ++ ints (upL es q)))))).take 16 = TT) := Lib.hid (by
      rw [parts_eq l E E16, hTT]
      rfl)
    have TB : Hid (Byt TT ∧ TT.length = 16) := Lib.hid ⟨by rw [hTT]; exact tagL_byt _ _ _ _, by rw [hTT]; exact tagL_len _ _ _ _⟩
    have HT := Lib.hid hT
    have MH := Lib.hid (And.intro m3 (And.intro m4 m5))
    have RT' := Lib.hid RT
    clear hN3 hm hu hf OE' hx h36 m1 m2 m3 m4 m5 m6 m7 hTT hPL hrb RT F4 eE hT h hq hn PLN hE
    have PLE' := Lib.hid PLE
    clear PLE
    obtain ⟨g, hg⟩ : ∃ g, g = w.heap.size := ⟨_, rfl⟩
    have GE := Lib.hid hg
    clear hg
    go_enter Tryd.func10, Tryd.ntmps10
    go_wp2_with (refine Loads.wpList_load_w rfl 23 (.tmp 3) rfl w.heap.size rfl 23 #[.int .i64 sp, .string ky, .string sl, .string mc, .bool es, .int .i64 wn] (0, 0) _ (K1.out) Tryd.underlying23 rfl (by kernel_rfl) ?_)
    refine EX.out.mono ?_
    rintro e w2 ⟨rfl, hb⟩
    have B2 := Lib.hid (B0.out.trans (hb.mono (by simp)))
    have K2 := Lib.hid (Blk.below K1.out hb (Blk.lt K1.out))
    clear hb EX
    go_wp2_with (refine Loads.wpList_load_w rfl 23 (.tmp 3) rfl w.heap.size rfl 23 #[.int .i64 sp, .string ky, .string sl, .string mc, .bool es, .int .i64 wn] (0, 0) _ (K2.out) Tryd.underlying23 rfl (by kernel_rfl) ?_)
    refine (DV.out w2 B2.out).mono ?_
    rintro e w3 ⟨A3, c3, rfl, h3, hb⟩
    have B3 := Lib.hid (B2.out.trans (hb.mono B2.out.size))
    have K3 := Lib.hid (Blk.below K2.out hb (Blk.lt K2.out))
    have H3 := Lib.hid h3
    clear hb DV h3
    obtain ⟨CC, hCC⟩ : ∃ CC : Array Value, CC = #[.slice (some ⟨b, p, none⟩) 8 c, .slice (some (adr b p c 8)) 8 (c - 8), .slice (some (adr b p c 16)) (E - 16) (c - 16), .slice A3 N3 c3, .slice (some (adr b p c E)) (n - E) (c - E)] := ⟨_, rfl⟩
    have CE := Lib.hid hCC
    have J := Blk.new w3 47 #[.slice none 0 0, .slice none 0 0, .slice none 0 0, .slice none 0 0, .slice none 0 0]
    have NB := Lib.hid (setRow_blk J #[.slice (some ⟨b, p, none⟩) 8 c, .slice (some (adr b p c 8)) 8 (c - 8), .slice (some (adr b p c 16)) (E - 16) (c - 16), .slice A3 N3 c3, .slice (some (adr b p c E)) (n - E) (c - E)])
    have B3a := (Below.refl w3.heap.size w3).alloc (Nat.le_refl _) (.cells #[.slice none 0 0, .slice none 0 0, .slice none 0 0, .slice none 0 0, .slice none 0 0] 47)
    have B4 := Lib.hid (B3.out.trans (setRow_bel (B3a.mono B3.out.size) B3.out.size #[.slice (some ⟨b, p, none⟩) 8 c, .slice (some (adr b p c 8)) 8 (c - 8), .slice (some (adr b p c 16)) (E - 16) (c - 16), .slice A3 N3 c3, .slice (some (adr b p c E)) (n - E) (c - E)]))
    have K4 : Hid (Blk ((w3.alloc (.cells #[.slice none 0 0, .slice none 0 0, .slice none 0 0, .slice none 0 0, .slice none 0 0] 47)).setRow w3.heap.size #[.slice (some ⟨b, p, none⟩) 8 c, .slice (some (adr b p c 8)) 8 (c - 8), .slice (some (adr b p c 16)) (E - 16) (c - 16), .slice A3 N3 c3, .slice (some (adr b p c E)) (n - E) (c - E)]) w.heap.size 23 #[.int .i64 sp, .string ky, .string sl, .string mc, .bool es, .int .i64 wn]) := Lib.hid (Blk.below K3.out (setRow_bel B3a (Nat.le_refl _) #[.slice (some ⟨b, p, none⟩) 8 c, .slice (some (adr b p c 8)) 8 (c - 8), .slice (some (adr b p c 16)) (E - 16) (c - 16), .slice A3 N3 c3, .slice (some (adr b p c E)) (n - E) (c - E)]) (Blk.lt K3.out))
    have H4 : Hid (Holds ((w3.alloc (.cells #[.slice none 0 0, .slice none 0 0, .slice none 0 0, .slice none 0 0, .slice none 0 0] 47)).setRow w3.heap.size #[.slice (some ⟨b, p, none⟩) 8 c, .slice (some (adr b p c 8)) 8 (c - 8), .slice (some (adr b p c 16)) (E - 16) (c - 16), .slice A3 N3 c3, .slice (some (adr b p c E)) (n - E) (c - E)]) ((w3.alloc (.cells #[.slice none 0 0, .slice none 0 0, .slice none 0 0, .slice none 0 0, .slice none 0 0] 47)).setRow w3.heap.size #[.slice (some ⟨b, p, none⟩) 8 c, .slice (some (adr b p c 8)) 8 (c - 8), .slice (some (adr b p c 16)) (E - 16) (c - 16), .slice A3 N3 c3, .slice (some (adr b p c E)) (n - E) (c - E)]).heap.size A3 N3 c3 (ints (upL es q))) := Lib.hid ((H3.out.below (setRow_bel B3a (Nat.le_refl _) #[.slice (some ⟨b, p, none⟩) 8 c, .slice (some (adr b p c 8)) 8 (c - 8), .slice (some (adr b p c 16)) (E - 16) (c - 16), .slice A3 N3 c3, .slice (some (adr b p c E)) (n - E) (c - E)])).more (setRow_bel B3a (Nat.le_refl _) #[.slice (some ⟨b, p, none⟩) 8 c, .slice (some (adr b p c 8)) 8 (c - 8), .slice (some (adr b p c 16)) (E - 16) (c - 16), .slice A3 N3 c3, .slice (some (adr b p c E)) (n - E) (c - E)]).size)
    have JH := Lib.hid J
    clear B3a J hCC
    go_wp2_with (refine wpList_store_row rfl 47 (.tmp 10) (.tmp 24) rfl w3.heap.size #[.slice (some ⟨b, p, none⟩) 8 c, .slice (some (adr b p c 8)) 8 (c - 8), .slice (some (adr b p c 16)) (E - 16) (c - 16), .slice A3 N3 c3, .slice (some (adr b p c E)) (n - E) (c - E)] rfl rfl 47 _ JH.out (by kernel_rfl) rfl (one5 _ _ _ _ _ _ _ _ _ _ _ _ _ _ _) ?_)
    clear JH H3
    generalize ((w3.alloc (.cells #[.slice none 0 0, .slice none 0 0, .slice none 0 0, .slice none 0 0, .slice none 0 0] 47)).setRow w3.heap.size #[.slice (some ⟨b, p, none⟩) 8 c, .slice (some (adr b p c 8)) 8 (c - 8), .slice (some (adr b p c 16)) (E - 16) (c - 16), .slice A3 N3 c3, .slice (some (adr b p c E)) (n - E) (c - E)]) = w4 at *
    obtain ⟨g10, hg10⟩ : ∃ g10, g10 = w3.heap.size := ⟨_, rfl⟩
    rw [← hg10] at NB ⊢
    rw [← GE.out] at K4 ⊢
    clear hg10 K1 K2 K3
    have XP : Hid (∀ V, Below w4.drew.heap.size w4.drew V → Blk V g10 47 #[.slice (some ⟨b, p, none⟩) 8 c, .slice (some (adr b p c 8)) 8 (c - 8), .slice (some (adr b p c 16)) (E - 16) (c - 16), .slice A3 N3 c3, .slice (some (adr b p c E)) (n - E) (c - E)] ∧ Blk V g 23 #[.int .i64 sp, .string ky, .string sl, .string mc, .bool es, .int .i64 wn]) := Lib.hid fun V hV => ⟨Blk.below (Blk.drew NB.out) hV (Blk.lt NB.out), Blk.below (Blk.drew K4.out) hV (Blk.lt K4.out)⟩
    have EXP : Hid (∀ V, Below w4.drew.heap.size w4.drew V → Calls Tryd.prog 21 #[.agg #[.slice (some ⟨b, p, none⟩) 8 c, .slice (some (adr b p c 8)) 8 (c - 8), .slice (some (adr b p c 16)) (E - 16) (c - 16), .slice A3 N3 c3, .slice (some (adr b p c E)) (n - E) (c - E)], .agg #[.int .i64 sp, .string ky, .string sl, .string mc, .bool es, .int .i64 wn]] V fun e w' => ∃ v, e = .returned v ∧ Lies w' v 16 (ints TT) ∧ Below V.heap.size V w') := Lib.hid fun V hV => by
      have hb := B4.out.trans ((below_drewN_1 hV).mono B4.out.size)
      obtain ⟨z0, z1, z2, z4⟩ := HP.out V hb
      have z3 := (H4.out.below (below_drewN_1 hV)).more (below_drewN_1 hV).size
      have nn := NS.out
      have e3 := N3L.out
      have := expect_no _ _ _ _ _ _ _ _ _ _ _ _ _ _ _ _ (some (adr b p c E)) (n - E) (c - E) (l.drop E) sp ky sl mc es wn V V.heap.size z0 z1 z2 z3 (Nat.le_refl _) (by omega) MH.out.2.2 (HT.out.up hb)
      rw [TE.out] at this
      exact this
    have SM : Hid (∀ V, Below w4.drew.heap.size w4.drew V → ∀ At ct, Holds V V.heap.size At 16 ct (ints TT) → Calls Tryd.prog 13 #[.slice At 16 ct, .slice (some (adr b p c E)) (n - E) (c - E)] V fun e w' => ∃ v, e = .returned v ∧ v = .bool rb ∧ Below V.heap.size V w') := Lib.hid fun V hV At ct ht => by
      have hb := B4.out.trans ((below_drewN_1 hV).mono B4.out.size)
      obtain ⟨_, _, _, z4⟩ := HP.out V hb
      have nn := NS.out
      exact (Mac4.same_any At 16 ct (ints TT) (some (adr b p c E)) (n - E) (c - E) (l.drop E) V V.heap.size ht z4 (by omega) (by omega)).mono fun e w' ⟨h1, h2⟩ => ⟨_, h1, by rw [RT'.out], by rw [← h2]; exact Below.refl _ _⟩
    have RVL : Hid (∀ V, Below w.heap.size w V → Calls Tryd.prog 27 #[.agg #[.slice (some ⟨b, p, none⟩) 8 c, .slice (some (adr b p c 8)) 8 (c - 8), .slice (some (adr b p c 16)) (E - 16) (c - 16), .slice A3 N3 c3, .slice (some (adr b p c E)) (n - E) (c - E)], .agg #[.int .i64 sp, .string ky, .string sl, .string mc, .bool es, .int .i64 wn]] V (PadU.Ans3 V (PadU.opO PL) (PadU.opY PL) (PadU.opE PL))) := Lib.hid fun V hV => by
      obtain ⟨z0, z1, z2, z4⟩ := HP.out V hV
      have nn := NS.out
      have := reveal_no (some ⟨b, p, none⟩) 8 c (l.take 8) _ _ _ _ _ _ _ _ A3 N3 c3 (ints (upL es q)) (some (adr b p c E)) (n - E) (c - E) (l.drop E) sp ky sl mc es wn V V.heap.size z1 z2 (Nat.le_refl _) MH.out.1 MH.out.2.1 rfl (by omega)
      rw [← PLE'.out, ← PE.out] at this
      exact this
    clear NB K4 H4 HP TE TB HT MH RT' PLE' CE
    refine wp_region_free [0, 1, 2, 3, 4, 5] 6 [] (fun w1 w2 => Below w1.heap.size w1 w2) (fun k' w' v => match k' with
      | 0 => v = .agg #[.slice (some ⟨b, p, none⟩) 8 c, .slice (some (adr b p c 8)) 8 (c - 8), .slice (some (adr b p c 16)) (E - 16) (c - 16), .slice A3 N3 c3, .slice (some (adr b p c E)) (n - E) (c - E)]
      | 1 => v = .agg #[.int .i64 sp, .string ky, .string sl, .string mc, .bool es, .int .i64 wn]
      | 2 => Lies w' v 16 (ints TT)
      | 3 => v = .pointer (some ⟨g10, 4, none⟩)
      | 4 => v = .slice (some (adr b p c E)) (n - E) (c - E)
      | _ => v = .bool rb) (by kernel_rfl) (by kernel_rfl) (Below.refl _ _) (fun _ _ _ h k => h.trans (k.mono h.size)) (fun k' w1 w2 v h => match k' with
      | 0 => fun x => x
      | 1 => fun x => x
      | 2 => fun q => q.below h
      | 3 => fun x => x
      | 4 => fun x => x
      | _ + 5 => fun x => x) (fun _ _ _ _ _ h => h) ?_ _ (by rfl) ?_
    · refine obs_cons (by rfl) (fun vals w' hgr hdep K hK => ?_) (obs_cons (by rfl) (fun vals w' hgr hdep K hK => ?_) (obs_cons (by rfl) (fun vals w' hgr hdep K hK => ?_) (obs_cons (by rfl) (fun vals w' hgr hdep K hK => ?_) (obs_cons (by rfl) (fun vals w' hgr hdep K hK => ?_) (obs_cons (by rfl) (fun vals w' hgr hdep K hK => ?_) (obs_nil))))))
      · exact st_load_row 47 (.tmp 10) rfl g10 (at_out _ (by kernel_rfl) rfl) 47 _ (0, 0) _ (XP.out w' hgr).1 Tryd.underlying47 rfl (by kernel_rfl) (hK _ _ (Below.refl _ _) rfl)
      · exact st_load_row 23 (.tmp 3) rfl g (at_out _ (by kernel_rfl) rfl) 23 _ (0, 0) _ (XP.out w' hgr).2 Tryd.underlying23 rfl (by kernel_rfl) (hK _ _ (Below.refl _ _) rfl)
      · exact wp_call 21 [.tmp 25, .tmp 26] _ rfl ent_expect [.agg #[.slice (some ⟨b, p, none⟩) 8 c, .slice (some (adr b p c 8)) 8 (c - 8), .slice (some (adr b p c 16)) (E - 16) (c - 16), .slice A3 N3 c3, .slice (some (adr b p c E)) (n - E) (c - E)], .agg #[.int .i64 sp, .string ky, .string sl, .string mc, .bool es, .int .i64 wn]] (list2 ((at_dst 0 (by kernel_rfl)).trans (hdep 0 (by simp) (by kernel_rfl))) ((at_dst 1 (by kernel_rfl)).trans (hdep 1 (by simp) (by kernel_rfl)))) (fun v w'' => Lies w'' v 16 (ints TT) ∧ Below w'.heap.size w' w'') (EXP.out w' hgr) (fun v w'' ⟨h1, h2⟩ => hK _ _ h2 h1)
      · exact wp_field (.tmp 10) rfl _ _ (at_out _ (by kernel_rfl) rfl) (fldP4 _ _) (hK _ _ (Below.refl _ _) rfl)
      · exact wp_load1 (.tmp 28) rfl ⟨g10, 4, none⟩ ((at_dst 3 (by kernel_rfl)).trans (hdep 3 (by simp) (by kernel_rfl))) Tryd.underlying25 rfl _ (((XP.out w' hgr).1).cell 4) (hK _ _ (Below.refl _ _) rfl)
      · obtain ⟨At, ct, et, ht⟩ := hdep 2 (by simp) (by kernel_rfl)
        exact wp_call 13 [.tmp 27, .tmp 29] _ rfl ent_same [.slice At 16 ct, .slice (some (adr b p c E)) (n - E) (c - E)] (list2 ((at_dst 2 (by kernel_rfl)).trans et) ((at_dst 4 (by kernel_rfl)).trans (hdep 4 (by simp) (by kernel_rfl)))) (fun v w'' => v = .bool rb ∧ Below w'.heap.size w' w'') (SM.out w' hgr At ct ht) (fun v w'' ⟨h1, h2⟩ => hK _ _ h2 h1)
    · intro vals w' hgr hG
      refine st_not (.tmp 30) rfl rb ((at_dst 5 (by kernel_rfl)).trans (hG 5 (by simp))) (wpAnyH_done (by kernel_rfl) ?_ _)
      have B5 := Lib.hid (B4.out.trans ((below_drewN_1 hgr).mono B4.out.size))
      have KK := Lib.hid (XP.out w' hgr)
      clear hG hgr EXP SM XP
      simp only [fill, dstAt, List.getElem?_cons_zero, List.getElem?_cons_succ, Option.bind_some, Act.put, List.setIfInBounds_toArray, List.set_cons_zero, List.set_cons_succ]
      generalize vals 0 = z0, vals 1 = z1, vals 2 = z2, vals 3 = z3, vals 4 = z4, vals 5 = z5 at *
      generalize w' = w5 at *
      cases rb
      · go_wp2_with fail
        go_ret3
        exact ans_err sp ky sl mc es wn q l (k := 110) (by rw [OE.out, if_pos RB.out]) (by decide) rfl B5.out
      · have RV := Lib.hid (RVL.out w5 B5.out)
        have KP5 := Lib.hid KK.out.1
        have KS5 := Lib.hid KK.out.2
        go_wp2_with (first
          | (refine Loads.wpList_load_w rfl 47 (.tmp 10) rfl g10 rfl 47 #[.slice (some ⟨b, p, none⟩) 8 c, .slice (some (adr b p c 8)) 8 (c - 8), .slice (some (adr b p c 16)) (E - 16) (c - 16), .slice A3 N3 c3, .slice (some (adr b p c E)) (n - E) (c - E)] (0, 0) _ (KP5.out) Tryd.underlying47 rfl (by kernel_rfl) ?_)
          | (refine Loads.wpList_load_w rfl 23 (.tmp 3) rfl g rfl 23 #[.int .i64 sp, .string ky, .string sl, .string mc, .bool es, .int .i64 wn] (0, 0) _ (KS5.out) Tryd.underlying23 rfl (by kernel_rfl) ?_))
        refine RV.out.mono ?_
        rintro e w6 ⟨A9, c9, rfl, h9, hb⟩
        have H9 := Lib.hid h9
        have B6 := Lib.hid (B5.out.trans (hb.mono B5.out.size))
        clear h9 hb RV KP5 KS5 KK
        cases hok : okO PL
        · obtain ⟨e1, e2, e3⟩ := OB.out hok
          rw [e1, e2, e3]
          go_wp2_with fail
          refine (IS2b.out _).mono ?_
          rintro e w7 ⟨rfl, rfl⟩
          go_wp2_with fail
          refine (IS130b.out _).mono ?_
          rintro e w7 ⟨rfl, rfl⟩
          go_wp2_with fail
          go_ret3
          exact ans_err sp ky sl mc es wn q l (k := 130) (by rw [OE.out, if_neg (by rw [RB.out]; decide), if_pos (by rw [← PE.out]; exact hok)]) (by decide) rfl B6.out
        · obtain ⟨e1, e2, e3⟩ := OG.out hok
          rw [e2, e3]
          rw [e1] at H9
          have PN : Hid ((PadU.opO PL).length = (openO ky sl l).length) := Lib.hid (by rw [e1])
          rw [PN.out]
          have O0 : Hid (openE sp ky sl mc es wn q l = 0) := Lib.hid (by rw [OE.out, if_neg (by rw [RB.out]; decide), if_neg (by rw [← PE.out, hok]; decide)])
          have OY : Hid (openY ky sl l = PL.getD (PL.length - 1) 0) := Lib.hid (by unfold openY; rw [← PE.out])
          generalize PL.getD (PL.length - 1) 0 = y at *
          generalize PL = PL2 at *
          obtain ⟨on, hon⟩ : ∃ on, on = (openO ky sl l).length := ⟨_, rfl⟩
          rw [← hon] at H9 ⊢
          have ON := Lib.hid hon
          clear hon e1 e2 e3 hok PN OB OG
          go_wp2_with fail
          refine (IS2a.out _).mono ?_
          rintro e w7 ⟨rfl, rfl⟩
          go_wp2_with fail
          refine (IS130a.out _).mono ?_
          rintro e w7 ⟨rfl, rfl⟩
          go_wp2_with fail
          go_ret3
          exact ans_ok sp ky sl mc es wn q l O0.out A9 c9 ON.out.symm H9.out OY.out rfl B6.out
  · have OE := Lib.hid (openE_ex sp ky sl mc es wn q l hx)
    obtain ⟨k, hk⟩ : ∃ k, k = exE sp ky sl mc es wn q l := ⟨_, rfl⟩
    rw [← hk] at EX OE hx
    have g1 : (((k : Nat) : Int) != 0) = true := by simp; omega
    have HX := Lib.hid hx
    clear hk h hn hq hB hT hx
    go_enter Tryd.func10, Tryd.ntmps10
    go_wp2_with (refine Loads.wpList_load_w rfl 23 (.tmp 3) rfl w.heap.size rfl 23 #[.int .i64 sp, .string ky, .string sl, .string mc, .bool es, .int .i64 wn] (0, 0) _ (K1.out) Tryd.underlying23 rfl (by kernel_rfl) ?_)
    refine EX.out.mono ?_
    rintro e w2 ⟨rfl, hb⟩
    have B2 := Lib.hid (B0.out.trans (hb.mono (by simp)))
    clear hb
    go_wp2_with fail
    go_ret3
    exact ans_err sp ky sl mc es wn q l OE.out HX.out rfl B2.out
end Go.Proofs.YtdnkbefpbehllaaDoor.Esp6

