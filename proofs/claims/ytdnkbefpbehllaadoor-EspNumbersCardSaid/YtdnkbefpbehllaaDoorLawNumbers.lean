/- The law EspNumbers: its walk. -/
import Derived.Test.YtdnkbefpbehllaaDoorM41
set_option linter.unusedVariables false
namespace Go.Proofs.YtdnkbefpbehllaaDoor.LawNumbers
open Go.RowKit Go.Proofs.YtdnkbefpbehllaaDoor.Sums Go.Proofs.YtdnkbefpbehllaaDoor.Mem Go.Proofs.YtdnkbefpbehllaaDoor.Blk Go.Proofs.YtdnkbefpbehllaaDoor.Bits3 Go.Proofs.YtdnkbefpbehllaaDoor.Ints Go.Proofs.YtdnkbefpbehllaaDoor.AesB Go.Proofs.YtdnkbefpbehllaaDoor.PadR Go.Proofs.YtdnkbefpbehllaaDoor.EspD Go.Proofs.YtdnkbefpbehllaaDoor.CutA Go.Proofs.YtdnkbefpbehllaaDoor.EspR2 Go.Proofs.YtdnkbefpbehllaaDoor.Regs Go.Proofs.YtdnkbefpbehllaaDoor.Free Go.Proofs.YtdnkbefpbehllaaDoor.Steps Go.Proofs.YtdnkbefpbehllaaDoor.Dig1 Go.Proofs.YtdnkbefpbehllaaDoor.Esp7 Go.Proofs.YtdnkbefpbehllaaDoor.Esp8
open Go.Proofs.YtdnkbefpbehllaaDoor.EspR4 (opX opY)
open Go.Proofs.YtdnkbefpbehllaaDoor.CtrD (four four_byt)

theorem ent_awake : Enters Tryd.prog 8 := enters_of Tryd.func8 (by kernel_rfl) rfl
theorem b_equ (a b : Int) (r : Bool) (h : (a == b) = r) (x y : Operand) (w : World) : (do eqGuard .eql 24 x y (.int .u64 a) (.int .u64 b); binOp .eql 24 (.int .u64 a) (.int .u64 b) : Sem Value).run Tryd.prog w = .ok (.bool r) w := by
  subst h
  simp [go_sem, eqGuard]
theorem ints_inj {a b : List Nat} (h : ints a = ints b) : a = b := by
  have := congrArg nats h
  rwa [nats_ints, nats_ints] at this
theorem four_inj {a b : Nat} (ha : a < 4294967296) (hb : b < 4294967296) (h : four a = four b) : a = b := by
  unfold four at h
  simp only [List.cons.injEq, and_true] at h
  omega
theorem ivL_inj {x y : Nat} (hx : x < 18446744073709551616) (hy : y < 18446744073709551616) (h : ivL x = ivL y) : x = y := by
  unfold ivL at h
  have h1 := List.append_inj_left h rfl
  have h2 := List.append_inj_right h rfl
  have a1 := four_inj (by unfold hiN; omega) (by unfold hiN; omega) h1
  have a2 := four_inj (by unfold loN; omega) (by unfold loN; omega) h2
  unfold hiN at a1
  unfold loN at a2
  omega
section
variable (sp : Int) (ky sl mc : ByteArray) (es : Bool) (wn : Int) (q : Nat) (d : List Int) (x : Int)
theorem seal_four : (ints (sealL sp ky sl mc es wn q d x)).take 4 = ints (four sp.toNat) := by
  rw [EspP.seal_split]
  exact List.take_left' rfl
theorem seal_mid : ((ints (sealL sp ky sl mc es wn q d x)).drop 8).take (16 - 8) = ints (ivL q) := by
  have e : ints (sealL sp ky sl mc es wn q d x) = (ints (four sp.toNat) ++ ints (four (loN q))) ++ (ints (ivL q) ++ (ints (turnL ky sl (ivL q) (nats (sealed d x))) ++ ints (tagL mc es q (frontL sp ky sl q d x)))) := by rw [EspP.seal_split, List.append_assoc]
  rw [e, List.drop_left' (by rw [List.length_append, Ctr1.ints_len, Ctr1.ints_len]; rfl), List.take_left' (by rw [Ctr1.ints_len, ivL_len])]
end
theorem bytes_ints {l : List Nat} (h : Byt l) : Bytes (ints l) := ints_bytes h

set_option maxRecDepth 100000 in
set_option maxHeartbeats 4000000 in
theorem numbers_q (sp : Int) (ky sl mc : ByteArray) (es : Bool) (wn : Int) (x y : Nat) (A3 : Option Addr) (n3 c3 : Nat) (l3 : List Int) (w : World) (zs : ky.size ≤ 140737488355328 ∧ sl.size ≤ 140737488355328 ∧ mc.size ≤ 140737488355328) (hx : x < 18446744073709551616) (hy : y < 18446744073709551616) (h3 : Holds w w.heap.size A3 n3 c3 l3) (m3 : n3 ≤ 140737488355328) (hT : Tab w) :
    Calls Tryd.prog 5 #[.agg #[.int .i64 sp, .string ky, .string sl, .string mc, .bool es, .int .i64 wn], .int .u64 (x : Int), .int .u64 (y : Int), .slice A3 n3 c3] w fun e w' => e = .returned (.bool true) ∧ Below w.heap.size w w' := by
  have HA := Lib.hid h3
  have HX := Lib.hid hx
  have HY := Lib.hid hy
  have HL := Lib.hid h3.1
  have HD := Lib.hid h3.2.2.2.1
  clear h3 m3 hx hy
  have FW := Lib.hid (fun W => LawFew.few_any sp ky sl mc es wn W zs)
  have K1 := Lib.hid (Blk.new w 23 #[.int .i64 sp, .string ky, .string sl, .string mc, .bool es, .int .i64 wn])
  have B0 := Lib.hid ((Below.refl w.heap.size w).alloc (Nat.le_refl _) (.cells #[.int .i64 sp, .string ky, .string sl, .string mc, .bool es, .int .i64 wn] 23))
  have HT := Lib.hid hT
  generalize decide ((ky.size : Int) + (sl.size : Int) + (mc.size : Int) ≤ 300) = fw at *
  clear hT zs
  cases fw
  · go_enter Tryd.func5, Tryd.ntmps5
    go_wp2_with (refine Loads.wpList_load_w rfl 23 (.tmp 4) rfl w.heap.size rfl 23 #[.int .i64 sp, .string ky, .string sl, .string mc, .bool es, .int .i64 wn] (0, 0) _ (K1.out) Tryd.underlying23 rfl (by kernel_rfl) ?_)
    refine (FW.out _).mono ?_
    rintro e w2 ⟨rfl, hb⟩
    have B2 := Lib.hid (B0.out.trans (hb.mono (by simp)))
    have K2 := Lib.hid (Blk.below K1.out hb (Blk.lt K1.out))
    clear hb
    go_wp2_with fail
    go_ret
    exact ⟨rfl, B2.out⟩
  by_cases big : 300 < n3
  · have g1 : decide ((300 : Int) < (n3 : Int)) = true := decide_eq_true (by omega)
    clear big
    go_enter Tryd.func5, Tryd.ntmps5
    go_wp2_with (refine Loads.wpList_load_w rfl 23 (.tmp 4) rfl w.heap.size rfl 23 #[.int .i64 sp, .string ky, .string sl, .string mc, .bool es, .int .i64 wn] (0, 0) _ (K1.out) Tryd.underlying23 rfl (by kernel_rfl) ?_)
    refine (FW.out _).mono ?_
    rintro e w2 ⟨rfl, hb⟩
    have B2 := Lib.hid (B0.out.trans (hb.mono (by simp)))
    have K2 := Lib.hid (Blk.below K1.out hb (Blk.lt K1.out))
    clear hb
    go_wp2_with fail
    go_ret
    exact ⟨rfl, B2.out⟩
  have g1 : decide ((300 : Int) < (n3 : Int)) = false := decide_eq_false (by omega)
  have NB : Hid (n3 ≤ 300) := Lib.hid (by omega)
  have CK := Lib.hid (Esp2.check_no sp ky sl mc es wn)
  have no4 : ¬ ((4 : Int) < 0 ∨ (255 : Int) < 4) := by decide
  have EV : ∀ q, sealE sp ky sl mc es wn q l3.length 4 = if (may sp ky sl mc wn && num es q) = false then 1 else 0 := fun q => by
    unfold sealE
    rw [HL.out]
    by_cases z : (may sp ky sl mc wn && num es q) = false
    · rw [if_pos (.inl z), if_pos z]
    · rw [if_neg (fun k => k.elim z no4), if_neg z, if_neg (by unfold long; omega)]
  by_cases bad : (may sp ky sl mc wn && num es x) = false ∨ (may sp ky sl mc wn && num es y) = false
  · have WHY : Hid (may sp ky sl mc wn = false ∨ (may sp ky sl mc wn = true ∧ x = 0) ∨ (may sp ky sl mc wn = true ∧ x ≠ 0 ∧ y = 0) ∨ (may sp ky sl mc wn = true ∧ x ≠ 0 ∧ y ≠ 0 ∧ es = false ∧ 4294967295 < x) ∨ (may sp ky sl mc wn = true ∧ x ≠ 0 ∧ y ≠ 0 ∧ es = false ∧ x ≤ 4294967295 ∧ 4294967295 < y)) := Lib.hid (by
      unfold num at bad
      cases hm : may sp ky sl mc wn
      · exact .inl rfl
      · rw [hm] at bad
        refine .inr ?_
        simp only [Bool.true_and, Bool.and_eq_false_iff, Bool.or_eq_false_iff, decide_eq_false_iff_not] at bad
        by_cases x0 : x = 0
        · exact .inl ⟨rfl, x0⟩
        · by_cases y0 : y = 0
          · exact .inr (.inl ⟨rfl, x0, y0⟩)
          · by_cases xb : x ≤ 4294967295
            · refine .inr (.inr (.inr ⟨rfl, x0, y0, ?_, xb, ?_⟩))
              · rcases bad with (k | ⟨_, k⟩) | (k | ⟨k, _⟩) <;> first | omega | exact k
              · rcases bad with (k | ⟨_, k⟩) | (k | ⟨_, k⟩) <;> omega
            · refine .inr (.inr (.inl ⟨rfl, x0, y0, ?_, by omega⟩))
              rcases bad with (k | ⟨k, _⟩) | (k | ⟨k, _⟩) <;> first | omega | exact k)
    by_cases b1 : (may sp ky sl mc wn && num es x) = false
    · have E1 : Hid (sealE sp ky sl mc es wn x l3.length 4 = 1) := Lib.hid (by rw [EV, if_pos b1])
      obtain ⟨ey, hey⟩ : ∃ ey, ey = sealE sp ky sl mc es wn y l3.length 4 := ⟨_, rfl⟩
      have E2 : Hid (sealE sp ky sl mc es wn y l3.length 4 = ey) := Lib.hid hey.symm
      clear bad b1 EV hey big
      go_enter Tryd.func5, Tryd.ntmps5
      go_wp2_with (refine Loads.wpList_load_w rfl 23 (.tmp 4) rfl w.heap.size rfl 23 #[.int .i64 sp, .string ky, .string sl, .string mc, .bool es, .int .i64 wn] (0, 0) _ (K1.out) Tryd.underlying23 rfl (by kernel_rfl) ?_)
      refine (FW.out _).mono ?_
      rintro e w2 ⟨rfl, hb⟩
      have B2 := Lib.hid (B0.out.trans (hb.mono (by simp)))
      have K2 := Lib.hid (Blk.below K1.out hb (Blk.lt K1.out))
      clear hb
      go_wp2_with (refine Loads.wpList_load_w rfl 23 (.tmp 4) rfl w.heap.size rfl 23 #[.int .i64 sp, .string ky, .string sl, .string mc, .bool es, .int .i64 wn] (0, 0) _ (K2.out) Tryd.underlying23 rfl (by kernel_rfl) ?_)
      refine (seal_any sp ky sl mc es wn x HX.out A3 n3 c3 l3 4 w2 w2.heap.size ((HA.out.below B2.out).more B2.out.size) (Nat.le_refl _) (by have := NB.out; omega) (HT.out.up B2.out)).mono ?_
      rw [E1.out]
      rintro e w3 ⟨v3, rfl, ly, hb⟩
      replace HA := Lib.hid ((HA.out.below B2.out).more B2.out.size)
      have L3 := Lib.hid ly
      clear ly
      have B3 := Lib.hid (B2.out.trans (hb.mono B2.out.size))
      have K3 := Lib.hid (Blk.below K2.out hb (Blk.lt K2.out))
      replace HA := Lib.hid ((HA.out.below hb).more hb.size)
      clear hb K2
      go_wp2_with (refine Loads.wpList_load_w rfl 23 (.tmp 4) rfl w.heap.size rfl 23 #[.int .i64 sp, .string ky, .string sl, .string mc, .bool es, .int .i64 wn] (0, 0) _ (K3.out) Tryd.underlying23 rfl (by kernel_rfl) ?_)
      refine (seal_any sp ky sl mc es wn y HY.out A3 n3 c3 l3 4 w3 w3.heap.size HA.out (Nat.le_refl _) (by have := NB.out; omega) (HT.out.up B3.out)).mono ?_
      rw [E2.out]
      rintro e w4 ⟨v4, rfl, ly, hb⟩
      have L4 := Lib.hid ly
      clear ly
      have B4 := Lib.hid (B3.out.trans (hb.mono B3.out.size))
      have K4 := Lib.hid (Blk.below K3.out hb (Blk.lt K3.out))
      replace L3 := Lib.hid (L3.out.below hb)
      clear hb K3
      go_wp2_with fail
      refine (EspA.awake_any w4 (HT.out.up B4.out)).mono ?_
      rintro e w5 ⟨rfl, hb⟩
      have B5 := Lib.hid (B4.out.trans (hb.mono B4.out.size))
      have K5 := Lib.hid (Blk.below K4.out hb (Blk.lt K4.out))
      clear hb K4
      go_wp2_with (refine Loads.wpList_load_w rfl 23 (.tmp 4) rfl w.heap.size rfl 23 #[.int .i64 sp, .string ky, .string sl, .string mc, .bool es, .int .i64 wn] (0, 0) _ (K5.out) Tryd.underlying23 rfl (by kernel_rfl) ?_)
      refine (CK.out w5).mono ?_
      rintro e w6 ⟨rfl, hb⟩
      have k4 := (Blk.below K5.out hb (Blk.lt K5.out)).cell 4
      have B6 := Lib.hid (B5.out.trans (hb.mono B5.out.size))
      clear hb K5 CK
      rcases WHY.out with z | ⟨z1, z⟩ | ⟨z1, z2, z⟩ | ⟨z1, z2, z3, z4, z⟩ | ⟨z1, z2, z3, z4, z5, z⟩
      · rw [z, if_neg (by decide)]
        go_wp2_with fail
        go_ret
        exact ⟨rfl, B6.out⟩
      · rw [z1, if_pos rfl]
        have y1 : (((x : Nat) : Int) == 0) = true := by rw [beq_iff_eq]; omega
        clear z z1
        go_wp2_with fail
        go_ret
        exact ⟨rfl, B6.out⟩
      · rw [z1, if_pos rfl]
        have y1 : (((x : Nat) : Int) == 0) = false := by rw [beq_eq_false_iff_ne]; omega
        have y2 : (((y : Nat) : Int) == 0) = true := by rw [beq_iff_eq]; omega
        clear z z1 z2
        go_wp2_with fail
        go_ret
        exact ⟨rfl, B6.out⟩
      · rw [z1, if_pos rfl]
        have y1 : (((x : Nat) : Int) == 0) = false := by rw [beq_eq_false_iff_ne]; omega
        have y2 : (((y : Nat) : Int) == 0) = false := by rw [beq_eq_false_iff_ne]; omega
        have y3 : decide ((4294967295 : Int) < (x : Int)) = true := decide_eq_true (by omega)
        rw [z4] at k4
        clear z z1 z2 z3 z4
        go_wp2_with fail
        go_ret
        exact ⟨rfl, B6.out⟩
      · rw [z1, if_pos rfl]
        have y1 : (((x : Nat) : Int) == 0) = false := by rw [beq_eq_false_iff_ne]; omega
        have y2 : (((y : Nat) : Int) == 0) = false := by rw [beq_eq_false_iff_ne]; omega
        have y3 : decide ((4294967295 : Int) < (x : Int)) = false := decide_eq_false (by omega)
        have y4 : decide ((4294967295 : Int) < (y : Int)) = true := decide_eq_true (by omega)
        rw [z4] at k4
        clear z z1 z2 z3 z4 z5
        go_wp2_with fail
        go_ret
        exact ⟨rfl, B6.out⟩
    · have b2 : (may sp ky sl mc wn && num es y) = false := by
        rcases bad with k | k
        · exact absurd k b1
        · exact k
      have E1 : Hid (sealE sp ky sl mc es wn x l3.length 4 = 0) := Lib.hid (by rw [EV, if_neg b1])
      have E2 : Hid (sealE sp ky sl mc es wn y l3.length 4 = 1) := Lib.hid (by rw [EV, if_pos b2])
      clear bad b1 b2 EV big
      go_enter Tryd.func5, Tryd.ntmps5
      go_wp2_with (refine Loads.wpList_load_w rfl 23 (.tmp 4) rfl w.heap.size rfl 23 #[.int .i64 sp, .string ky, .string sl, .string mc, .bool es, .int .i64 wn] (0, 0) _ (K1.out) Tryd.underlying23 rfl (by kernel_rfl) ?_)
      refine (FW.out _).mono ?_
      rintro e w2 ⟨rfl, hb⟩
      have B2 := Lib.hid (B0.out.trans (hb.mono (by simp)))
      have K2 := Lib.hid (Blk.below K1.out hb (Blk.lt K1.out))
      clear hb
      go_wp2_with (refine Loads.wpList_load_w rfl 23 (.tmp 4) rfl w.heap.size rfl 23 #[.int .i64 sp, .string ky, .string sl, .string mc, .bool es, .int .i64 wn] (0, 0) _ (K2.out) Tryd.underlying23 rfl (by kernel_rfl) ?_)
      refine (seal_any sp ky sl mc es wn x HX.out A3 n3 c3 l3 4 w2 w2.heap.size ((HA.out.below B2.out).more B2.out.size) (Nat.le_refl _) (by have := NB.out; omega) (HT.out.up B2.out)).mono ?_
      rw [E1.out]
      rintro e w3 ⟨v3, rfl, ly, hb⟩
      replace HA := Lib.hid ((HA.out.below B2.out).more B2.out.size)
      have L3 := Lib.hid ly
      clear ly
      have B3 := Lib.hid (B2.out.trans (hb.mono B2.out.size))
      have K3 := Lib.hid (Blk.below K2.out hb (Blk.lt K2.out))
      replace HA := Lib.hid ((HA.out.below hb).more hb.size)
      clear hb K2
      go_wp2_with (refine Loads.wpList_load_w rfl 23 (.tmp 4) rfl w.heap.size rfl 23 #[.int .i64 sp, .string ky, .string sl, .string mc, .bool es, .int .i64 wn] (0, 0) _ (K3.out) Tryd.underlying23 rfl (by kernel_rfl) ?_)
      refine (seal_any sp ky sl mc es wn y HY.out A3 n3 c3 l3 4 w3 w3.heap.size HA.out (Nat.le_refl _) (by have := NB.out; omega) (HT.out.up B3.out)).mono ?_
      rw [E2.out]
      rintro e w4 ⟨v4, rfl, ly, hb⟩
      have L4 := Lib.hid ly
      clear ly
      have B4 := Lib.hid (B3.out.trans (hb.mono B3.out.size))
      have K4 := Lib.hid (Blk.below K3.out hb (Blk.lt K3.out))
      replace L3 := Lib.hid (L3.out.below hb)
      clear hb K3
      rw [show ((1 : Nat) : Int) = 1 from rfl]
      go_wp2_with fail
      refine (EspA.awake_any w4 (HT.out.up B4.out)).mono ?_
      rintro e w5 ⟨rfl, hb⟩
      have B5 := Lib.hid (B4.out.trans (hb.mono B4.out.size))
      have K5 := Lib.hid (Blk.below K4.out hb (Blk.lt K4.out))
      clear hb K4
      go_wp2_with (refine Loads.wpList_load_w rfl 23 (.tmp 4) rfl w.heap.size rfl 23 #[.int .i64 sp, .string ky, .string sl, .string mc, .bool es, .int .i64 wn] (0, 0) _ (K5.out) Tryd.underlying23 rfl (by kernel_rfl) ?_)
      refine (CK.out w5).mono ?_
      rintro e w6 ⟨rfl, hb⟩
      have k4 := (Blk.below K5.out hb (Blk.lt K5.out)).cell 4
      have B6 := Lib.hid (B5.out.trans (hb.mono B5.out.size))
      clear hb K5 CK
      rcases WHY.out with z | ⟨z1, z⟩ | ⟨z1, z2, z⟩ | ⟨z1, z2, z3, z4, z⟩ | ⟨z1, z2, z3, z4, z5, z⟩
      · rw [z, if_neg (by decide)]
        go_wp2_with fail
        go_ret
        exact ⟨rfl, B6.out⟩
      · rw [z1, if_pos rfl]
        have y1 : (((x : Nat) : Int) == 0) = true := by rw [beq_iff_eq]; omega
        clear z z1
        go_wp2_with fail
        go_ret
        exact ⟨rfl, B6.out⟩
      · rw [z1, if_pos rfl]
        have y1 : (((x : Nat) : Int) == 0) = false := by rw [beq_eq_false_iff_ne]; omega
        have y2 : (((y : Nat) : Int) == 0) = true := by rw [beq_iff_eq]; omega
        clear z z1 z2
        go_wp2_with fail
        go_ret
        exact ⟨rfl, B6.out⟩
      · rw [z1, if_pos rfl]
        have y1 : (((x : Nat) : Int) == 0) = false := by rw [beq_eq_false_iff_ne]; omega
        have y2 : (((y : Nat) : Int) == 0) = false := by rw [beq_eq_false_iff_ne]; omega
        have y3 : decide ((4294967295 : Int) < (x : Int)) = true := decide_eq_true (by omega)
        rw [z4] at k4
        clear z z1 z2 z3 z4
        go_wp2_with fail
        go_ret
        exact ⟨rfl, B6.out⟩
      · rw [z1, if_pos rfl]
        have y1 : (((x : Nat) : Int) == 0) = false := by rw [beq_eq_false_iff_ne]; omega
        have y2 : (((y : Nat) : Int) == 0) = false := by rw [beq_eq_false_iff_ne]; omega
        have y3 : decide ((4294967295 : Int) < (x : Int)) = false := decide_eq_false (by omega)
        have y4 : decide ((4294967295 : Int) < (y : Int)) = true := decide_eq_true (by omega)
        rw [z4] at k4
        clear z z1 z2 z3 z4 z5
        go_wp2_with fail
        go_ret
        exact ⟨rfl, B6.out⟩
  have b1 : ¬ (may sp ky sl mc wn && num es x) = false := fun k => bad (.inl k)
  have b2 : ¬ (may sp ky sl mc wn && num es y) = false := fun k => bad (.inr k)
  have E1 : Hid (sealE sp ky sl mc es wn x l3.length 4 = 0) := Lib.hid (by rw [EV, if_neg b1])
  have E2 : Hid (sealE sp ky sl mc es wn y l3.length 4 = 0) := Lib.hid (by rw [EV, if_neg b2])
  have X1 : Hid (sealX sp ky sl mc es wn x l3 4 = ints (sealL sp ky sl mc es wn x l3 4)) := Lib.hid (by unfold sealX; rw [E1.out, if_pos rfl])
  have X2 : Hid (sealX sp ky sl mc es wn y l3 4 = ints (sealL sp ky sl mc es wn y l3 4)) := Lib.hid (by unfold sealX; rw [E2.out, if_pos rfl])
  obtain ⟨L, hL⟩ : ∃ L, L = 32 + long n3 := ⟨_, rfl⟩
  have N1 : Hid ((ints (sealL sp ky sl mc es wn x l3 4)).length = L) := Lib.hid (by rw [EspP.seal_len, HL.out, hL])
  have N2 : Hid ((ints (sealL sp ky sl mc es wn y l3 4)).length = L) := Lib.hid (by rw [EspP.seal_len, HL.out, hL])
  have LB : Hid (16 ≤ L) := Lib.hid (by omega)
  obtain ⟨rb, hrb⟩ : ∃ rb, rb = decide (x = y) := ⟨_, rfl⟩
  have XE : Hid (((x : Int) == (y : Int)) = rb) := Lib.hid (by
    rw [hrb]
    by_cases z : x = y
    · subst z; simp
    · rw [decide_eq_false z, beq_eq_false_iff_ne]; omega)
  have T4 : Hid ((ints (sealL sp ky sl mc es wn x l3 4)).take 4 = ints (four sp.toNat) ∧ (ints (sealL sp ky sl mc es wn y l3 4)).take 4 = ints (four sp.toNat)) := Lib.hid ⟨seal_four sp ky sl mc es wn x l3 4, seal_four sp ky sl mc es wn y l3 4⟩
  have TM : Hid (((ints (sealL sp ky sl mc es wn x l3 4)).drop 8).take (16 - 8) = ints (ivL x) ∧ ((ints (sealL sp ky sl mc es wn y l3 4)).drop 8).take (16 - 8) = ints (ivL y)) := Lib.hid ⟨seal_mid sp ky sl mc es wn x l3 4, seal_mid sp ky sl mc es wn y l3 4⟩
  have ME : Hid (((strOfNums (ints (ivL x))).toList == (strOfNums (ints (ivL y))).toList) = rb) := Lib.hid (by
    rw [str_eq (ints_bytes (ivL_byt x)) (ints_bytes (ivL_byt y)), hrb, decide_eq_decide]
    exact ⟨fun z => ivL_inj HX.out HY.out (ints_inj z), fun z => by rw [z]⟩)
  obtain ⟨S1, hS1⟩ : ∃ S, S = ints (sealL sp ky sl mc es wn x l3 4) := ⟨_, rfl⟩
  obtain ⟨S2, hS2⟩ : ∃ S, S = ints (sealL sp ky sl mc es wn y l3 4) := ⟨_, rfl⟩
  rw [← hS1] at X1 N1 T4 TM
  rw [← hS2] at X2 N2 T4 TM
  have SQ : Hid (Bytes S1 → Bytes S2 → ((strOfNums S1).toList == (strOfNums S2).toList) = rb) := Lib.hid fun z1 z2 => by
    rw [str_eq z1 z2, hrb, decide_eq_decide]
    refine ⟨fun z => ?_, fun z => ?_⟩
    · have e : ints (ivL x) = ints (ivL y) := by rw [← TM.out.1, ← TM.out.2, z]
      exact ivL_inj HX.out HY.out (ints_inj e)
    · rw [hS1, hS2, z]
  clear bad b1 b2 EV big hL hrb hS1 hS2 CK no4
  go_enter Tryd.func5, Tryd.ntmps5
  go_wp2_with (refine Loads.wpList_load_w rfl 23 (.tmp 4) rfl w.heap.size rfl 23 #[.int .i64 sp, .string ky, .string sl, .string mc, .bool es, .int .i64 wn] (0, 0) _ (K1.out) Tryd.underlying23 rfl (by kernel_rfl) ?_)
  refine (FW.out _).mono ?_
  rintro e w2 ⟨rfl, hb⟩
  have B2 := Lib.hid (B0.out.trans (hb.mono (by simp)))
  have K2 := Lib.hid (Blk.below K1.out hb (Blk.lt K1.out))
  clear hb
  go_wp2_with (refine Loads.wpList_load_w rfl 23 (.tmp 4) rfl w.heap.size rfl 23 #[.int .i64 sp, .string ky, .string sl, .string mc, .bool es, .int .i64 wn] (0, 0) _ (K2.out) Tryd.underlying23 rfl (by kernel_rfl) ?_)
  refine (seal_any sp ky sl mc es wn x HX.out A3 n3 c3 l3 4 w2 w2.heap.size ((HA.out.below B2.out).more B2.out.size) (Nat.le_refl _) (by have := NB.out; omega) (HT.out.up B2.out)).mono ?_
  rw [E1.out, X1.out]
  rintro e w3 ⟨v3, rfl, ly, hb⟩
  replace HA := Lib.hid ((HA.out.below B2.out).more B2.out.size)
  rw [N1.out] at ly
  have L3 := Lib.hid ly
  clear ly
  have B3 := Lib.hid (B2.out.trans (hb.mono B2.out.size))
  have K3 := Lib.hid (Blk.below K2.out hb (Blk.lt K2.out))
  replace HA := Lib.hid ((HA.out.below hb).more hb.size)
  clear hb K2
  go_wp2_with (refine Loads.wpList_load_w rfl 23 (.tmp 4) rfl w.heap.size rfl 23 #[.int .i64 sp, .string ky, .string sl, .string mc, .bool es, .int .i64 wn] (0, 0) _ (K3.out) Tryd.underlying23 rfl (by kernel_rfl) ?_)
  refine (seal_any sp ky sl mc es wn y HY.out A3 n3 c3 l3 4 w3 w3.heap.size HA.out (Nat.le_refl _) (by have := NB.out; omega) (HT.out.up B3.out)).mono ?_
  rw [E2.out, X2.out]
  rintro e w4 ⟨v4, rfl, ly, hb⟩
  rw [N2.out] at ly
  have L4 := Lib.hid ly
  clear ly
  have B4 := Lib.hid (B3.out.trans (hb.mono B3.out.size))
  have K4 := Lib.hid (Blk.below K3.out hb (Blk.lt K3.out))
  replace L3 := Lib.hid (L3.out.below hb)
  clear hb K3
  rw [show ((0 : Nat) : Int) = 0 from rfl]
  obtain ⟨A7, c7, rfl, h7⟩ := L3.out
  obtain ⟨A8, c8, rfl, h8⟩ := L4.out
  obtain ⟨b3, p3, rfl, _⟩ := h7.2.2.2.2 (by have := LB.out; omega)
  obtain ⟨b4, p4, rfl, _⟩ := h8.2.2.2.2 (by have := LB.out; omega)
  have SE := Lib.hid (SQ.out h7.2.2.2.1 h8.2.2.2.1)
  have LC : Hid (16 ≤ c7 ∧ 16 ≤ c8 ∧ L ≤ c7 ∧ L ≤ c8) := Lib.hid ⟨by have := h7.2.1; have := LB.out; omega, by have := h8.2.1; have := LB.out; omega, h7.2.1, h8.2.1⟩
  have H7 := Lib.hid h7
  have H8 := Lib.hid h8
  clear h7 h8 L3 L4 SQ
  go_wp2_with fail
  have UP : Hid (∀ V, Below w4.drew.heap.size w4.drew V → Below w.heap.size w V) := Lib.hid fun V hV => B4.out.trans ((Esp5.below_drewN_1 hV).mono B4.out.size)
  have HV : Hid (∀ V, Below w4.drew.heap.size w4.drew V → Holds V V.heap.size (some ⟨b3, p3, none⟩) L c7 S1 ∧ Holds V V.heap.size (some ⟨b4, p4, none⟩) L c8 S2) := Lib.hid fun V hV => ⟨(H7.out.below (Esp5.below_drewN_1 hV)).more (Esp5.below_drewN_1 hV).size, (H8.out.below (Esp5.below_drewN_1 hV)).more (Esp5.below_drewN_1 hV).size⟩
  obtain ⟨t4, ht4⟩ : ∃ t, t = strOfNums (ints (four sp.toNat)) := ⟨_, rfl⟩
  obtain ⟨m3, hm3⟩ : ∃ t, t = strOfNums (ints (ivL x)) := ⟨_, rfl⟩
  obtain ⟨m4, hm4⟩ : ∃ t, t = strOfNums (ints (ivL y)) := ⟨_, rfl⟩
  obtain ⟨s3, hs3⟩ : ∃ t, t = strOfNums S1 := ⟨_, rfl⟩
  obtain ⟨s4, hs4⟩ : ∃ t, t = strOfNums S2 := ⟨_, rfl⟩
  rw [← hm3, ← hm4] at ME
  rw [← hs3, ← hs4] at SE
  have F4 : Hid (∀ V, Below w4.drew.heap.size w4.drew V → (convert 25 9 (.slice (some ⟨b3, p3, none⟩) 4 c7)).run Tryd.prog V = .ok (.string t4) V) := Lib.hid fun V hV => by
    have := run_string_bytes ((HV.out V hV).1.upto (k := 4) (by have := LB.out; omega))
    rwa [T4.out.1, ← ht4] at this
  have F4b : Hid (∀ V, Below w4.drew.heap.size w4.drew V → (convert 25 9 (.slice (some ⟨b4, p4, none⟩) 4 c8)).run Tryd.prog V = .ok (.string t4) V) := Lib.hid fun V hV => by
    have := run_string_bytes ((HV.out V hV).2.upto (k := 4) (by have := LB.out; omega))
    rwa [T4.out.2, ← ht4] at this
  have M8 : Hid (∀ V, Below w4.drew.heap.size w4.drew V → (convert 25 9 (.slice (some (adr b3 p3 c7 8)) (16 - 8) (c7 - 8))).run Tryd.prog V = .ok (.string m3) V) := Lib.hid fun V hV => by
    have := run_string_bytes (cutA_holds (lo := 8) (hi := 16) (HV.out V hV).1 (by decide) LB.out)
    rwa [TM.out.1, ← hm3] at this
  have M8b : Hid (∀ V, Below w4.drew.heap.size w4.drew V → (convert 25 9 (.slice (some (adr b4 p4 c8 8)) (16 - 8) (c8 - 8))).run Tryd.prog V = .ok (.string m4) V) := Lib.hid fun V hV => by
    have := run_string_bytes (cutA_holds (lo := 8) (hi := 16) (HV.out V hV).2 (by decide) LB.out)
    rwa [TM.out.2, ← hm4] at this
  have WH : Hid (∀ V, Below w4.drew.heap.size w4.drew V → (convert 25 9 (.slice (some ⟨b3, p3, none⟩) L c7)).run Tryd.prog V = .ok (.string s3) V) := Lib.hid fun V hV => by
    have := run_string_bytes (HV.out V hV).1
    rwa [← hs3] at this
  have WHb : Hid (∀ V, Below w4.drew.heap.size w4.drew V → (convert 25 9 (.slice (some ⟨b4, p4, none⟩) L c8)).run Tryd.prog V = .ok (.string s4) V) := Lib.hid fun V hV => by
    have := run_string_bytes (HV.out V hV).2
    rwa [← hs4] at this
  clear ht4 hm3 hm4 hs3 hs4 HA H7 H8
  refine wp_region_freeP [0, 1, 2, 3, 4, 5, 6, 7, 8, 9, 10, 11, 12, 13, 14, 15, 16, 17, 18, 19, 20, 21, 22, 23, 24, 25, 26, 27, 28, 29, 30, 31, 32, 33, 34, 35, 36, 37, 38, 39, 40] 41 [] [(1, true), (8, true), (17, true), (30, true)] (fun w1 w2 => Below w1.heap.size w1 w2) (fun k' w' v => match k' with
    | 0 => v = .bool true
    | 1 => v = .bool true
    | 2 => v = .slice (some ⟨b3, p3, none⟩) L c7
    | 3 => v = .int .i64 (L : Int)
    | 4 => v = .slice (some ⟨b4, p4, none⟩) L c8
    | 5 => v = .int .i64 (L : Int)
    | 6 => v = .bool true
    | 7 => v = .bool true
    | 8 => v = .bool true
    | 9 => v = .slice (some ⟨b3, p3, none⟩) L c7
    | 10 => v = .slice (some ⟨b3, p3, none⟩) 4 c7
    | 11 => v = .string t4
    | 12 => v = .slice (some ⟨b4, p4, none⟩) L c8
    | 13 => v = .slice (some ⟨b4, p4, none⟩) 4 c8
    | 14 => v = .string t4
    | 15 => v = .bool true
    | 16 => v = .bool true
    | 17 => v = .bool true
    | 18 => v = .slice (some ⟨b3, p3, none⟩) L c7
    | 19 => v = .slice (some (adr b3 p3 c7 8)) (16 - 8) (c7 - 8)
    | 20 => v = .string m3
    | 21 => v = .slice (some ⟨b4, p4, none⟩) L c8
    | 22 => v = .slice (some (adr b4 p4 c8 8)) (16 - 8) (c8 - 8)
    | 23 => v = .string m4
    | 24 => v = .bool rb
    | 25 => v = .int .u64 (x : Int)
    | 26 => v = .int .u64 (y : Int)
    | 27 => v = .bool rb
    | 28 => v = .bool true
    | 29 => v = .bool true
    | 30 => v = .bool true
    | 31 => v = .slice (some ⟨b3, p3, none⟩) L c7
    | 32 => v = .string s3
    | 33 => v = .slice (some ⟨b4, p4, none⟩) L c8
    | 34 => v = .string s4
    | 35 => v = .bool rb
    | 36 => v = .int .u64 (x : Int)
    | 37 => v = .int .u64 (y : Int)
    | 38 => v = .bool rb
    | 39 => v = .bool true
    | _ => v = .bool true) (by kernel_rfl) (by kernel_rfl) (fun q hq w v hv => ?_) (Below.refl _ _) (fun _ _ _ h k => h.trans (k.mono h.size)) (fun k' w1 w2 v h => match k' with
    | 0 => fun x => x
    | 1 => fun x => x
    | 2 => fun x => x
    | 3 => fun x => x
    | 4 => fun x => x
    | 5 => fun x => x
    | 6 => fun x => x
    | 7 => fun x => x
    | 8 => fun x => x
    | 9 => fun x => x
    | 10 => fun x => x
    | 11 => fun x => x
    | 12 => fun x => x
    | 13 => fun x => x
    | 14 => fun x => x
    | 15 => fun x => x
    | 16 => fun x => x
    | 17 => fun x => x
    | 18 => fun x => x
    | 19 => fun x => x
    | 20 => fun x => x
    | 21 => fun x => x
    | 22 => fun x => x
    | 23 => fun x => x
    | 24 => fun x => x
    | 25 => fun x => x
    | 26 => fun x => x
    | 27 => fun x => x
    | 28 => fun x => x
    | 29 => fun x => x
    | 30 => fun x => x
    | 31 => fun x => x
    | 32 => fun x => x
    | 33 => fun x => x
    | 34 => fun x => x
    | 35 => fun x => x
    | 36 => fun x => x
    | 37 => fun x => x
    | 38 => fun x => x
    | 39 => fun x => x
    | _ + 40 => fun x => x) (fun _ _ _ _ _ h => h) ?_ _ (by rfl) ?_
  · simp only [List.mem_cons, List.not_mem_nil, or_false] at hq
    rcases hq with rfl | rfl | rfl | rfl <;> exact hv
  · refine obs_cons (by rfl) (fun vals w' hgr hdep K hK => ?_) (obs_cons (by rfl) (fun vals w' hgr hdep K hK => ?_) (obs_cons (by rfl) (fun vals w' hgr hdep K hK => ?_) (obs_cons (by rfl) (fun vals w' hgr hdep K hK => ?_) (obs_cons (by rfl) (fun vals w' hgr hdep K hK => ?_) (obs_cons (by rfl) (fun vals w' hgr hdep K hK => ?_) (obs_cons (by rfl) (fun vals w' hgr hdep K hK => ?_) (obs_cons (by rfl) (fun vals w' hgr hdep K hK => ?_) (obs_cons (by rfl) (fun vals w' hgr hdep K hK => ?_) (obs_cons (by rfl) (fun vals w' hgr hdep K hK => ?_) (obs_cons (by rfl) (fun vals w' hgr hdep K hK => ?_) (obs_cons (by rfl) (fun vals w' hgr hdep K hK => ?_) (obs_cons (by rfl) (fun vals w' hgr hdep K hK => ?_) (obs_cons (by rfl) (fun vals w' hgr hdep K hK => ?_) (obs_cons (by rfl) (fun vals w' hgr hdep K hK => ?_) (obs_cons (by rfl) (fun vals w' hgr hdep K hK => ?_) (obs_cons (by rfl) (fun vals w' hgr hdep K hK => ?_) (obs_cons (by rfl) (fun vals w' hgr hdep K hK => ?_) (obs_cons (by rfl) (fun vals w' hgr hdep K hK => ?_) (obs_cons (by rfl) (fun vals w' hgr hdep K hK => ?_) (obs_cons (by rfl) (fun vals w' hgr hdep K hK => ?_) (obs_cons (by rfl) (fun vals w' hgr hdep K hK => ?_) (obs_cons (by rfl) (fun vals w' hgr hdep K hK => ?_) (obs_cons (by rfl) (fun vals w' hgr hdep K hK => ?_) (obs_cons (by rfl) (fun vals w' hgr hdep K hK => ?_) (obs_cons (by rfl) (fun vals w' hgr hdep K hK => ?_) (obs_cons (by rfl) (fun vals w' hgr hdep K hK => ?_) (obs_cons (by rfl) (fun vals w' hgr hdep K hK => ?_) (obs_cons (by rfl) (fun vals w' hgr hdep K hK => ?_) (obs_cons (by rfl) (fun vals w' hgr hdep K hK => ?_) (obs_cons (by rfl) (fun vals w' hgr hdep K hK => ?_) (obs_cons (by rfl) (fun vals w' hgr hdep K hK => ?_) (obs_cons (by rfl) (fun vals w' hgr hdep K hK => ?_) (obs_cons (by rfl) (fun vals w' hgr hdep K hK => ?_) (obs_cons (by rfl) (fun vals w' hgr hdep K hK => ?_) (obs_cons (by rfl) (fun vals w' hgr hdep K hK => ?_) (obs_cons (by rfl) (fun vals w' hgr hdep K hK => ?_) (obs_cons (by rfl) (fun vals w' hgr hdep K hK => ?_) (obs_cons (by rfl) (fun vals w' hgr hdep K hK => ?_) (obs_cons (by rfl) (fun vals w' hgr hdep K hK => ?_) (obs_cons (by rfl) (fun vals w' hgr hdep K hK => ?_) (obs_nil)))))))))))))))))))))))))))))))))))))))))
    · exact wp_call 8 [] _ rfl ent_awake [] rfl (fun v w'' => v = .bool true ∧ Below w'.heap.size w' w'') ((EspA.awake_any w' (HT.out.up (UP.out w' hgr))).mono fun e w'' ⟨h1, h2⟩ => ⟨_, h1, rfl, h2⟩) (fun v w'' ⟨h1, h2⟩ => hK _ _ h2 h1)
    · exact wp_move (.tmp 68) rfl _ ((at_dst 0 (by kernel_rfl)).trans (hdep 0 (by simp) (by kernel_rfl))) (hK _ _ (Below.refl _ _) rfl)
    · exact wp_move (.tmp 9) rfl _ (at_out _ (by kernel_rfl) rfl) (hK _ _ (Below.refl _ _) rfl)
    · exact st_len_bytes (.tmp 70) rfl (some ⟨b3, p3, none⟩) L c7 ((at_dst 2 (by kernel_rfl)).trans (hdep 2 (by simp) (by kernel_rfl))) (hK _ _ (Below.refl _ _) rfl)
    · exact wp_move (.tmp 11) rfl _ (at_out _ (by kernel_rfl) rfl) (hK _ _ (Below.refl _ _) rfl)
    · exact st_len_bytes (.tmp 72) rfl (some ⟨b4, p4, none⟩) L c8 ((at_dst 4 (by kernel_rfl)).trans (hdep 4 (by simp) (by kernel_rfl))) (hK _ _ (Below.refl _ _) rfl)
    · exact wp_bin (.tmp 71) (.tmp 73) rfl _ _ _ ((at_dst 3 (by kernel_rfl)).trans (hdep 3 (by simp) (by kernel_rfl))) ((at_dst 5 (by kernel_rfl)).trans (hdep 5 (by simp) (by kernel_rfl))) (MacU.b_eqi _ _ _ _) (hK _ _ (Below.refl _ _) rfl)
    · exact MacU.st_pick (.tmp 69) (.tmp 74) _ rfl _ ((at_dst 1 (by kernel_rfl)).trans (hdep 1 (by simp) (by kernel_rfl))) ((at_dst 6 (by kernel_rfl)).trans (hdep 6 (by simp) (by kernel_rfl))) (hK _ _ (Below.refl _ _) rfl)
    · exact wp_move (.tmp 75) rfl _ ((at_dst 7 (by kernel_rfl)).trans (hdep 7 (by simp) (by kernel_rfl))) (hK _ _ (Below.refl _ _) rfl)
    · exact wp_move (.tmp 9) rfl _ (at_out _ (by kernel_rfl) rfl) (hK _ _ (Below.refl _ _) rfl)
    · exact wp_slice (.tmp 77) rfl _ _ none (some (.int .i64 4)) none ((at_dst 9 (by kernel_rfl)).trans (hdep 9 (by simp) (by kernel_rfl))) rfl rfl rfl (MacU.cut_begin _ L c7 4 (by have := LB.out; omega) (by have := LC.out; omega) _) (hK _ _ (Below.refl _ _) rfl)
    · exact wp_conv (.tmp 78) rfl _ _ ((at_dst 10 (by kernel_rfl)).trans (hdep 10 (by simp) (by kernel_rfl))) (F4.out _ hgr) (hK _ _ (Below.refl _ _) rfl)
    · exact wp_move (.tmp 11) rfl _ (at_out _ (by kernel_rfl) rfl) (hK _ _ (Below.refl _ _) rfl)
    · exact wp_slice (.tmp 80) rfl _ _ none (some (.int .i64 4)) none ((at_dst 12 (by kernel_rfl)).trans (hdep 12 (by simp) (by kernel_rfl))) rfl rfl rfl (MacU.cut_begin _ L c8 4 (by have := LB.out; omega) (by have := LC.out; omega) _) (hK _ _ (Below.refl _ _) rfl)
    · exact wp_conv (.tmp 81) rfl _ _ ((at_dst 13 (by kernel_rfl)).trans (hdep 13 (by simp) (by kernel_rfl))) (F4b.out _ hgr) (hK _ _ (Below.refl _ _) rfl)
    · exact wp_bin (.tmp 79) (.tmp 82) rfl _ _ _ ((at_dst 11 (by kernel_rfl)).trans (hdep 11 (by simp) (by kernel_rfl))) ((at_dst 14 (by kernel_rfl)).trans (hdep 14 (by simp) (by kernel_rfl))) (MacU.b_eqs _ _ _ _) (hK _ _ (Below.refl _ _) rfl)
    · exact MacU.st_pick (.tmp 76) (.tmp 83) _ rfl _ ((at_dst 8 (by kernel_rfl)).trans (hdep 8 (by simp) (by kernel_rfl))) ((at_dst 15 (by kernel_rfl)).trans (hdep 15 (by simp) (by kernel_rfl))) (hK _ _ (Below.refl _ _) rfl)
    · exact wp_move (.tmp 84) rfl _ ((at_dst 16 (by kernel_rfl)).trans (hdep 16 (by simp) (by kernel_rfl))) (hK _ _ (Below.refl _ _) rfl)
    · exact wp_move (.tmp 9) rfl _ (at_out _ (by kernel_rfl) rfl) (hK _ _ (Below.refl _ _) rfl)
    · exact wp_slice (.tmp 86) rfl _ _ (some (.int .i64 8)) (some (.int .i64 16)) none ((at_dst 18 (by kernel_rfl)).trans (hdep 18 (by simp) (by kernel_rfl))) rfl rfl rfl (cutA_lh b3 p3 L c7 8 16 _ (by decide) (by have := LC.out; omega)) (hK _ _ (Below.refl _ _) rfl)
    · exact wp_conv (.tmp 87) rfl _ _ ((at_dst 19 (by kernel_rfl)).trans (hdep 19 (by simp) (by kernel_rfl))) (M8.out _ hgr) (hK _ _ (Below.refl _ _) rfl)
    · exact wp_move (.tmp 11) rfl _ (at_out _ (by kernel_rfl) rfl) (hK _ _ (Below.refl _ _) rfl)
    · exact wp_slice (.tmp 89) rfl _ _ (some (.int .i64 8)) (some (.int .i64 16)) none ((at_dst 21 (by kernel_rfl)).trans (hdep 21 (by simp) (by kernel_rfl))) rfl rfl rfl (cutA_lh b4 p4 L c8 8 16 _ (by decide) (by have := LC.out; omega)) (hK _ _ (Below.refl _ _) rfl)
    · exact wp_conv (.tmp 90) rfl _ _ ((at_dst 22 (by kernel_rfl)).trans (hdep 22 (by simp) (by kernel_rfl))) (M8b.out _ hgr) (hK _ _ (Below.refl _ _) rfl)
    · exact wp_bin (.tmp 88) (.tmp 91) rfl _ _ _ ((at_dst 20 (by kernel_rfl)).trans (hdep 20 (by simp) (by kernel_rfl))) ((at_dst 23 (by kernel_rfl)).trans (hdep 23 (by simp) (by kernel_rfl))) (MacU.b_eqt _ _ rb ME.out _ _ _) (hK _ _ (Below.refl _ _) rfl)
    · exact wp_move (.tmp 1) rfl _ (at_out _ (by kernel_rfl) rfl) (hK _ _ (Below.refl _ _) rfl)
    · exact wp_move (.tmp 2) rfl _ (at_out _ (by kernel_rfl) rfl) (hK _ _ (Below.refl _ _) rfl)
    · exact wp_bin (.tmp 93) (.tmp 94) rfl _ _ _ ((at_dst 25 (by kernel_rfl)).trans (hdep 25 (by simp) (by kernel_rfl))) ((at_dst 26 (by kernel_rfl)).trans (hdep 26 (by simp) (by kernel_rfl))) (b_equ _ _ rb XE.out _ _ _) (hK _ _ (Below.refl _ _) rfl)
    · exact wp_bin (.tmp 92) (.tmp 95) rfl _ _ _ ((at_dst 24 (by kernel_rfl)).trans (hdep 24 (by simp) (by kernel_rfl))) ((at_dst 27 (by kernel_rfl)).trans (hdep 27 (by simp) (by kernel_rfl))) (MacU.b_eqb _ _ _ _) (hK _ _ (Below.refl _ _) rfl)
    · exact MacU.st_pick (.tmp 85) (.tmp 96) _ rfl _ ((at_dst 17 (by kernel_rfl)).trans (hdep 17 (by simp) (by kernel_rfl))) ((at_dst 28 (by kernel_rfl)).trans (hdep 28 (by simp) (by kernel_rfl))) (hK _ _ (Below.refl _ _) rfl)
    · exact wp_move (.tmp 97) rfl _ ((at_dst 29 (by kernel_rfl)).trans (hdep 29 (by simp) (by kernel_rfl))) (hK _ _ (Below.refl _ _) rfl)
    · exact wp_move (.tmp 9) rfl _ (at_out _ (by kernel_rfl) rfl) (hK _ _ (Below.refl _ _) rfl)
    · exact wp_conv (.tmp 99) rfl _ _ ((at_dst 31 (by kernel_rfl)).trans (hdep 31 (by simp) (by kernel_rfl))) (WH.out _ hgr) (hK _ _ (Below.refl _ _) rfl)
    · exact wp_move (.tmp 11) rfl _ (at_out _ (by kernel_rfl) rfl) (hK _ _ (Below.refl _ _) rfl)
    · exact wp_conv (.tmp 101) rfl _ _ ((at_dst 33 (by kernel_rfl)).trans (hdep 33 (by simp) (by kernel_rfl))) (WHb.out _ hgr) (hK _ _ (Below.refl _ _) rfl)
    · exact wp_bin (.tmp 100) (.tmp 102) rfl _ _ _ ((at_dst 32 (by kernel_rfl)).trans (hdep 32 (by simp) (by kernel_rfl))) ((at_dst 34 (by kernel_rfl)).trans (hdep 34 (by simp) (by kernel_rfl))) (MacU.b_eqt _ _ rb SE.out _ _ _) (hK _ _ (Below.refl _ _) rfl)
    · exact wp_move (.tmp 1) rfl _ (at_out _ (by kernel_rfl) rfl) (hK _ _ (Below.refl _ _) rfl)
    · exact wp_move (.tmp 2) rfl _ (at_out _ (by kernel_rfl) rfl) (hK _ _ (Below.refl _ _) rfl)
    · exact wp_bin (.tmp 104) (.tmp 105) rfl _ _ _ ((at_dst 36 (by kernel_rfl)).trans (hdep 36 (by simp) (by kernel_rfl))) ((at_dst 37 (by kernel_rfl)).trans (hdep 37 (by simp) (by kernel_rfl))) (b_equ _ _ rb XE.out _ _ _) (hK _ _ (Below.refl _ _) rfl)
    · exact wp_bin (.tmp 103) (.tmp 106) rfl _ _ _ ((at_dst 35 (by kernel_rfl)).trans (hdep 35 (by simp) (by kernel_rfl))) ((at_dst 38 (by kernel_rfl)).trans (hdep 38 (by simp) (by kernel_rfl))) (MacU.b_eqb _ _ _ _) (hK _ _ (Below.refl _ _) rfl)
    · exact MacU.st_pick (.tmp 98) (.tmp 107) _ rfl _ ((at_dst 30 (by kernel_rfl)).trans (hdep 30 (by simp) (by kernel_rfl))) ((at_dst 39 (by kernel_rfl)).trans (hdep 39 (by simp) (by kernel_rfl))) (hK _ _ (Below.refl _ _) rfl)
  · intro vals w' hgr hG
    have ev : vals 40 = .bool true := hG 40 (by simp)
    refine st_assign (.tmp 108) _ rfl (at_dst 40 (by kernel_rfl)) (wpAnyH_done (by kernel_rfl) ?_ _)
    have BF := Lib.hid (B4.out.trans ((Esp5.below_drewN_1 hgr).mono B4.out.size))
    clear hG hgr
    simp only [fill, dstAt, List.getElem?_cons_zero, List.getElem?_cons_succ, Option.bind_some, Act.put, List.setIfInBounds_toArray, List.set_cons_zero, List.set_cons_succ]
    rw [ev]
    clear ev
    generalize vals 0 = y0, vals 1 = y1, vals 2 = y2, vals 3 = y3, vals 4 = y4, vals 5 = y5, vals 6 = y6, vals 7 = y7, vals 8 = y8, vals 9 = y9, vals 10 = y10, vals 11 = y11, vals 12 = y12, vals 13 = y13, vals 14 = y14, vals 15 = y15, vals 16 = y16, vals 17 = y17, vals 18 = y18, vals 19 = y19, vals 20 = y20, vals 21 = y21, vals 22 = y22, vals 23 = y23, vals 24 = y24, vals 25 = y25, vals 26 = y26, vals 27 = y27, vals 28 = y28, vals 29 = y29, vals 30 = y30, vals 31 = y31, vals 32 = y32, vals 33 = y33, vals 34 = y34, vals 35 = y35, vals 36 = y36, vals 37 = y37, vals 38 = y38, vals 39 = y39 at *
    generalize w' = wz at *
    go_wp2_with fail
    go_ret
    exact ⟨rfl, BF.out⟩
theorem numbers_any (sp : Int) (ky sl mc : ByteArray) (es : Bool) (wn : Int) (a1 a2 : Int) (A3 : Option Addr) (n3 c3 : Nat) (l3 : List Int) (w : World) (zs : ky.size ≤ 140737488355328 ∧ sl.size ≤ 140737488355328 ∧ mc.size ≤ 140737488355328) (xy1 : 0 ≤ a1 ∧ a1 ≤ 18446744073709551615) (xy2 : 0 ≤ a2 ∧ a2 ≤ 18446744073709551615) (h3 : Holds w w.heap.size A3 n3 c3 l3) (m3 : n3 ≤ 140737488355328) (hT : Tab w) :
    Calls Tryd.prog 5 #[.agg #[.int .i64 sp, .string ky, .string sl, .string mc, .bool es, .int .i64 wn], .int .u64 a1, .int .u64 a2, .slice A3 n3 c3] w fun e w' => e = .returned (.bool true) ∧ Below w.heap.size w w' := by
  obtain ⟨x, rfl⟩ : ∃ q : Nat, a1 = (q : Int) := ⟨a1.toNat, by omega⟩
  obtain ⟨y, rfl⟩ : ∃ q : Nat, a2 = (q : Int) := ⟨a2.toNat, by omega⟩
  exact numbers_q sp ky sl mc es wn x y A3 n3 c3 l3 w zs (by omega) (by omega) h3 m3 hT
end Go.Proofs.YtdnkbefpbehllaaDoor.LawNumbers
