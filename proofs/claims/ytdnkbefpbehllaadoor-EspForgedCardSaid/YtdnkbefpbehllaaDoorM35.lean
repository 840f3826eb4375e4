/- The code's slices.Grow, slices.Concat, bytes, expect, turn, reveal. -/
import Derived.Test.YtdnkbefpbehllaaDoorM29
import Derived.Test.YtdnkbefpbehllaaDoorM30
import Derived.Test.YtdnkbefpbehllaaDoorM34
import Derived.Lib.AppendZeros
set_option linter.unusedVariables false
namespace Go.Proofs.YtdnkbefpbehllaaDoor.Esp3
open Go.RowKit Go.Proofs.YtdnkbefpbehllaaDoor.Sums Go.Proofs.YtdnkbefpbehllaaDoor.Mem Go.Proofs.YtdnkbefpbehllaaDoor.Blk Go.Proofs.YtdnkbefpbehllaaDoor.Bits3 Go.Proofs.YtdnkbefpbehllaaDoor.Ints Go.Proofs.YtdnkbefpbehllaaDoor.AesB Go.Proofs.YtdnkbefpbehllaaDoor.PadR Go.Proofs.YtdnkbefpbehllaaDoor.EspD Go.Proofs.YtdnkbefpbehllaaDoor.CutA
open Go.Proofs.YtdnkbefpbehllaaDoor.CtrD (four four_byt)
open Go.Proofs.YtdnkbefpbehllaaDoor.EspR2 Go.Proofs.YtdnkbefpbehllaaDoor.Esp1 Go.Proofs.YtdnkbefpbehllaaDoor.Esp2 Go.Proofs.YtdnkbefpbehllaaDoor.Regs Go.Proofs.YtdnkbefpbehllaaDoor.Dig1
open Go.Proofs.YtdnkbefpbehllaaDoor.Both (Row All total flat)

set_option maxHeartbeats 1000000 in
theorem grow_no (n : Nat) (h1 : 1 ≤ n) (h2 : n ≤ 1048576) (w : World) : Calls Tryd.prog 40 #[.slice none 0 0, .int .i64 (n : Int)] w fun e w' => ∃ v, e = .returned v ∧ Owns w' w.heap.size v 0 [] ∧ Below w.heap.size w w' := by
  obtain ⟨i, hi, hz, hsz, hby⟩ := info_parts byte_info
  have AZ : ∀ ty, (Builtin.append_ #[25, 3] ty #[.slice none 0 0, .int .i64 (n : Int)]).run Tryd.prog w = _ := fun ty => Lib.run_append_nil_zeros (P := Tryd.prog) w 25 3 ty 5 i (.int .u8 0) .i64 .i64 Tryd.underlying25 Tryd.underlying3 hi hz n h1 (by rw [hsz]; decide) (by omega) (by rw [hby]; omega)
  have cg := grownCap_ge w n 0 5
  have cm := grownCap_le_maxLen w n 0 5 (by simp only [maxLen]; omega)
  generalize grownCap w n 0 5 = cap at *
  have zs : (Value.int .u8 0).cells.size = 1 := rfl
  have CZ : (Builtin.zeroCells (Value.int .u8 0).cells n ++ Builtin.zeroCells (Value.int .u8 0).cells (cap - n)).size = cap := by
    simp only [Array.size_append, size_zeroCells, zs]
    omega
  generalize Builtin.zeroCells (Value.int .u8 0).cells n ++ Builtin.zeroCells (Value.int .u8 0).cells (cap - n) = Z at *
  have O : Hid (Owns (w.drew.alloc (.cells Z 5)) w.heap.size (.slice (some ⟨w.heap.size, 0, none⟩) 0 cap) 0 []) := Lib.hid ⟨rfl, fun z hz => (by cases hz), .inr ⟨w.heap.size, cap, Z, (0, 0), rfl, Nat.le_refl _, heap_alloc_new w.drew _, .inl rfl, Nat.zero_le _, cm, CZ, rfl⟩⟩
  have B0 : Hid (Below w.heap.size w (w.drew.alloc (.cells Z 5))) := Lib.hid ((below_drewN (Below.refl _ _) 1).alloc (Nat.le_refl _) _)
  have g0 : decide ((n : Int) < 0) = false := decide_eq_false (by omega)
  have g1 : decide ((0 : Int) < (n : Int)) = true := decide_eq_true (by omega)
  have f1 : IntKind.i64.wrap (n : Int) = (n : Int) := IntWalk.i64_in _ (by omega)
  clear hi hz hsz hby cg CZ zs
  go_enter Tryd.func40, Tryd.ntmps40
  go_wp2_with (at_builtin; refine Lib.wpList_append_run _ rfl _ _ _ _ rfl _ _ rfl rfl _ _ (AZ _) ?_)
  go_ret
  exact ⟨_, rfl, O.out, B0.out⟩

set_option maxRecDepth 100000 in
set_option maxHeartbeats 1000000 in
theorem concat_no (b m c : Nat) (rs : List Row) (w : World) (h : All w w.heap.size b rs) (hm : rs.length = m) (h1 : m ≤ 1000) (h0 : 1 ≤ total rs) (h2 : total rs ≤ 1048576) :
    Calls Tryd.prog 34 #[.slice (some ⟨b, 0, none⟩) m c] w fun e w' => ∃ v, e = .returned v ∧ Owns w' w.heap.size v (total rs) (flat rs) ∧ Below w.heap.size w w' := by
  have hm' := Lib.hid hm
  have T1 := Lib.hid h0
  have T2 := Lib.hid h2
  clear hm h0 h2
  go_enter Tryd.func34, Tryd.ntmps34
  go_wp2
  go_loopw [3, 11] (fun s i wr => ∃ (k v : Nat), k ≤ m ∧ i = .int .i64 (k : Int) ∧ s = .int .i64 (v : Int) ∧ Hid (v = total (rs.take k)) ∧ w = wr) (fun _ i _ => m - (intOf i).toNat)
  case atStart => exact ⟨0, 0, by omega, rfl, rfl, Lib.hid rfl, rfl⟩
  case round =>
    obtain ⟨k, v, hk, rfl, hs, HV, rfl⟩ := hrel
    replace hs := hs.symm
    subst hs
    by_cases hlt : k < m
    · have hk' : k < rs.length := by rw [hm'.out]; exact hlt
      have hr := Lib.hid (List.getElem?_eq_getElem hk')
      generalize rs[k] = r at hr
      obtain ⟨hc, hh⟩ := h.2 k r hr.out
      have ht := Lib.hid (Both.total_take hr.out)
      rw [← HV.out] at ht
      have hl := Both.total_le rs (k + 1)
      have vb : v + r.n ≤ 1048576 := by have := ht.out; have := T2.out; omega
      obtain ⟨v2, hv2⟩ : ∃ v2, v2 = v + r.n := ⟨_, rfl⟩
      have f1 : IntKind.i64.wrap ((v : Int) + (r.n : Int)) = (v2 : Int) := by rw [IntWalk.i64_in _ (by omega)]; omega
      have g1 : decide ((v2 : Int) < 0) = false := decide_eq_false (by omega)
      have HX : Hid (v2 = total (rs.take (k + 1))) := Lib.hid (by rw [ht.out]; exact hv2)
      clear hh ht hl HV hr hv2
      go_wp2_with fail
      go_roundw
      case rel => exact ⟨k + 1, v2, by omega, by go_num, rfl, HX, by first | rfl | trivial⟩
      case measure => simp [intOf]; omega
    · have e : rs.take k = rs := List.take_of_length_le (by rw [hm'.out]; omega)
      have HT : Hid (v = total rs) := Lib.hid (by have := HV.out; rwa [e] at this)
      clear HV e
      have G := Lib.hid (grow_no v (by have := HT.out; have := T1.out; omega) (by have := HT.out; have := T2.out; omega) w)
      go_wp2_with fail
      refine G.out.mono ?_
      rintro e w1 ⟨vg, rfl, og, hbg⟩
      have OG := Lib.hid og
      have BG := Lib.hid hbg
      clear og hbg G HT
      go_wp2_with fail
      go_loopw [6, 27] (fun s i w2 => ∃ (k : Nat) (v : Value), k ≤ m ∧ i = .int .i64 (k : Int) ∧ s = v ∧ Hid (Owns w2 w.heap.size v (total (rs.take k)) (flat (rs.take k))) ∧ Hid (Below w.heap.size w w2)) (fun _ i _ => m - (intOf i).toNat)
      case atStart => exact ⟨0, _, by omega, rfl, rfl, OG, BG⟩
      case round =>
        obtain ⟨k, v, hk, rfl, hs, HO, HB⟩ := hrel
        replace hs := hs.symm
        subst hs
        by_cases hlt : k < m
        · have hk' : k < rs.length := by rw [hm'.out]; exact hlt
          have hr := Lib.hid (List.getElem?_eq_getElem hk')
          generalize rs[k] = r at hr
          obtain ⟨hc, hh⟩ := h.2 k r hr.out
          have hc' := (HB.out.cell (p := ⟨b, k, none⟩) h.1).trans hc
          have hh' := Lib.hid (hh.below HB.out)
          have ht := Lib.hid (Both.total_take hr.out)
          have hl := Both.total_le rs (k + 1)
          have hl' : total (rs.take k) + r.n ≤ 1048576 := by have := ht.out; have := T2.out; omega
          clear hc hl hh OG BG
          go_wp2_with (at_builtin
                       refine wpList_append_bytes rfl (.tmp 31) (.tmp 32) rfl w.heap.size v _ _ rfl HO.out w.heap.size r.A r.n r.c r.l rfl hh'.out hl' HB.out.size ?_
                       intro v1 w1 ho1 hg1 hat1)
          have OX : Hid (Owns w1 w.heap.size v1 (total (rs.take (k + 1))) (flat (rs.take (k + 1)))) := Lib.hid (by rw [ht.out, Both.flat_take hr.out]; exact ho1)
          have BX := Lib.hid (HB.out.grown hg1 HB.out.size fun g hg => (HO.out.lt g hg).1)
          clear ho1 hg1 hat1 HO HB
          go_roundw
          case rel => exact ⟨k + 1, _, by omega, by go_num, rfl, OX, BX⟩
          case measure => simp [intOf]; omega
        · have e : rs.take k = rs := List.take_of_length_le (by rw [hm'.out]; omega)
          rw [e] at HO
          clear e
          go_wp2
          go_ret
          exact ⟨v, rfl, HO.out, HB.out⟩

set_option maxHeartbeats 1000000 in
theorem bytes_no (A0 : Option Addr) (n0 c0 : Nat) (l0 : List Int) (A1 : Option Addr) (n1 c1 : Nat) (l1 : List Int) (A2 : Option Addr) (n2 c2 : Nat) (l2 : List Int) (A3 : Option Addr) (n3 c3 : Nat) (l3 : List Int) (A4 : Option Addr) (n4 c4 : Nat) (l4 : List Int) (w : World) (B : Nat) (h0 : Holds w B A0 n0 c0 l0) (h1 : Holds w B A1 n1 c1 l1) (h2 : Holds w B A2 n2 c2 l2) (h4 : Holds w B A4 n4 c4 l4) (hB : B ≤ w.heap.size) (ht : 1 ≤ n0) (hs : n0 + (n1 + (n2 + n4)) ≤ 1048576) :
    Calls Tryd.prog 22 #[.agg #[.slice A0 n0 c0, .slice A1 n1 c1, .slice A2 n2 c2, .slice A3 n3 c3, .slice A4 n4 c4]] w fun e w' => ∃ v, e = .returned v ∧ Lies w' v (n0 + (n1 + (n2 + n4))) (l0 ++ (l1 ++ (l2 ++ l4))) ∧ Below w.heap.size w w' := by
  have B1 := Lib.hid ((Below.refl w.heap.size w).alloc (Nat.le_refl _) (.cells #[.slice A0 n0 c0, .slice A1 n1 c1, .slice A2 n2 c2, .slice A3 n3 c3, .slice A4 n4 c4] 47))
  have K0 := Blk.new w 47 #[.slice A0 n0 c0, .slice A1 n1 c1, .slice A2 n2 c2, .slice A3 n3 c3, .slice A4 n4 c4]
  have k0 := K0.cell 0
  have k1 := K0.cell 1
  have k2 := K0.cell 2
  have k4 := K0.cell 4
  have AL := All.lit (w := w.alloc (.cells #[.slice A0 n0 c0, .slice A1 n1 c1, .slice A2 n2 c2, .slice A3 n3 c3, .slice A4 n4 c4] 47)) (B := B) (Nat.le_trans hB B1.out.size) [⟨A0, n0, c0, l0⟩, ⟨A1, n1, c1, l1⟩, ⟨A2, n2, c2, l2⟩, ⟨A4, n4, c4, l4⟩] #[.slice A0 n0 c0, .slice A1 n1 c1, .slice A2 n2 c2, .slice A4 n4 c4] 25 rfl (mem4 (h0.below (B1.out.mono hB)) (h1.below (B1.out.mono hB)) (h2.below (B1.out.mono hB)) (h4.below (B1.out.mono hB)))
  have gs : (w.alloc (.cells #[.slice A0 n0 c0, .slice A1 n1 c1, .slice A2 n2 c2, .slice A3 n3 c3, .slice A4 n4 c4] 47)).heap.size = w.heap.size + 1 := by simp
  rw [gs] at AL
  have B2 := Lib.hid (B1.out.alloc (by simp) (.cells #[.slice A0 n0 c0, .slice A1 n1 c1, .slice A2 n2 c2, .slice A4 n4 c4] 25))
  have C := Lib.hid (concat_no (w.heap.size + 1) 4 4 [⟨A0, n0, c0, l0⟩, ⟨A1, n1, c1, l1⟩, ⟨A2, n2, c2, l2⟩, ⟨A4, n4, c4, l4⟩] _ (by
    have sz : ((w.alloc (.cells #[.slice A0 n0 c0, .slice A1 n1 c1, .slice A2 n2 c2, .slice A3 n3 c3, .slice A4 n4 c4] 47)).alloc (.cells #[.slice A0 n0 c0, .slice A1 n1 c1, .slice A2 n2 c2, .slice A4 n4 c4] 25)).heap.size = w.heap.size + 1 + 1 := by simp
    rw [sz]; exact AL) rfl (by decide) (by show 1 ≤ n0 + (n1 + (n2 + (n4 + 0))); omega) (by show n0 + (n1 + (n2 + (n4 + 0))) ≤ 1048576; omega))
  clear K0 AL gs h0 h1 h2 h4 ht hs
  go_enter Tryd.func22, Tryd.ntmps22
  go_wp2_with fail
  refine C.out.mono ?_
  rintro e w2 ⟨v, rfl, o, hb⟩
  have O := Lib.hid o
  have B3 := Lib.hid (B2.out.trans (hb.mono B2.out.size))
  clear o hb C
  go_wp2_with fail
  go_ret
  refine ⟨_, rfl, ?_, B3.out⟩
  have := lies_own O.out
  simp only [total, flat, List.append_nil, Nat.add_zero] at this
  exact this
end Go.Proofs.YtdnkbefpbehllaaDoor.Esp3

/- The code's expect, turn, reveal. -/
set_option linter.unusedVariables false
namespace Go.Proofs.YtdnkbefpbehllaaDoor.Esp4
open Go.RowKit Go.Proofs.YtdnkbefpbehllaaDoor.Sums Go.Proofs.YtdnkbefpbehllaaDoor.Mem Go.Proofs.YtdnkbefpbehllaaDoor.Blk Go.Proofs.YtdnkbefpbehllaaDoor.Bits3 Go.Proofs.YtdnkbefpbehllaaDoor.Ints Go.Proofs.YtdnkbefpbehllaaDoor.AesB Go.Proofs.YtdnkbefpbehllaaDoor.PadR Go.Proofs.YtdnkbefpbehllaaDoor.EspD Go.Proofs.YtdnkbefpbehllaaDoor.CutA
open Go.Proofs.YtdnkbefpbehllaaDoor.CtrD (four four_byt)
open Go.Proofs.YtdnkbefpbehllaaDoor.EspR2 Go.Proofs.YtdnkbefpbehllaaDoor.Esp1 Go.Proofs.YtdnkbefpbehllaaDoor.Esp2 Go.Proofs.YtdnkbefpbehllaaDoor.Regs Go.Proofs.YtdnkbefpbehllaaDoor.Dig1 Go.Proofs.YtdnkbefpbehllaaDoor.Esp3
open Go.Proofs.YtdnkbefpbehllaaDoor.Both (Row All total flat)

set_option maxHeartbeats 1000000 in
theorem expect_no (A0 : Option Addr) (n0 c0 : Nat) (l0 : List Int) (A1 : Option Addr) (n1 c1 : Nat) (l1 : List Int) (A2 : Option Addr) (n2 c2 : Nat) (l2 : List Int) (A3 : Option Addr) (n3 c3 : Nat) (l3 : List Int) (A4 : Option Addr) (n4 c4 : Nat) (l4 : List Int) (sp : Int) (ky sl mc : ByteArray) (es : Bool) (wn : Int) (w : World) (B : Nat) (h0 : Holds w B A0 n0 c0 l0) (h1 : Holds w B A1 n1 c1 l1) (h2 : Holds w B A2 n2 c2 l2) (h3 : Holds w B A3 n3 c3 l3) (hB : B ≤ w.heap.size) (hs : n0 + (n1 + (n2 + n3)) ≤ 900000) (hm : mc.size = 32) (hT : Tab w) :
    Calls Tryd.prog 21 #[.agg #[.slice A0 n0 c0, .slice A1 n1 c1, .slice A2 n2 c2, .slice A3 n3 c3, .slice A4 n4 c4], .agg #[.int .i64 sp, .string ky, .string sl, .string mc, .bool es, .int .i64 wn]] w fun e w' => ∃ v, e = .returned v ∧ Lies w' v 16 (ints ((MacD.full (nats (nums mc)) (nats (l0 ++ (l1 ++ (l2 ++ l3))))).take 16)) ∧ Below w.heap.size w w' := by
  have B1 := Lib.hid ((Below.refl w.heap.size w).alloc (Nat.le_refl _) (.cells #[.slice A0 n0 c0, .slice A1 n1 c1, .slice A2 n2 c2, .slice A3 n3 c3, .slice A4 n4 c4] 47))
  have gs : (w.alloc (.cells #[.slice A0 n0 c0, .slice A1 n1 c1, .slice A2 n2 c2, .slice A3 n3 c3, .slice A4 n4 c4] 47)).heap.size = w.heap.size + 1 := by simp
  have K0 : Blk ((w.alloc (.cells #[.slice A0 n0 c0, .slice A1 n1 c1, .slice A2 n2 c2, .slice A3 n3 c3, .slice A4 n4 c4] 47)).alloc (.cells #[.int .i64 sp, .string ky, .string sl, .string mc, .bool es, .int .i64 wn] 23)) w.heap.size 47 #[.slice A0 n0 c0, .slice A1 n1 c1, .slice A2 n2 c2, .slice A3 n3 c3, .slice A4 n4 c4] := Blk.alloc (Blk.new w 47 #[.slice A0 n0 c0, .slice A1 n1 c1, .slice A2 n2 c2, .slice A3 n3 c3, .slice A4 n4 c4]) (.cells #[.int .i64 sp, .string ky, .string sl, .string mc, .bool es, .int .i64 wn] 23)
  have K1 : Blk ((w.alloc (.cells #[.slice A0 n0 c0, .slice A1 n1 c1, .slice A2 n2 c2, .slice A3 n3 c3, .slice A4 n4 c4] 47)).alloc (.cells #[.int .i64 sp, .string ky, .string sl, .string mc, .bool es, .int .i64 wn] 23)) (w.heap.size + 1) 23 #[.int .i64 sp, .string ky, .string sl, .string mc, .bool es, .int .i64 wn] := by
    have := Blk.new (w.alloc (.cells #[.slice A0 n0 c0, .slice A1 n1 c1, .slice A2 n2 c2, .slice A3 n3 c3, .slice A4 n4 c4] 47)) 23 #[.int .i64 sp, .string ky, .string sl, .string mc, .bool es, .int .i64 wn]
    rwa [gs] at this
  have B2 := Lib.hid (B1.out.alloc (by simp) (.cells #[.int .i64 sp, .string ky, .string sl, .string mc, .bool es, .int .i64 wn] 23))
  have B2W := B2.out
  have k3 := K1.cell 3
  obtain ⟨u1, v1, cv1, o1, b1⟩ := run_bytes_string ((w.alloc (.cells #[.slice A0 n0 c0, .slice A1 n1 c1, .slice A2 n2 c2, .slice A3 n3 c3, .slice A4 n4 c4] 47)).alloc (.cells #[.int .i64 sp, .string ky, .string sl, .string mc, .bool es, .int .i64 wn] 23)) mc (by rw [hm]; decide)
  obtain ⟨Ak, ck, rfl, hk⟩ := o1.slice
  rw [hm] at cv1 hk
  have KP := Blk.below K0 b1 (Blk.lt K0)
  have p0 := KP.cell 0
  have p1 := KP.cell 1
  have p2 := KP.cell 2
  have p3 := KP.cell 3
  have B3 := Lib.hid (B2W.trans (b1.mono B2W.size))
  have UB : B ≤ u1.heap.size := Nat.le_trans hB B3.out.size
  have C := Lib.hid (MacU.tag_lit (w := u1) (B := u1.heap.size) (Nat.le_refl _) [⟨A0, n0, c0, l0⟩, ⟨A1, n1, c1, l1⟩, ⟨A2, n2, c2, l2⟩, ⟨A3, n3, c3, l3⟩] #[.slice A0 n0 c0, .slice A1 n1 c1, .slice A2 n2 c2, .slice A3 n3 c3] rfl
    (mem4 ((h0.below (B3.out.mono hB)).more UB) ((h1.below (B3.out.mono hB)).more UB) ((h2.below (B3.out.mono hB)).more UB) ((h3.below (B3.out.mono hB)).more UB)) u1.heap.size 4 rfl rfl (by decide) (by decide) (by show n0 + (n1 + (n2 + (n3 + 0))) ≤ 900000; omega) (hT.up B3.out) Ak 32 ck (nums mc) hk (by decide) _ rfl)
  simp only [flat, List.append_nil] at C
  generalize MacD.full (nats (nums mc)) (nats (l0 ++ (l1 ++ (l2 ++ l3)))) = F at *
  clear K0 K1 KP gs b1 hk o1 h0 h1 h2 h3 hs hm hT UB hB B2W B1
  go_enter Tryd.func21, Tryd.ntmps21
  go_wp2_with fail
  refine C.out.mono ?_
  rintro e w2 ⟨A', c', rfl, hh, hb⟩
  have H : Hid (Holds w2 w2.heap.size A' 16 c' (ints (F.take 16))) := Lib.hid hh
  have B4 := Lib.hid (B3.out.trans (hb.mono B3.out.size))
  rw [show MacU.tgN 32 = 16 from rfl, show MacU.tgE 32 = 0 from rfl]
  clear hh hb C
  go_wp2_with fail
  go_ret
  exact ⟨_, rfl, ⟨_, _, rfl, H.out⟩, B4.out⟩

set_option maxHeartbeats 1000000 in
theorem turn_no (A0 : Option Addr) (n0 c0 : Nat) (l0 : List Int) (A1 : Option Addr) (n1 c1 : Nat) (l1 : List Int) (A2 : Option Addr) (n2 c2 : Nat) (l2 : List Int) (A3 : Option Addr) (n3 c3 : Nat) (l3 : List Int) (A4 : Option Addr) (n4 c4 : Nat) (l4 : List Int) (sp : Int) (ky sl mc : ByteArray) (es : Bool) (wn : Int) (w : World) (B : Nat) (h1 : Holds w B A1 n1 c1 l1) (h2 : Holds w B A2 n2 c2 l2) (hB : B ≤ w.heap.size) (hk0 : ky.size = 16 ∨ ky.size = 32) (hs0 : sl.size = 4) (hv : n1 = 8) (hn : n2 ≤ 65536) :
    Calls Tryd.prog 20 #[.agg #[.slice A0 n0 c0, .slice A1 n1 c1, .slice A2 n2 c2, .slice A3 n3 c3, .slice A4 n4 c4], .agg #[.int .i64 sp, .string ky, .string sl, .string mc, .bool es, .int .i64 wn]] w fun e w' => ∃ v, e = .returned (.tuple #[v, .int .i64 0]) ∧ Lies w' v n2 (ints (turnL ky sl (nats l1) (nats l2))) ∧ Below w.heap.size w w' := by
  have B1 := Lib.hid ((Below.refl w.heap.size w).alloc (Nat.le_refl _) (.cells #[.slice A0 n0 c0, .slice A1 n1 c1, .slice A2 n2 c2, .slice A3 n3 c3, .slice A4 n4 c4] 47))
  have gs : (w.alloc (.cells #[.slice A0 n0 c0, .slice A1 n1 c1, .slice A2 n2 c2, .slice A3 n3 c3, .slice A4 n4 c4] 47)).heap.size = w.heap.size + 1 := by simp
  have K0 : Blk ((w.alloc (.cells #[.slice A0 n0 c0, .slice A1 n1 c1, .slice A2 n2 c2, .slice A3 n3 c3, .slice A4 n4 c4] 47)).alloc (.cells #[.int .i64 sp, .string ky, .string sl, .string mc, .bool es, .int .i64 wn] 23)) w.heap.size 47 #[.slice A0 n0 c0, .slice A1 n1 c1, .slice A2 n2 c2, .slice A3 n3 c3, .slice A4 n4 c4] := Blk.alloc (Blk.new w 47 #[.slice A0 n0 c0, .slice A1 n1 c1, .slice A2 n2 c2, .slice A3 n3 c3, .slice A4 n4 c4]) (.cells #[.int .i64 sp, .string ky, .string sl, .string mc, .bool es, .int .i64 wn] 23)
  have K1 : Blk ((w.alloc (.cells #[.slice A0 n0 c0, .slice A1 n1 c1, .slice A2 n2 c2, .slice A3 n3 c3, .slice A4 n4 c4] 47)).alloc (.cells #[.int .i64 sp, .string ky, .string sl, .string mc, .bool es, .int .i64 wn] 23)) (w.heap.size + 1) 23 #[.int .i64 sp, .string ky, .string sl, .string mc, .bool es, .int .i64 wn] := by
    have := Blk.new (w.alloc (.cells #[.slice A0 n0 c0, .slice A1 n1 c1, .slice A2 n2 c2, .slice A3 n3 c3, .slice A4 n4 c4] 47)) 23 #[.int .i64 sp, .string ky, .string sl, .string mc, .bool es, .int .i64 wn]
    rwa [gs] at this
  have B2 := Lib.hid (B1.out.alloc (by simp) (.cells #[.int .i64 sp, .string ky, .string sl, .string mc, .bool es, .int .i64 wn] 23))
  have B2W := B2.out
  have k1 := K1.cell 1
  have kl : ky.size ≤ 1048576 := by omega
  obtain ⟨u1, v1, cv1, o1, b1⟩ := run_bytes_string ((w.alloc (.cells #[.slice A0 n0 c0, .slice A1 n1 c1, .slice A2 n2 c2, .slice A3 n3 c3, .slice A4 n4 c4] 47)).alloc (.cells #[.int .i64 sp, .string ky, .string sl, .string mc, .bool es, .int .i64 wn] 23)) ky (by simp only [maxLen]; omega)
  obtain ⟨Ak, ck, rfl, hk⟩ := o1.slice
  have K2 := Blk.below K1 b1 (Blk.lt K1)
  have k2 := K2.cell 2
  obtain ⟨u2, v2, cv2, o2, b2⟩ := run_bytes_string u1 sl (by rw [hs0]; decide)
  obtain ⟨As, cs, rfl, hs⟩ := o2.slice
  rw [hs0] at cv2 hs
  have b12 := b1.trans (b2.mono b1.size)
  have KP := Blk.below K0 b12 (Blk.lt K0)
  have p1 := KP.cell 1
  have p2 := KP.cell 2
  have B3 := Lib.hid (B2W.trans (b12.mono B2W.size))
  have UB : B ≤ u2.heap.size := Nat.le_trans hB B3.out.size
  have C := Lib.hid (CtrU.turn_u Ak ky.size ck (nums ky) As 4 cs (nums sl) A1 n1 c1 l1 A2 n2 c2 l2 u2 u2.heap.size ((hk.below b2).more b2.size) hs ((h1.below (B3.out.mono hB)).more UB) ((h2.below (B3.out.mono hB)).more UB) (Nat.le_refl _) (by omega))
  have SE : CtrU.sErr (nums ky) (nums sl) l1 (l2.length : Int) = 0 := by
    unfold CtrU.sErr CtrD.errS
    rw [nums_len, nums_len, h1.1, h2.1, if_pos ⟨hk0, hs0, hv, by omega⟩, if_pos (by omega)]
  have TO : CtrU.tOut (nums ky) (nums sl) l1 l2 = ints (turnL ky sl (nats l1) (nats l2)) := by
    unfold CtrU.tOut
    rw [if_pos SE]
    rfl
  have TL : (ints (turnL ky sl (nats l1) (nats l2))).length = n2 := by
    rw [Ctr1.ints_len, turnL_len, nats_length, h2.1]
  rw [SE, TO] at C
  generalize ints (turnL ky sl (nats l1) (nats l2)) = X at *
  clear K0 K1 K2 KP gs b1 b2 b12 hk hs o1 o2 h1 h2 hk0 hs0 hv hn hB UB B2W B1 SE TO kl
  go_enter Tryd.func20, Tryd.ntmps20
  go_wp2_with fail
  refine C.out.mono ?_
  rintro e w2 ⟨A', c', rfl, hh, hb⟩
  rw [TL] at hh ⊢
  have H := Lib.hid hh
  have B4 := Lib.hid (B3.out.trans (hb.mono B3.out.size))
  clear hh hb C TL
  go_wp2_with fail
  go_ret2
  exact ⟨_, rfl, ⟨_, _, rfl, H.out⟩, B4.out⟩

set_option maxHeartbeats 1000000 in
theorem reveal_no (A0 : Option Addr) (n0 c0 : Nat) (l0 : List Int) (A1 : Option Addr) (n1 c1 : Nat) (l1 : List Int) (A2 : Option Addr) (n2 c2 : Nat) (l2 : List Int) (A3 : Option Addr) (n3 c3 : Nat) (l3 : List Int) (A4 : Option Addr) (n4 c4 : Nat) (l4 : List Int) (sp : Int) (ky sl mc : ByteArray) (es : Bool) (wn : Int) (w : World) (B : Nat) (h1 : Holds w B A1 n1 c1 l1) (h2 : Holds w B A2 n2 c2 l2) (hB : B ≤ w.heap.size) (hk0 : ky.size = 16 ∨ ky.size = 32) (hs0 : sl.size = 4) (hv : n1 = 8) (hn : n2 ≤ 65536) :
    Calls Tryd.prog 27 #[.agg #[.slice A0 n0 c0, .slice A1 n1 c1, .slice A2 n2 c2, .slice A3 n3 c3, .slice A4 n4 c4], .agg #[.int .i64 sp, .string ky, .string sl, .string mc, .bool es, .int .i64 wn]] w (PadU.Ans3 w (PadU.opO (ints (turnL ky sl (nats l1) (nats l2)))) (PadU.opY (ints (turnL ky sl (nats l1) (nats l2)))) (PadU.opE (ints (turnL ky sl (nats l1) (nats l2))))) := by
  have B1 := Lib.hid ((Below.refl w.heap.size w).alloc (Nat.le_refl _) (.cells #[.slice A0 n0 c0, .slice A1 n1 c1, .slice A2 n2 c2, .slice A3 n3 c3, .slice A4 n4 c4] 47))
  have gs : (w.alloc (.cells #[.slice A0 n0 c0, .slice A1 n1 c1, .slice A2 n2 c2, .slice A3 n3 c3, .slice A4 n4 c4] 47)).heap.size = w.heap.size + 1 := by simp
  have K0 : Blk ((w.alloc (.cells #[.slice A0 n0 c0, .slice A1 n1 c1, .slice A2 n2 c2, .slice A3 n3 c3, .slice A4 n4 c4] 47)).alloc (.cells #[.int .i64 sp, .string ky, .string sl, .string mc, .bool es, .int .i64 wn] 23)) w.heap.size 47 #[.slice A0 n0 c0, .slice A1 n1 c1, .slice A2 n2 c2, .slice A3 n3 c3, .slice A4 n4 c4] := Blk.alloc (Blk.new w 47 #[.slice A0 n0 c0, .slice A1 n1 c1, .slice A2 n2 c2, .slice A3 n3 c3, .slice A4 n4 c4]) (.cells #[.int .i64 sp, .string ky, .string sl, .string mc, .bool es, .int .i64 wn] 23)
  have K1 : Blk ((w.alloc (.cells #[.slice A0 n0 c0, .slice A1 n1 c1, .slice A2 n2 c2, .slice A3 n3 c3, .slice A4 n4 c4] 47)).alloc (.cells #[.int .i64 sp, .string ky, .string sl, .string mc, .bool es, .int .i64 wn] 23)) (w.heap.size + 1) 23 #[.int .i64 sp, .string ky, .string sl, .string mc, .bool es, .int .i64 wn] := by
    have := Blk.new (w.alloc (.cells #[.slice A0 n0 c0, .slice A1 n1 c1, .slice A2 n2 c2, .slice A3 n3 c3, .slice A4 n4 c4] 47)) 23 #[.int .i64 sp, .string ky, .string sl, .string mc, .bool es, .int .i64 wn]
    rwa [gs] at this
  have B2 := Lib.hid (B1.out.alloc (by simp) (.cells #[.int .i64 sp, .string ky, .string sl, .string mc, .bool es, .int .i64 wn] 23))
  have B2W := B2.out
  have C := Lib.hid (turn_no A0 n0 c0 l0 A1 n1 c1 l1 A2 n2 c2 l2 A3 n3 c3 l3 A4 n4 c4 l4 sp ky sl mc es wn ((w.alloc (.cells #[.slice A0 n0 c0, .slice A1 n1 c1, .slice A2 n2 c2, .slice A3 n3 c3, .slice A4 n4 c4] 47)).alloc (.cells #[.int .i64 sp, .string ky, .string sl, .string mc, .bool es, .int .i64 wn] 23)) B (h1.below (B2W.mono hB)) (h2.below (B2W.mono hB)) (Nat.le_trans hB B2W.size) hk0 hs0 hv hn)
  generalize ints (turnL ky sl (nats l1) (nats l2)) = X at *
  have KP := Lib.hid K0
  have KS := Lib.hid K1
  have HN := Lib.hid hn
  clear K0 K1 gs h1 h2 hk0 hs0 hv hn hB B2W B1
  go_enter Tryd.func27, Tryd.ntmps27
  go_wp2_with (first
    | (refine Loads.wpList_load_w rfl 47 (.tmp 2) rfl w.heap.size rfl 47 #[.slice A0 n0 c0, .slice A1 n1 c1, .slice A2 n2 c2, .slice A3 n3 c3, .slice A4 n4 c4] (0, 0) _ (KP.out) Tryd.underlying47 rfl (by kernel_rfl) ?_)
    | (refine Loads.wpList_load_w rfl 23 (.tmp 3) rfl (w.heap.size + 1) rfl 23 #[.int .i64 sp, .string ky, .string sl, .string mc, .bool es, .int .i64 wn] (0, 0) _ (KS.out) Tryd.underlying23 rfl (by kernel_rfl) ?_))
  refine C.out.mono ?_
  rintro e w2 ⟨v, rfl, ⟨A', c', rfl, hh⟩, hb⟩
  have B3 := Lib.hid (B2.out.trans (hb.mono B2.out.size))
  have O := Lib.hid (PadU.open_u A' n2 c' X w2 w2.heap.size hh (Nat.le_refl _) (by have := HN.out; omega))
  clear hh hb C KP KS
  go_wp2_with fail
  refine O.out.mono ?_
  rintro e w3 ⟨A9, c9, rfl, h9, hb⟩
  have H := Lib.hid h9
  have B4 := Lib.hid (B3.out.trans (hb.mono B3.out.size))
  clear h9 hb O
  generalize PadU.opO X = Y at *
  generalize PadU.opY X = y at *
  generalize PadU.opE X = r at *
  go_wp2_with fail
  go_ret3
  exact ⟨_, _, rfl, H.out, B4.out⟩
end Go.Proofs.YtdnkbefpbehllaaDoor.Esp4

