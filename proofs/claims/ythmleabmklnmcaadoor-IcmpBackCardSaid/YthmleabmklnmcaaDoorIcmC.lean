/- The contract of the code's Bytes. -/
import Derived.Test.YthmleabmklnmcaaDoorIcm1
import Derived.Laws.MakeOwn
import Derived.OwnWalk
set_option linter.unusedVariables false
namespace Go.Proofs.YthmleabmklnmcaaDoor.IcmC
open Go.RowKit Go.Sort Go.Proofs.YthmleabmklnmcaaDoor.Sums Go.Proofs.YthmleabmklnmcaaDoor.Words Go.Proofs.YthmleabmklnmcaaDoor.Mem Go.Proofs.YthmleabmklnmcaaDoor.Ahead Go.Proofs.YthmleabmklnmcaaDoor.IcmD Go.Proofs.YthmleabmklnmcaaDoor.Blk Go.Proofs.YthmleabmklnmcaaDoor.Bits Go.Proofs.YthmleabmklnmcaaDoor.InetSum Go.Proofs.YthmleabmklnmcaaDoor.Steps Go.Proofs.YthmleabmklnmcaaDoor.Free Go.Proofs.YthmleabmklnmcaaDoor.Cut
open Go.Proofs.YthmleabmklnmcaaDoor.Com Go.Proofs.YthmleabmklnmcaaDoor.Icm1

set_option maxHeartbeats 1000000 in
theorem bytes_err (p : Ic) (A : Option Addr) (n c : Nat) (s d : ByteArray) (w : World) (hn : n ≤ 1048576) (he : p.err s d n ≠ 0) :
    Calls Tryd.prog 10 #[.agg #[.int .i64 p.typ, .int .i64 p.code, .int .i64 p.rest, .slice A n c], .string s, .string d] w fun e w' => e = .returned (.tuple #[.slice none 0 0, .int .i64 (p.err s d n)]) ∧ Below w.heap.size w w' := by
  have B0 := Lib.hid ((Below.refl w.heap.size w).alloc (Nat.le_refl _) (.cells #[.int .i64 p.typ, .int .i64 p.code, .int .i64 p.rest, .slice A n c] 24))
  have K0 := Blk.new w 24 #[.int .i64 p.typ, .int .i64 p.code, .int .i64 p.rest, .slice A n c]
  have k0 := K0.cell 0
  have k1 := K0.cell 1
  have k2 := K0.cell 2
  have k3 := K0.cell 3
  clear K0
  have WA := Lib.hid (fun W => within_any p.typ 255 W)
  have WB := Lib.hid (fun W => within_any p.code 255 W)
  have WC := Lib.hid (fun W => within_any p.rest 4294967295 W)
  have WP := Lib.hid (fun W => paired_any s d W)
  have E : Hid (p.err s d n = if ((wi p.typ 255 && (wi p.code 255 && wi p.rest 4294967295)) && paired s d) = true then (if 65535 < 8 + n then 2 else 0) else 1) := Lib.hid rfl
  have N := Lib.hid he
  clear he
  generalize wi p.typ 255 = x at *
  generalize wi p.code 255 = y at *
  generalize wi p.rest 4294967295 = u at *
  generalize paired s d = z at *
  cases x with
  | false =>
    have F : Hid (p.err s d n = 1) := Lib.hid (by rw [E.out]; rfl)
    clear E N
    go_enter Tryd.func10, Tryd.ntmps10
    go_wp2_with fail
    refine (WA.out _).mono ?_
    rintro e w' ⟨rfl, rfl⟩
    go_wp2_with fail
    go_ret2
    exact ⟨by rw [F.out]; rfl, B0.out⟩
  | true =>
    cases y with
    | false =>
      have F : Hid (p.err s d n = 1) := Lib.hid (by rw [E.out]; rfl)
      clear E N
      go_enter Tryd.func10, Tryd.ntmps10
      go_wp2_with fail
      refine (WA.out _).mono ?_
      rintro e w' ⟨rfl, rfl⟩
      go_wp2_with fail
      refine (WB.out _).mono ?_
      rintro e w' ⟨rfl, rfl⟩
      go_wp2_with fail
      go_ret2
      exact ⟨by rw [F.out]; rfl, B0.out⟩
    | true =>
      cases u with
      | false =>
        have F : Hid (p.err s d n = 1) := Lib.hid (by rw [E.out]; rfl)
        clear E N
        go_enter Tryd.func10, Tryd.ntmps10
        go_wp2_with fail
        refine (WA.out _).mono ?_
        rintro e w' ⟨rfl, rfl⟩
        go_wp2_with fail
        refine (WB.out _).mono ?_
        rintro e w' ⟨rfl, rfl⟩
        go_wp2_with fail
        refine (WC.out _).mono ?_
        rintro e w' ⟨rfl, rfl⟩
        go_wp2_with fail
        go_ret2
        exact ⟨by rw [F.out]; rfl, B0.out⟩
      | true =>
        cases z with
        | false =>
          have F : Hid (p.err s d n = 1) := Lib.hid (by rw [E.out]; rfl)
          clear E N
          go_enter Tryd.func10, Tryd.ntmps10
          go_wp2_with fail
          refine (WA.out _).mono ?_
          rintro e w' ⟨rfl, rfl⟩
          go_wp2_with fail
          refine (WB.out _).mono ?_
          rintro e w' ⟨rfl, rfl⟩
          go_wp2_with fail
          refine (WC.out _).mono ?_
          rintro e w' ⟨rfl, rfl⟩
          go_wp2_with fail
          refine (WP.out _).mono ?_
          rintro e w' ⟨rfl, rfl⟩
          go_wp2_with fail
          go_ret2
          exact ⟨by rw [F.out]; rfl, B0.out⟩
        | true =>
          have q : 65535 < 8 + n := by
            by_cases q : 65535 < 8 + n
            · exact q
            · exact absurd (by rw [E.out, if_pos (show ((true && (true && true)) && true) = true from rfl), if_neg q]) N.out
          have q1 : (65535 : Int) < 8 + (n : Int) := by omega
          have F : Hid (p.err s d n = 2) := Lib.hid (by rw [E.out, if_pos (show ((true && (true && true)) && true) = true from rfl), if_pos q])
          clear E N
          go_enter Tryd.func10, Tryd.ntmps10
          go_wp2_with fail
          refine (WA.out _).mono ?_
          rintro e w' ⟨rfl, rfl⟩
          go_wp2_with fail
          refine (WB.out _).mono ?_
          rintro e w' ⟨rfl, rfl⟩
          go_wp2_with fail
          refine (WC.out _).mono ?_
          rintro e w' ⟨rfl, rfl⟩
          go_wp2_with fail
          refine (WP.out _).mono ?_
          rintro e w' ⟨rfl, rfl⟩
          go_wp2_with fail
          go_ret2
          exact ⟨by rw [F.out]; rfl, B0.out⟩

set_option maxRecDepth 100000 in
theorem make_bytes (n : Nat) (hn : n ≤ 1048576) (w : World) :
    (Instr.makeSlice 22 (.int .i64 0) (.int .i64 (8 + (n : Int)))).run Tryd.prog w = .ok (.slice (some ⟨w.heap.size, 0, none⟩) 0 (8 + n)) (w.alloc (.cells (madeCells #[.int .u8 0] (8 + n)) 5)) := by
  obtain ⟨i, hi, hz, hsz, hby⟩ := info_parts byte_info
  have hr := run_make (P := Tryd.prog) w 22 5 i (.int .u8 0) Tryd.underlying22 hi hz .i64 .i64 0 (8 + (n : Int)) (by omega) (by omega) (by rw [hby]; omega) (by omega)
  rw [show (8 + (n : Int)).toNat = 8 + n by omega, hsz, Nat.mul_one] at hr
  exact hr

/-- The first eight bytes, with 0 in the place of the check. -/
def hd8 (p : Ic) : List Int := [p.typ, p.code, 0, 0, p.rest / 16777216, p.rest / 65536 % 256, p.rest / 256 % 256, p.rest % 256]
theorem hd8_raw (p : Ic) (l : List Int) : hd8 p ++ l = p.raw 0 l := rfl
def words (p : Ic) : Array Value := #[.int .i64 (256 * p.typ + p.code), .int .i64 0, .int .i64 (p.rest / 65536), .int .i64 p.rest]
theorem hd8_take {p : Ic} (V : Valid p) {k : Nat} (hk : k < 4) :
    ∃ x a b : Int, (words p)[k]? = some (.int .i64 x) ∧ IntKind.u8.wrap (x / 256) = a ∧ IntKind.u8.wrap x = b ∧ 0 ≤ a ∧ a ≤ 255 ∧ 0 ≤ b ∧ b ≤ 255 ∧ (hd8 p).take (2 * (k + 1)) = (hd8 p).take (2 * k) ++ [a, b] := by
  obtain ⟨t0, t1, c0, c1, r0, r1⟩ := V
  rcases (show k = 0 ∨ k = 1 ∨ k = 2 ∨ k = 3 by omega) with rfl | rfl | rfl | rfl
  · refine ⟨_, p.typ, p.code, rfl, ?_, ?_, t0, t1, c0, c1, rfl⟩ <;> rw [IntKind.wrap_u8] <;> omega
  · refine ⟨0, 0, 0, rfl, ?_, ?_, by decide, by decide, by decide, by decide, rfl⟩ <;> rfl
  · refine ⟨_, p.rest / 16777216, p.rest / 65536 % 256, rfl, ?_, ?_, by omega, by omega, by omega, by omega, rfl⟩ <;> rw [IntKind.wrap_u8] <;> omega
  · refine ⟨_, p.rest / 256 % 256, p.rest % 256, rfl, ?_, ?_, by omega, by omega, by omega, by omega, rfl⟩ <;> rw [IntKind.wrap_u8]
theorem raw_set {p : Ic} {k K : Int} {l : List Int} : ((p.raw k l).set 2 (K / 256)).set 3 (K % 256) = p.raw K l := rfl

set_option maxHeartbeats 4000000 in
set_option maxRecDepth 100000 in
theorem bytes_ok (p : Ic) (A : Option Addr) (n c : Nat) (l : List Int) (s d : ByteArray) (w : World) (B : Nat) (h : Holds w B A n c l) (hB : B ≤ w.heap.size) (he : p.err s d n = 0) :
    Calls Tryd.prog 10 #[.agg #[.int .i64 p.typ, .int .i64 p.code, .int .i64 p.rest, .slice A n c], .string s, .string d] w fun e w' => ∃ v, e = .returned (.tuple #[v, .int .i64 0]) ∧ Owns w' w.heap.size v (8 + n) (p.bytes s d l) ∧ Below w.heap.size w w' := by
  have HL := Lib.hid h.1
  obtain ⟨V, hp, hn⟩ := Ic.err_zero he
  have VV := Lib.hid V
  obtain ⟨t0, t1, c0, c1, r0, r1⟩ := V
  obtain ⟨wd, hwd⟩ : ∃ wd, wd = words p := ⟨_, rfl⟩
  have WD := Lib.hid hwd
  have B0 := Lib.hid ((((Below.refl w.heap.size w).alloc (Nat.le_refl _) (.cells #[.int .i64 p.typ, .int .i64 p.code, .int .i64 p.rest, .slice A n c] 24)).alloc (by simp) (.cells (madeCells #[.int .u8 0] (8 + n)) 5)).alloc (by simp; omega) (.cells #[.int .i64 (256 * p.typ + p.code), .int .i64 0, .int .i64 (p.rest / 65536), .int .i64 p.rest] 3))
  have K0 := Blk.new w 24 #[.int .i64 p.typ, .int .i64 p.code, .int .i64 p.rest, .slice A n c]
  have k0 := K0.cell 0
  have k1 := K0.cell 1
  have k2 := K0.cell 2
  have k3 := K0.cell 3
  have U0 := Lib.hid ((K0.alloc (.cells (madeCells #[.int .u8 0] (8 + n)) 5)).alloc (.cells #[.int .i64 (256 * p.typ + p.code), .int .i64 0, .int .i64 (p.rest / 65536), .int .i64 p.rest] 3))
  clear K0
  have sz1 : (w.alloc (.cells #[.int .i64 p.typ, .int .i64 p.code, .int .i64 p.rest, .slice A n c] 24)).heap.size = w.heap.size + 1 := by simp
  have sz2 : ((w.alloc (.cells #[.int .i64 p.typ, .int .i64 p.code, .int .i64 p.rest, .slice A n c] 24)).alloc (.cells (madeCells #[.int .u8 0] (8 + n)) 5)).heap.size = w.heap.size + 2 := by simp
  have O0 := owns_made (w.alloc (.cells #[.int .i64 p.typ, .int .i64 p.code, .int .i64 p.rest, .slice A n c] 24)) (8 + n) (w.heap.size + 1) (by omega) (by omega)
  rw [sz1] at O0
  have O1 := Lib.hid (O0.alloc (.cells #[.int .i64 (256 * p.typ + p.code), .int .i64 0, .int .i64 (p.rest / 65536), .int .i64 p.rest] 3))
  have I0 := Blk.new ((w.alloc (.cells #[.int .i64 p.typ, .int .i64 p.code, .int .i64 p.rest, .slice A n c] 24)).alloc (.cells (madeCells #[.int .u8 0] (8 + n)) 5)) 3 #[.int .i64 (256 * p.typ + p.code), .int .i64 0, .int .i64 (p.rest / 65536), .int .i64 p.rest]
  rw [sz2] at I0
  have I1 := Lib.hid I0
  clear sz1 sz2 O0 I0
  have WA := Lib.hid (fun W => within_any p.typ 255 W)
  have WB := Lib.hid (fun W => within_any p.code 255 W)
  have WC := Lib.hid (fun W => within_any p.rest 4294967295 W)
  have WP := Lib.hid (fun W => paired_any s d W)
  rw [wi_make t0 t1] at WA
  rw [wi_make c0 c1] at WB
  rw [wi_make r0 r1] at WC
  rw [hp] at WP
  have HP := Lib.hid hp
  have H := Lib.hid h
  have q1 : ¬ (65535 : Int) < 8 + (n : Int) := by omega
  have hmk := make_bytes n (by omega)
  have e1 : IntKind.i64.wrap (p.typ * 256) = p.typ * 256 := IntWalk.i64_in _ (by omega)
  have e2 : bits .or .i64 (p.typ * 256) p.code = 256 * p.typ + p.code := or_byte t0 t1 c0 c1
  clear h hp he hwd
  go_enter Tryd.func10, Tryd.ntmps10
  go_wp2_with fail
  refine (WA.out _).mono ?_
  rintro e w' ⟨rfl, rfl⟩
  go_wp2_with fail
  refine (WB.out _).mono ?_
  rintro e w' ⟨rfl, rfl⟩
  go_wp2_with fail
  refine (WC.out _).mono ?_
  rintro e w' ⟨rfl, rfl⟩
  go_wp2_with fail
  refine (WP.out _).mono ?_
  rintro e w' ⟨rfl, rfl⟩
  go_wp2_with fail
  clear hmk k0 k1 k2 k3 WA WB WC WP q1 e1 e2
  generalize ((w.alloc (.cells #[.int .i64 p.typ, .int .i64 p.code, .int .i64 p.rest, .slice A n c] 24)).alloc (.cells (madeCells #[.int .u8 0] (8 + n)) 5)).alloc (.cells #[.int .i64 (256 * p.typ + p.code), .int .i64 0, .int .i64 (p.rest / 65536), .int .i64 p.rest] 3) = w1 at *
  go_loopw [9, 58] (fun v i wr => ∃ k : Nat, i = .int .i64 (k : Int) ∧ k ≤ 4 ∧ Hid (Owns wr (w.heap.size + 1) v (2 * k) ((hd8 p).take (2 * k))) ∧ Hid (Blk wr w.heap.size 24 #[.int .i64 p.typ, .int .i64 p.code, .int .i64 p.rest, .slice A n c]) ∧ Hid (Blk wr (w.heap.size + 2) 3 (words p)) ∧ Hid (Below w.heap.size w wr)) (fun _ i _ => 4 - (intOf i).toNat)
  case atStart => exact ⟨0, rfl, by omega, O1, U0, I1, B0⟩
  case round =>
    obtain ⟨k, rfl, hk, HO, HU, HI, HB⟩ := hrel
    clear O1 U0 I1 B0
    have hbs := HB.out.size
    have hul := HI.out.lt
    by_cases hlt : k < 4
    · obtain ⟨x, a, b, hx, e1, e2, a0, a1, b0, b1, ht⟩ := hd8_take VV.out hlt
      have T := Lib.hid ht
      have hcl := (HI.out.cell k).trans hx
      have XL := Lib.hid (Holds.lit wr [a, b] #[.int .u8 a, .int .u8 b] rfl (by simp [maxLen]) (by intro z hz; simp at hz; omega))
      have hk2 : 2 * k + 2 ≤ 1048576 := by omega
      clear hx ht
      go_wp2_with (at_builtin
                   refine wpList_append_bytes rfl (.tmp 62) (.tmp 68) rfl (w.heap.size + 1) _ _ _ rfl (HO.out.alloc _) _ _ 2 2 [a, b] rfl XL.out hk2 (by simp; omega) ?_
                   intro v' w' ho' hg' hat)
      have HU2 := Lib.hid ((HU.out.alloc (.cells #[.int .u8 a, .int .u8 b] 5)).grown hg' (owns_far HO.out (by omega)))
      have HI2 := Lib.hid ((HI.out.alloc (.cells #[.int .u8 a, .int .u8 b] 5)).grown hg' (fun e => own_other HO.out HI.out (by decide) e.symm))
      have HB2 := Lib.hid ((HB.out.alloc hbs (.cells #[.int .u8 a, .int .u8 b] 5)).grown hg' (by simp; omega) fun g hg => Nat.le_trans (Nat.le_succ _) (HO.out.lt g hg).1)
      go_roundw
      case rel => exact ⟨k + 1, by go_num, by omega, Lib.hid (by rw [T.out]; exact ho'), HU2, HI2, HB2⟩
      case measure => simp [intOf]; omega
    · obtain rfl : k = 4 := by omega
      have O4 : Hid (Owns wr (w.heap.size + 1) u9 8 (hd8 p)) := HO
      have u3 := HU.out.cell 3
      have HH := Lib.hid (H.out.below (HB.out.mono hB))
      have hsm : 8 + n ≤ 1048576 := by omega
      have hb1 : w.heap.size + 1 ≤ wr.heap.size := by omega
      have ck := p.sum_in s d l
      have EB : Hid (p.bytes s d l = p.raw (p.sum s d l) l) := Lib.hid rfl
      have hw := summ_in s d (p.raw 0 l)
      have e0 : IntKind.i64.wrap (65535 - summ s d (p.raw 0 l)) = p.sum s d l := IntWalk.i64_in _ (by omega)
      obtain ⟨K, hK⟩ : ∃ K, K = p.sum s d l := ⟨_, rfl⟩
      rw [← hK] at ck EB e0
      clear HO HI hK
      go_wp2_with (at_builtin
                   refine wpList_append_bytes rfl (.tmp 71) (.tmp 73) rfl (w.heap.size + 1) _ _ _ rfl O4.out B A n c l rfl HH.out hsm hb1 ?_
                   intro v2 w2 o2 g2 _
                   obtain ⟨A2, c2, rfl, h2⟩ := o2.slice)
      have RW : hd8 p ++ l = p.raw 0 l := hd8_raw _ _
      rw [RW] at o2 h2
      have B2 := Lib.hid (HB.out.grown g2 hbs fun g hg => Nat.le_trans (Nat.le_succ _) (O4.out.lt g hg).1)
      refine (sum_code s d A2 (8 + n) c2 _ w2 w2.heap.size h2 (Nat.le_refl _) (by omega) HP.out).mono ?_
      rintro e w3 ⟨rfl, hb⟩
      have B3 := Lib.hid (B2.out.trans (hb.mono B2.out.size))
      have o3 := o2.below hb (Nat.le_refl _)
      obtain ⟨g, rfl, hg1, hg2⟩ := o3.form (by omega)
      obtain ⟨z6, c6⟩ := o3.there 2 (by omega)
      obtain ⟨z7, c7⟩ := o3.there 3 (by omega)
      have f6 := o3.free 2 (by omega)
      have f7 := o3.free 3 (by omega)
      have hnc := h2.2.1
      have hcm := h2.2.2.1
      unfold maxLen at hcm
      have e1 : IntKind.u8.wrap (K / 256) = K / 256 := by rw [IntKind.wrap_u8]; omega
      have e2 : IntKind.u8.wrap K = K % 256 := by rw [IntKind.wrap_u8]
      have o4 := Lib.hid (o3.set 2 (K / 256) (by omega) (by omega))
      have o5 := Lib.hid (o4.out.set 3 (K % 256) (by omega) (by omega))
      have B5 := Lib.hid ((B3.out.setCell (p := ⟨g, 2, none⟩) (by show w.heap.size ≤ g; omega) (.int .u8 (K / 256))).setCell (p := ⟨g, 3, none⟩) (by show w.heap.size ≤ g; omega) (.int .u8 (K % 256)))
      have i6 : 2 < 8 + n := by omega
      have i7 : 3 < 8 + n := by omega
      have i6' : (2 : Int) < 8 + (n : Int) := by omega
      have i7' : (3 : Int) < 8 + (n : Int) := by omega
      clear hb o3 RW o2 h2 HB HU
      go_wp2_with fail
      go_ret2
      have o6 := o5.out.mono (show w.heap.size ≤ w.heap.size + 1 by omega)
      rw [raw_set] at o6
      exact ⟨_, rfl, by rw [EB.out]; exact o6, B5.out⟩
end Go.Proofs.YthmleabmklnmcaaDoor.IcmC
