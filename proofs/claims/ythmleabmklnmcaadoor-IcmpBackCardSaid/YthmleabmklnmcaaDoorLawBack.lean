/- The law IcmpBack. -/
import Derived.Test.YthmleabmklnmcaaDoorLawLays
import Derived.Test.YthmleabmklnmcaaDoorLawParses
set_option linter.unusedVariables false
namespace Go.Proofs.YthmleabmklnmcaaDoor.LawBack
open Go.RowKit Go.Sort Go.Proofs.YthmleabmklnmcaaDoor.Sums Go.Proofs.YthmleabmklnmcaaDoor.Words Go.Proofs.YthmleabmklnmcaaDoor.Mem Go.Proofs.YthmleabmklnmcaaDoor.Ahead Go.Proofs.YthmleabmklnmcaaDoor.IcmD Go.Proofs.YthmleabmklnmcaaDoor.Blk Go.Proofs.YthmleabmklnmcaaDoor.Bits Go.Proofs.YthmleabmklnmcaaDoor.InetSum Go.Proofs.YthmleabmklnmcaaDoor.Steps Go.Proofs.YthmleabmklnmcaaDoor.Free Go.Proofs.YthmleabmklnmcaaDoor.Cut
open Go.Proofs.YthmleabmklnmcaaDoor.Com Go.Proofs.YthmleabmklnmcaaDoor.Fam Go.Proofs.YthmleabmklnmcaaDoor.Kind Go.Proofs.YthmleabmklnmcaaDoor.Make Go.Proofs.YthmleabmklnmcaaDoor.IcmC Go.Proofs.YthmleabmklnmcaaDoor.IcmP Go.Proofs.YthmleabmklnmcaaDoor.IcmR Go.Proofs.YthmleabmklnmcaaDoor.IcmA Go.Proofs.YthmleabmklnmcaaDoor.LawAnswers

theorem bytes_any (p : Ic) (A : Option Addr) (n c : Nat) (l : List Int) (s d : ByteArray) (w : World) (B : Nat) (h : Holds w B A n c l) (hB : B ≤ w.heap.size) (hn : n ≤ 1048576) :
    Calls Tryd.prog 10 #[.agg #[.int .i64 p.typ, .int .i64 p.code, .int .i64 p.rest, .slice A n c], .string s, .string d] w fun e w' => ∃ v, e = .returned (.tuple #[v, .int .i64 (p.err s d n)]) ∧ (p.err s d n = 0 → Owns w' w.heap.size v (8 + n) (p.bytes s d l)) ∧ Below w.heap.size w w' := by
  by_cases he : p.err s d n = 0
  · refine (bytes_ok p A n c l s d w B h hB he).mono ?_
    rintro e w' ⟨v, rfl, o, hb⟩
    exact ⟨v, by rw [he], fun _ => o, hb⟩
  · refine (bytes_err p A n c s d w hn he).mono ?_
    rintro e w' ⟨rfl, hb⟩
    exact ⟨_, rfl, fun q => absurd q he, hb⟩
theorem back_facts {p : Ic} {s d : ByteArray} {l : List Int} {n : Nat} (hl : Bytes l) (hn : l.length = n) (h : p.err s d n = 0) : perr (p.bytes s d l) s d = 0 ∧ icOf (p.bytes s d l) = p ∧ (p.bytes s d l).drop 8 = l := by
  subst hn
  exact ⟨bytes_perr h hl, raw_ic (Ic.err_zero h).1 _ _, rfl⟩

theorem back_no (p : Ic) (A : Option Addr) (n c : Nat) (s d : ByteArray) (k : Int) (w : World) (h1 : s.size ≤ 140737488355328) (h2 : d.size ≤ 140737488355328) (h3 : n ≤ 140737488355328) (hf : fewB s d n = false) :
    Calls Tryd.prog 6 #[.agg #[.int .i64 p.typ, .int .i64 p.code, .int .i64 p.rest, .slice A n c], .string s, .string d, .int .i64 k] w (Yes w) := by
  have B0 := Lib.hid ((Below.refl w.heap.size w).alloc (Nat.le_refl _) (.cells #[.int .i64 p.typ, .int .i64 p.code, .int .i64 p.rest, .slice A n c] 24))
  have P0 := Lib.hid (Blk.new w 24 #[.int .i64 p.typ, .int .i64 p.code, .int .i64 p.rest, .slice A n c])
  have F := Lib.hid (fun W => few_any p A n c s d W h1 h2 h3)
  rw [hf] at F
  clear hf
  go_enter Tryd.func6, Tryd.ntmps6
  go_wp2_with (refine Loads.wpList_load_w rfl 24 (.tmp 4) rfl w.heap.size rfl 24 #[.int .i64 p.typ, .int .i64 p.code, .int .i64 p.rest, .slice A n c] (0, 0) _ P0.out (Tryd.underlying24) rfl (by kernel_rfl) ?_)
  refine (F.out _).mono ?_
  rintro e w1 ⟨rfl, hb⟩
  have B1 := Lib.hid (B0.out.trans (hb.mono B0.out.size))
  clear hb
  go_wp2_with fail
  go_ret
  exact ⟨rfl, B1.out⟩

set_option maxHeartbeats 4000000 in
set_option maxRecDepth 100000 in
theorem back_err (p : Ic) (A : Option Addr) (n c : Nat) (l : List Int) (s d : ByteArray) (k : Int) (w : World) (h : Holds w w.heap.size A n c l) (h1 : s.size ≤ 140737488355328) (h2 : d.size ≤ 140737488355328) (h3 : n ≤ 140737488355328) (hf : fewB s d n = true) (hfam : Fam w) (wide : Bool) (hw : ((s.size : Int) == 16) = wide) (he : p.err s d n ≠ 0) :
    Calls Tryd.prog 6 #[.agg #[.int .i64 p.typ, .int .i64 p.code, .int .i64 p.rest, .slice A n c], .string s, .string d, .int .i64 k] w (Yes w) := by
  have B0 := Lib.hid ((Below.refl w.heap.size w).alloc (Nat.le_refl _) (.cells #[.int .i64 p.typ, .int .i64 p.code, .int .i64 p.rest, .slice A n c] 24))
  have P0 := Lib.hid (Blk.new w 24 #[.int .i64 p.typ, .int .i64 p.code, .int .i64 p.rest, .slice A n c])
  have F := Lib.hid (fun W => few_any p A n c s d W h1 h2 h3)
  have n66 : n ≤ 66000 := (few_true hf).2
  rw [hf] at F
  have HE := Lib.hid he
  have HL := Lib.hid h
  have F0 := Lib.hid hfam
  clear hf h he hfam
  go_enter Tryd.func6, Tryd.ntmps6
  go_wp2_with (refine Loads.wpList_load_w rfl 24 (.tmp 4) rfl w.heap.size rfl 24 #[.int .i64 p.typ, .int .i64 p.code, .int .i64 p.rest, .slice A n c] (0, 0) _ P0.out (Tryd.underlying24) rfl (by kernel_rfl) ?_)
  refine (F.out _).mono ?_
  rintro e w1 ⟨rfl, hb⟩
  have B1 := Lib.hid (B0.out.trans (hb.mono B0.out.size))
  have P1 := Lib.hid (P0.out.below hb P0.out.lt)
  clear hb P0 F B0
  go_wp2_with (refine Loads.wpList_load_w rfl 24 (.tmp 4) rfl w.heap.size rfl 24 #[.int .i64 p.typ, .int .i64 p.code, .int .i64 p.rest, .slice A n c] (0, 0) _ P1.out (Tryd.underlying24) rfl (by kernel_rfl) ?_)
  have h0 : (p.err s d n == 0) = false := by rw [beq_eq_false_iff_ne]; exact HE.out
  refine (bytes_err p A n c s d w1 (by omega) HE.out).mono ?_
  rintro e w2 ⟨rfl, hb⟩
  have B2 := Lib.hid (B1.out.trans (hb.mono B1.out.size))
  have P2 := Lib.hid (P1.out.below hb P1.out.lt)
  clear hb P1
  generalize p.err s d n = pe0 at *
  have p2 := P2.out.cell 2
  have p3 := P2.out.cell 3
  go_wp2_with fail
  refine (make_any k wide p.rest A n c l w2 w.heap.size (HL.out.below B2.out) B2.out.size (by omega) (F0.out.below B2.out)).mono ?_
  rintro e wm ⟨gm, hb⟩
  have BM := Lib.hid (B2.out.trans (hb.mono B2.out.size))
  have PM := Lib.hid (P2.out.below hb P2.out.lt)
  clear hb p2 p3 B2 P2
  rcases gm with ⟨mz, A1, c1, rfl, o1⟩ | ⟨mz, rfl⟩
  · have kb := mk_zero mz
    have MK := Lib.hid (made_kind kb.1 kb.2.1 wide)
    obtain ⟨x, hx⟩ : ∃ x : Ic, x = ⟨(made k wide).1, (made k wide).2, p.rest⟩ := ⟨_, rfl⟩
    have xr : x.rest = p.rest := by rw [hx]
    have XK : Hid (kind x.typ x.code wide = k) := Lib.hid (by rw [hx]; exact MK.out)
    have XT : Hid ((made k wide).1 = x.typ) := Lib.hid (by rw [hx])
    have XC : Hid ((made k wide).2 = x.code) := Lib.hid (by rw [hx])
    have XR := Lib.hid xr
    rw [show (Value.int .i64 (made k wide).1) = .int .i64 x.typ from congrArg _ XT.out, show (Value.int .i64 (made k wide).2) = .int .i64 x.code from congrArg _ XC.out, show (Value.int .i64 p.rest) = .int .i64 x.rest from congrArg _ xr.symm]
    have H1 := o1.holds
    have X2 := Lib.hid (Blk.new wm 24 #[.int .i64 x.typ, .int .i64 x.code, .int .i64 x.rest, .slice A1 n c1])
    have B2 := Lib.hid (BM.out.alloc BM.out.size (.cells #[.int .i64 x.typ, .int .i64 x.code, .int .i64 x.rest, .slice A1 n c1] 24))
    have P2 := Lib.hid (PM.out.alloc (.cells #[.int .i64 x.typ, .int .i64 x.code, .int .i64 x.rest, .slice A1 n c1] 24))
    have g2 := (Below.refl _ wm).alloc (Nat.le_refl _) (.cells #[.int .i64 x.typ, .int .i64 x.code, .int .i64 x.rest, .slice A1 n c1] 24)
    have H2 := Lib.hid ((H1.below g2).more g2.size)
    clear g2 H1 o1 kb MK mz hx xr XT XC BM PM
    go_wp2_with (refine Loads.wpList_load_w rfl 24 (.tmp 14) rfl wm.heap.size rfl 24 #[.int .i64 x.typ, .int .i64 x.code, .int .i64 x.rest, .slice A1 n c1] (0, 0) _ X2.out (Tryd.underlying24) rfl (by kernel_rfl) ?_)
    refine (bytes_any x A1 n c1 l s d _ _ H2.out (Nat.le_refl _) (by omega)).mono ?_
    rintro e w3 ⟨v3, rfl, o3, hb⟩
    have B3 := Lib.hid (B2.out.trans (hb.mono B2.out.size))
    have P3 := Lib.hid (P2.out.below hb P2.out.lt)
    clear hb B2 P2 X2
    by_cases xe : x.err s d n = 0
    · have bf := back_facts HL.out.2.2.2.1 HL.out.1 xe
      have o4 := o3 xe
      rw [xe]
      obtain ⟨LB, hLB⟩ : ∃ LB, LB = x.bytes s d l := ⟨_, rfl⟩
      rw [← hLB] at bf o4
      have PE := Lib.hid bf.1
      have IC := Lib.hid bf.2.1
      have DR := Lib.hid bf.2.2
      obtain ⟨m8, hm8⟩ : ∃ m8, m8 = 8 + n := ⟨_, rfl⟩
      rw [← hm8] at o4
      obtain ⟨A3, c3, rfl, h3'⟩ := o4.slice
      have H3 := Lib.hid h3'
      have hm9 : m8 ≤ 1048576 := by omega
      have HM8 := Lib.hid hm8
      clear bf o4 o3 h3' hLB xe hm8
      go_wp2_with fail
      refine (parse_any s d A3 m8 c3 LB w3 w3.heap.size H3.out (Nat.le_refl _) hm9).mono ?_
      rintro e w4 ⟨g4, hb⟩
      have B4 := Lib.hid (B3.out.trans (hb.mono B3.out.size))
      have P4 := Lib.hid (P3.out.below hb P3.out.lt)
      clear hb
      rcases g4 with ⟨_, A4, n4, c4, rfl, o4⟩ | ⟨q4, _⟩
      case inr => exact absurd PE.out q4
      rw [IC.out]
      rw [DR.out] at o4
      have h4 := o4.holds
      have Y5 := Lib.hid (Blk.new w4 24 #[.int .i64 x.typ, .int .i64 x.code, .int .i64 x.rest, .slice A4 n4 c4])
      have B5 := Lib.hid (B4.out.alloc B4.out.size (.cells #[.int .i64 x.typ, .int .i64 x.code, .int .i64 x.rest, .slice A4 n4 c4] 24))
      have P5 := Lib.hid (P4.out.alloc (.cells #[.int .i64 x.typ, .int .i64 x.code, .int .i64 x.rest, .slice A4 n4 c4] 24))
      have g5 := (Below.refl _ w4).alloc (Nat.le_refl _) (.cells #[.int .i64 x.typ, .int .i64 x.code, .int .i64 x.rest, .slice A4 n4 c4] 24)
      have H5 := Lib.hid ((h4.below g5).more g5.size)
      clear B3 P3 B4 P4 g5 h4 o4 H3 PE DR
      go_wp2_with fail
      refine (awake_any _ (F0.out.below B5.out)).mono ?_
      rintro e w6 ⟨rfl, hb⟩
      have B6 := Lib.hid (B5.out.trans (hb.mono B5.out.size))
      have P6 := Lib.hid (P5.out.below hb P5.out.lt)
      have Y6 := Lib.hid (Y5.out.below hb Y5.out.lt)
      have H6 := Lib.hid ((H5.out.below hb).more hb.size)
      clear hb B5 P5 Y5 H5
      go_wp2_with (refine Loads.wpList_load_w rfl 24 (.tmp 18) rfl w4.heap.size rfl 24 #[.int .i64 x.typ, .int .i64 x.code, .int .i64 x.rest, .slice A4 n4 c4] (0, 0) _ Y6.out (Tryd.underlying24) rfl (by kernel_rfl) ?_)
      refine (kind_any x wide A4 n4 c4 w6 (F0.out.below B6.out)).mono ?_
      rintro e w7 ⟨rfl, hb⟩
      rw [XK.out]
      have B7 := Lib.hid (B6.out.trans (hb.mono B6.out.size))
      have P7 := P6.out.below hb P6.out.lt
      have Y7 := Y6.out.below hb Y6.out.lt
      have a2 := P7.cell 2
      have a3 := P7.cell 3
      have b2 := Y7.cell 2
      have b3 := Y7.cell 3
      have xr : x.rest = p.rest := XR.out
      have v1 : (convert 22 9 (.slice A4 n4 c4)).run Tryd.prog w7 = .ok (.string (strOfNums l)) w7 := run_string_bytes (H6.out.below hb)
      have v2 : (convert 22 9 (.slice A n c)).run Tryd.prog w7 = .ok (.string (strOfNums l)) w7 := run_string_bytes (HL.out.below B7.out)
      clear hb B6 P6 Y6 H6 P7 Y7
      generalize strOfNums l = bstr at *
      go_wp2_with fail
      go_ret
      exact ⟨rfl, B7.out⟩
    · obtain ⟨xx, hxx⟩ : ∃ xx, xx = x.err s d n := ⟨_, rfl⟩
      have xn : (xx != 0) = true := by rw [bne_iff_ne, hxx]; exact xe
      rw [← hxx]
      clear o3 xe hxx
      go_wp2_with fail
      refine (awake_any _ (F0.out.below B3.out)).mono ?_
      rintro e w4 ⟨rfl, hb⟩
      have B4 := Lib.hid (B3.out.trans (hb.mono B3.out.size))
      clear hb
      go_wp2_with fail
      go_ret
      exact ⟨rfl, B4.out⟩
  · have X2 := Lib.hid (Blk.new wm 24 #[.int .i64 0, .int .i64 0, .int .i64 0, .slice none 0 0])
    have B2 := Lib.hid (BM.out.alloc BM.out.size (.cells #[.int .i64 0, .int .i64 0, .int .i64 0, .slice none 0 0] 24))
    go_wp2_with (refine Loads.wpList_load_w rfl 24 (.tmp 14) rfl wm.heap.size rfl 24 #[.int .i64 0, .int .i64 0, .int .i64 0, .slice none 0 0] (0, 0) _ X2.out (Tryd.underlying24) rfl (by kernel_rfl) ?_)
    refine (bytes_any Ic.zero none 0 0 [] s d _ 0 (Holds.nil _ _ _) (Nat.zero_le _) (by omega)).mono ?_
    rintro e w3 ⟨v3, rfl, o3, hb⟩
    have B3 := Lib.hid (B2.out.trans (hb.mono B2.out.size))
    clear hb B2 X2 o3
    go_wp2_with fail
    refine (awake_any _ (F0.out.below B3.out)).mono ?_
    rintro e w4 ⟨rfl, hb⟩
    have B4 := Lib.hid (B3.out.trans (hb.mono B3.out.size))
    clear hb
    go_wp2_with fail
    go_ret
    exact ⟨rfl, B4.out⟩

set_option maxHeartbeats 4000000 in
set_option maxRecDepth 100000 in
theorem back_ok (p : Ic) (A : Option Addr) (n c : Nat) (l : List Int) (s d : ByteArray) (k : Int) (w : World) (h : Holds w w.heap.size A n c l) (h1 : s.size ≤ 140737488355328) (h2 : d.size ≤ 140737488355328) (h3 : n ≤ 140737488355328) (hf : fewB s d n = true) (hfam : Fam w) (wide : Bool) (hw : ((s.size : Int) == 16) = wide) (he : p.err s d n = 0) :
    Calls Tryd.prog 6 #[.agg #[.int .i64 p.typ, .int .i64 p.code, .int .i64 p.rest, .slice A n c], .string s, .string d, .int .i64 k] w (Yes w) := by
  have B0 := Lib.hid ((Below.refl w.heap.size w).alloc (Nat.le_refl _) (.cells #[.int .i64 p.typ, .int .i64 p.code, .int .i64 p.rest, .slice A n c] 24))
  have P0 := Lib.hid (Blk.new w 24 #[.int .i64 p.typ, .int .i64 p.code, .int .i64 p.rest, .slice A n c])
  have F := Lib.hid (fun W => few_any p A n c s d W h1 h2 h3)
  have n66 : n ≤ 66000 := (few_true hf).2
  rw [hf] at F
  have HE := Lib.hid he
  have HL := Lib.hid h
  have F0 := Lib.hid hfam
  clear hf h he hfam
  go_enter Tryd.func6, Tryd.ntmps6
  go_wp2_with (refine Loads.wpList_load_w rfl 24 (.tmp 4) rfl w.heap.size rfl 24 #[.int .i64 p.typ, .int .i64 p.code, .int .i64 p.rest, .slice A n c] (0, 0) _ P0.out (Tryd.underlying24) rfl (by kernel_rfl) ?_)
  refine (F.out _).mono ?_
  rintro e w1 ⟨rfl, hb⟩
  have B1 := Lib.hid (B0.out.trans (hb.mono B0.out.size))
  have P1 := Lib.hid (P0.out.below hb P0.out.lt)
  clear hb P0 F B0
  go_wp2_with (refine Loads.wpList_load_w rfl 24 (.tmp 4) rfl w.heap.size rfl 24 #[.int .i64 p.typ, .int .i64 p.code, .int .i64 p.rest, .slice A n c] (0, 0) _ P1.out (Tryd.underlying24) rfl (by kernel_rfl) ?_)
  have BF := Lib.hid (back_facts HL.out.2.2.2.1 HL.out.1 HE.out)
  refine (bytes_ok p A n c l s d w1 w.heap.size (HL.out.below B1.out) B1.out.size HE.out).mono ?_
  rintro e w2 ⟨v2, rfl, ov, hb⟩
  have B2 := Lib.hid (B1.out.trans (hb.mono B1.out.size))
  have P2 := Lib.hid (P1.out.below hb P1.out.lt)
  obtain ⟨LB, hLB⟩ : ∃ LB, LB = p.bytes s d l := ⟨_, rfl⟩
  rw [← hLB] at ov BF
  obtain ⟨Ab, cb, rfl, hv⟩ := ov.slice
  have HV := Lib.hid hv
  clear hb P1 ov hv hLB
  go_wp2_with fail
  refine (parse_any s d Ab (8 + n) cb LB w2 w2.heap.size HV.out (Nat.le_refl _) (by omega)).mono ?_
  rintro e w3 ⟨g3, hb⟩
  have B3 := Lib.hid (B2.out.trans (hb.mono B2.out.size))
  have P3 := Lib.hid (P2.out.below hb P2.out.lt)
  clear hb
  rcases g3 with ⟨_, A6, n6, c6, rfl, o6⟩ | ⟨q3, _⟩
  case inr => exact absurd BF.out.1 q3
  rw [BF.out.2.1]
  rw [BF.out.2.2] at o6
  obtain rfl : n6 = n := by have a := o6.len; have b := HL.out.1; omega
  have h6 := o6.holds
  have Q4 := Lib.hid (Blk.new w3 24 #[.int .i64 p.typ, .int .i64 p.code, .int .i64 p.rest, .slice A6 n6 c6])
  have B4 := Lib.hid (B3.out.alloc B3.out.size (.cells #[.int .i64 p.typ, .int .i64 p.code, .int .i64 p.rest, .slice A6 n6 c6] 24))
  have P4 := Lib.hid (P3.out.alloc (.cells #[.int .i64 p.typ, .int .i64 p.code, .int .i64 p.rest, .slice A6 n6 c6] 24))
  have g4 := (Below.refl _ w3).alloc (Nat.le_refl _) (.cells #[.int .i64 p.typ, .int .i64 p.code, .int .i64 p.rest, .slice A6 n6 c6] 24)
  have SY := Lib.hid (same_yes p A n6 c A6 n6 c6 l _ _ ((HL.out.below B4.out).more B4.out.size) ((h6.below g4).more g4.size) (Nat.le_refl _))
  clear h6 o6 g4 B2 P2 B3 P3 HV BF
  go_wp2_with (first
    | (refine Loads.wpList_load_w rfl 24 (.tmp 4) rfl w.heap.size rfl 24 #[.int .i64 p.typ, .int .i64 p.code, .int .i64 p.rest, .slice A n6 c] (0, 0) _ P4.out (Tryd.underlying24) rfl (by kernel_rfl) ?_)
    | (refine Loads.wpList_load_w rfl 24 (.tmp 11) rfl w3.heap.size rfl 24 #[.int .i64 p.typ, .int .i64 p.code, .int .i64 p.rest, .slice A6 n6 c6] (0, 0) _ Q4.out (Tryd.underlying24) rfl (by kernel_rfl) ?_))
  refine SY.out.mono ?_
  rintro e w5 ⟨rfl, hb⟩
  have B5 := Lib.hid (B4.out.trans (hb.mono B4.out.size))
  have P5 := Lib.hid (P4.out.below hb P4.out.lt)
  have gl : (((8 + n6 : Nat) : Int) != 8 + (n6 : Int)) = false := by rw [bne_eq_false_iff_eq]; omega
  clear hb P4 B4 Q4 SY
  have p2 := P5.out.cell 2
  have p3 := P5.out.cell 3
  go_wp2_with fail
  refine (make_any k wide p.rest A n6 c l w5 w.heap.size (HL.out.below B5.out) B5.out.size (by omega) (F0.out.below B5.out)).mono ?_
  rintro e wm ⟨gm, hb⟩
  have BM := Lib.hid (B5.out.trans (hb.mono B5.out.size))
  have PM := Lib.hid (P5.out.below hb P5.out.lt)
  clear hb p2 p3 B5 P5
  rcases gm with ⟨mz, A1, c1, rfl, o1⟩ | ⟨mz, rfl⟩
  · have kb := mk_zero mz
    have MK := Lib.hid (made_kind kb.1 kb.2.1 wide)
    obtain ⟨x, hx⟩ : ∃ x : Ic, x = ⟨(made k wide).1, (made k wide).2, p.rest⟩ := ⟨_, rfl⟩
    have xr : x.rest = p.rest := by rw [hx]
    have XK : Hid (kind x.typ x.code wide = k) := Lib.hid (by rw [hx]; exact MK.out)
    have XT : Hid ((made k wide).1 = x.typ) := Lib.hid (by rw [hx])
    have XC : Hid ((made k wide).2 = x.code) := Lib.hid (by rw [hx])
    have XR := Lib.hid xr
    rw [show (Value.int .i64 (made k wide).1) = .int .i64 x.typ from congrArg _ XT.out, show (Value.int .i64 (made k wide).2) = .int .i64 x.code from congrArg _ XC.out, show (Value.int .i64 p.rest) = .int .i64 x.rest from congrArg _ xr.symm]
    have H1 := o1.holds
    have X2 := Lib.hid (Blk.new wm 24 #[.int .i64 x.typ, .int .i64 x.code, .int .i64 x.rest, .slice A1 n6 c1])
    have B2 := Lib.hid (BM.out.alloc BM.out.size (.cells #[.int .i64 x.typ, .int .i64 x.code, .int .i64 x.rest, .slice A1 n6 c1] 24))
    have P2 := Lib.hid (PM.out.alloc (.cells #[.int .i64 x.typ, .int .i64 x.code, .int .i64 x.rest, .slice A1 n6 c1] 24))
    have g2 := (Below.refl _ wm).alloc (Nat.le_refl _) (.cells #[.int .i64 x.typ, .int .i64 x.code, .int .i64 x.rest, .slice A1 n6 c1] 24)
    have H2 := Lib.hid ((H1.below g2).more g2.size)
    clear g2 H1 o1 kb MK mz hx xr XT XC BM PM
    go_wp2_with (refine Loads.wpList_load_w rfl 24 (.tmp 14) rfl wm.heap.size rfl 24 #[.int .i64 x.typ, .int .i64 x.code, .int .i64 x.rest, .slice A1 n6 c1] (0, 0) _ X2.out (Tryd.underlying24) rfl (by kernel_rfl) ?_)
    refine (bytes_any x A1 n6 c1 l s d _ _ H2.out (Nat.le_refl _) (by omega)).mono ?_
    rintro e w3 ⟨v3, rfl, o3, hb⟩
    have B3 := Lib.hid (B2.out.trans (hb.mono B2.out.size))
    have P3 := Lib.hid (P2.out.below hb P2.out.lt)
    clear hb B2 P2 X2
    by_cases xe : x.err s d n6 = 0
    · have bf := back_facts HL.out.2.2.2.1 HL.out.1 xe
      have o4 := o3 xe
      rw [xe]
      obtain ⟨LB, hLB⟩ : ∃ LB, LB = x.bytes s d l := ⟨_, rfl⟩
      rw [← hLB] at bf o4
      have PE := Lib.hid bf.1
      have IC := Lib.hid bf.2.1
      have DR := Lib.hid bf.2.2
      obtain ⟨m8, hm8⟩ : ∃ m8, m8 = 8 + n6 := ⟨_, rfl⟩
      rw [← hm8] at o4
      obtain ⟨A3, c3, rfl, h3'⟩ := o4.slice
      have H3 := Lib.hid h3'
      have hm9 : m8 ≤ 1048576 := by omega
      have HM8 := Lib.hid hm8
      clear bf o4 o3 h3' hLB xe hm8
      go_wp2_with fail
      refine (parse_any s d A3 m8 c3 LB w3 w3.heap.size H3.out (Nat.le_refl _) hm9).mono ?_
      rintro e w4 ⟨g4, hb⟩
      have B4 := Lib.hid (B3.out.trans (hb.mono B3.out.size))
      have P4 := Lib.hid (P3.out.below hb P3.out.lt)
      clear hb
      rcases g4 with ⟨_, A4, n4, c4, rfl, o4⟩ | ⟨q4, _⟩
      case inr => exact absurd PE.out q4
      rw [IC.out]
      rw [DR.out] at o4
      have h4 := o4.holds
      have Y5 := Lib.hid (Blk.new w4 24 #[.int .i64 x.typ, .int .i64 x.code, .int .i64 x.rest, .slice A4 n4 c4])
      have B5 := Lib.hid (B4.out.alloc B4.out.size (.cells #[.int .i64 x.typ, .int .i64 x.code, .int .i64 x.rest, .slice A4 n4 c4] 24))
      have P5 := Lib.hid (P4.out.alloc (.cells #[.int .i64 x.typ, .int .i64 x.code, .int .i64 x.rest, .slice A4 n4 c4] 24))
      have g5 := (Below.refl _ w4).alloc (Nat.le_refl _) (.cells #[.int .i64 x.typ, .int .i64 x.code, .int .i64 x.rest, .slice A4 n4 c4] 24)
      have H5 := Lib.hid ((h4.below g5).more g5.size)
      clear B3 P3 B4 P4 g5 h4 o4 H3 PE DR
      go_wp2_with fail
      refine (awake_any _ (F0.out.below B5.out)).mono ?_
      rintro e w6 ⟨rfl, hb⟩
      have B6 := Lib.hid (B5.out.trans (hb.mono B5.out.size))
      have P6 := Lib.hid (P5.out.below hb P5.out.lt)
      have Y6 := Lib.hid (Y5.out.below hb Y5.out.lt)
      have H6 := Lib.hid ((H5.out.below hb).more hb.size)
      clear hb B5 P5 Y5 H5
      go_wp2_with (refine Loads.wpList_load_w rfl 24 (.tmp 18) rfl w4.heap.size rfl 24 #[.int .i64 x.typ, .int .i64 x.code, .int .i64 x.rest, .slice A4 n4 c4] (0, 0) _ Y6.out (Tryd.underlying24) rfl (by kernel_rfl) ?_)
      refine (kind_any x wide A4 n4 c4 w6 (F0.out.below B6.out)).mono ?_
      rintro e w7 ⟨rfl, hb⟩
      rw [XK.out]
      have B7 := Lib.hid (B6.out.trans (hb.mono B6.out.size))
      have P7 := P6.out.below hb P6.out.lt
      have Y7 := Y6.out.below hb Y6.out.lt
      have a2 := P7.cell 2
      have a3 := P7.cell 3
      have b2 := Y7.cell 2
      have b3 := Y7.cell 3
      have xr : x.rest = p.rest := XR.out
      have v1 : (convert 22 9 (.slice A4 n4 c4)).run Tryd.prog w7 = .ok (.string (strOfNums l)) w7 := run_string_bytes (H6.out.below hb)
      have v2 : (convert 22 9 (.slice A n6 c)).run Tryd.prog w7 = .ok (.string (strOfNums l)) w7 := run_string_bytes (HL.out.below B7.out)
      clear hb B6 P6 Y6 H6 P7 Y7
      generalize strOfNums l = bstr at *
      go_wp2_with fail
      go_ret
      exact ⟨rfl, B7.out⟩
    · obtain ⟨xx, hxx⟩ : ∃ xx, xx = x.err s d n6 := ⟨_, rfl⟩
      have xn : (xx != 0) = true := by rw [bne_iff_ne, hxx]; exact xe
      rw [← hxx]
      clear o3 xe hxx
      go_wp2_with fail
      refine (awake_any _ (F0.out.below B3.out)).mono ?_
      rintro e w4 ⟨rfl, hb⟩
      have B4 := Lib.hid (B3.out.trans (hb.mono B3.out.size))
      clear hb
      go_wp2_with fail
      go_ret
      exact ⟨rfl, B4.out⟩
  · have X2 := Lib.hid (Blk.new wm 24 #[.int .i64 0, .int .i64 0, .int .i64 0, .slice none 0 0])
    have B2 := Lib.hid (BM.out.alloc BM.out.size (.cells #[.int .i64 0, .int .i64 0, .int .i64 0, .slice none 0 0] 24))
    go_wp2_with (refine Loads.wpList_load_w rfl 24 (.tmp 14) rfl wm.heap.size rfl 24 #[.int .i64 0, .int .i64 0, .int .i64 0, .slice none 0 0] (0, 0) _ X2.out (Tryd.underlying24) rfl (by kernel_rfl) ?_)
    refine (bytes_any Ic.zero none 0 0 [] s d _ 0 (Holds.nil _ _ _) (Nat.zero_le _) (by omega)).mono ?_
    rintro e w3 ⟨v3, rfl, o3, hb⟩
    have B3 := Lib.hid (B2.out.trans (hb.mono B2.out.size))
    clear hb B2 X2 o3
    go_wp2_with fail
    refine (awake_any _ (F0.out.below B3.out)).mono ?_
    rintro e w4 ⟨rfl, hb⟩
    have B4 := Lib.hid (B3.out.trans (hb.mono B3.out.size))
    clear hb
    go_wp2_with fail
    go_ret
    exact ⟨rfl, B4.out⟩

theorem back_any (p : Ic) (A : Option Addr) (n c : Nat) (l : List Int) (s d : ByteArray) (k : Int) (w : World) (h : Holds w w.heap.size A n c l) (h1 : s.size ≤ 140737488355328) (h2 : d.size ≤ 140737488355328) (h3 : n ≤ 140737488355328) (hfam : Fam w) :
    Calls Tryd.prog 6 #[.agg #[.int .i64 p.typ, .int .i64 p.code, .int .i64 p.rest, .slice A n c], .string s, .string d, .int .i64 k] w (Yes w) := by
  cases hf : fewB s d n with
  | false => exact back_no p A n c s d k w h1 h2 h3 hf
  | true =>
    by_cases hk : p.err s d n = 0
    · exact back_ok p A n c l s d k w h h1 h2 h3 hf hfam _ rfl hk
    · exact back_err p A n c l s d k w h h1 h2 h3 hf hfam _ rfl hk
end Go.Proofs.YthmleabmklnmcaaDoor.LawBack
