/- The law UdpBack. -/
import Derived.Test.YtmpioomhimldaaaLawTurned
set_option linter.unusedVariables false
namespace Go.Proofs.Ytmpioomhimldaaa.LawBack
open Go.RowKit Go.Sort Go.Proofs.Ytmpioomhimldaaa.Sums Go.Proofs.Ytmpioomhimldaaa.Words Go.Proofs.Ytmpioomhimldaaa.Mem Go.Proofs.Ytmpioomhimldaaa.Dat Go.Proofs.Ytmpioomhimldaaa.Blk Go.Proofs.Ytmpioomhimldaaa.Bits Go.Proofs.Ytmpioomhimldaaa.InetSum Go.Proofs.Ytmpioomhimldaaa.Steps Go.Proofs.Ytmpioomhimldaaa.Free Go.Proofs.Ytmpioomhimldaaa.Cut Go.Proofs.Ytmpioomhimldaaa.Udp
open Go.Proofs.Ytmpioomhimldaaa.UdpA Go.Proofs.Ytmpioomhimldaaa.UdpR Go.Proofs.Ytmpioomhimldaaa.LawParses Go.Proofs.Ytmpioomhimldaaa.LawTurned

theorem back_no (a b : Int) (A : Option Addr) (n c : Nat) (l : List Int) (A2 : Option Addr) (n2 c2 : Nat) (s d : ByteArray) (w : World) (h : Got a b A n c l s d w) (hf : fewB s d n = false) :
    Calls Try.prog 5 #[.agg #[.int .i64 a, .int .i64 b, .slice A n c], .slice A2 n2 c2, .string s, .string d] w (Yes w) := by
  have B0 := Lib.hid ((Below.refl w.heap.size w).alloc (Nat.le_refl _) (.cells #[.int .i64 a, .int .i64 b, .slice A n c] 24))
  have F := Lib.hid (fun W => few_any a b A n c s d W h.s1 h.d1 h.n1)
  rw [hf] at F
  clear hf h
  go_enter Try.func5, Try.ntmps5
  go_wp2_with fail
  refine (F.out _).mono ?_
  rintro e w1 ⟨rfl, hb⟩
  have B1 := Lib.hid (B0.out.trans (hb.mono B0.out.size))
  clear hb
  go_wp2_with fail
  go_ret
  exact ⟨rfl, B1.out⟩
theorem back_big (a b : Int) (A : Option Addr) (n c : Nat) (l : List Int) (A2 : Option Addr) (n2 c2 : Nat) (s d : ByteArray) (w : World) (h : Got a b A n c l s d w) (hf : fewB s d n = true) (h4 : 3000 < n2) :
    Calls Try.prog 5 #[.agg #[.int .i64 a, .int .i64 b, .slice A n c], .slice A2 n2 c2, .string s, .string d] w (Yes w) := by
  have B0 := Lib.hid ((Below.refl w.heap.size w).alloc (Nat.le_refl _) (.cells #[.int .i64 a, .int .i64 b, .slice A n c] 24))
  have F := Lib.hid (fun W => few_any a b A n c s d W h.s1 h.d1 h.n1)
  rw [hf] at F
  have b4 : ((3000 : Int) < (n2 : Int)) = True := eq_true (by omega)
  clear hf h h4
  go_enter Try.func5, Try.ntmps5
  go_wp2_with fail
  refine (F.out _).mono ?_
  rintro e w1 ⟨rfl, hb⟩
  have B1 := Lib.hid (B0.out.trans (hb.mono B0.out.size))
  clear hb
  go_wp2_with fail
  go_ret
  exact ⟨rfl, B1.out⟩

set_option maxHeartbeats 4000000 in
set_option maxRecDepth 100000 in
theorem back_err (a b : Int) (A : Option Addr) (n c : Nat) (l : List Int) (A2 : Option Addr) (n2 c2 : Nat) (l2 : List Int) (s d : ByteArray) (w : World) (h : Got a b A n c l s d w) (h2 : Holds w w.heap.size A2 n2 c2 l2) (hf : fewB s d n = true) (h4 : n2 ≤ 3000) (he : err a b s d n ≠ 0) :
    Calls Try.prog 5 #[.agg #[.int .i64 a, .int .i64 b, .slice A n c], .slice A2 n2 c2, .string s, .string d] w (Yes w) := by
  have B0 := Lib.hid ((Below.refl w.heap.size w).alloc (Nat.le_refl _) (.cells #[.int .i64 a, .int .i64 b, .slice A n c] 24))
  have P0 := Lib.hid (Blk.new w 24 #[.int .i64 a, .int .i64 b, .slice A n c])
  have F := Lib.hid (fun W => few_any a b A n c s d W h.s1 h.d1 h.n1)
  have n66 := (few_true hf).2
  rw [hf] at F
  have HE := Lib.hid he
  have HL := Lib.hid h.data
  have H2 := Lib.hid h2
  have b4 : ((3000 : Int) < (n2 : Int)) = False := eq_false (by omega)
  clear hf h he h2
  go_enter Try.func5, Try.ntmps5
  go_wp2_with fail
  refine (F.out _).mono ?_
  rintro e w1 ⟨rfl, hb⟩
  have B1 := Lib.hid (B0.out.trans (hb.mono B0.out.size))
  have P1 := Lib.hid (P0.out.below hb P0.out.lt)
  clear hb P0 F B0
  go_wp2_with (first
    | (refine Loads.wpList_load_w rfl 24 (.tmp 4) rfl w.heap.size rfl 24 #[.int .i64 a, .int .i64 b, .slice A n c] (0, 0) _ P1.out (Try.underlying24) rfl (by kernel_rfl) ?_))
  have h0 : (err a b s d n == 0) = false := by rw [beq_eq_false_iff_ne]; exact HE.out
  refine (bytes_err a b A n c s d w1 (by omega) HE.out).mono ?_
  rintro e w2 ⟨rfl, hb⟩
  have B2 := Lib.hid (B1.out.trans (hb.mono B1.out.size))
  clear hb P1
  generalize err a b s d n = pe0 at *
  go_wp2_with fail
  refine (parse_any s d A2 n2 c2 l2 w2 w.heap.size (H2.out.below B2.out) B2.out.size (by omega)).mono ?_
  rintro e wp ⟨gp, hb⟩
  have BP := Lib.hid (B2.out.trans (hb.mono B2.out.size))
  have hsb := B2.out.size
  clear hb
  rcases gp with ⟨pz, A4, n4, c4, rfl, o4⟩ | ⟨pz, rfl⟩
  · obtain ⟨x, hx⟩ : ∃ x, x = w16 l2 0 := ⟨_, rfl⟩
    obtain ⟨y, hy⟩ : ∃ y, y = w16 l2 2 := ⟨_, rfl⟩
    rw [← hx, ← hy]
    have l2n : l2.length = n2 := H2.out.1
    have zp := perr_zero pz
    have n8 : 8 ≤ n2 := by have := zp.2.1; omega
    have n4e : n4 = n2 - 8 := by have := o4.len; rw [List.length_drop] at this; omega
    have ER : err x y s d n4 = 0 := by rw [hx, hy, n4e, ← l2n]; exact read_err H2.out.2.2.2.1 pz
    have RB : Hid (w16 l2 6 ≠ 0 → Dat.bytes x y s d (l2.drop 8) = l2) := Lib.hid (fun q => by rw [hx, hy]; exact read_bytes H2.out.2.2.2.1 pz q)
    have EH := Lib.hid ER
    have O4 := Lib.hid o4.holds
    have n4l : n4 ≤ 3000 := by omega
    have nn : Hid (8 + n4 = n2) := Lib.hid (by omega)
    clear zp ER o4 hx hy pz n4e l2n
    have PV := Lib.hid (Blk.new wp 24 #[.int .i64 x, .int .i64 y, .slice A4 n4 c4])
    have BV := Lib.hid (BP.out.alloc BP.out.size (.cells #[.int .i64 x, .int .i64 y, .slice A4 n4 c4] 24))
    have CV := Lib.hid ((Below.refl _ wp).alloc (Nat.le_refl _) (.cells #[.int .i64 x, .int .i64 y, .slice A4 n4 c4] 24))
    go_wp2_with (first
      | (refine Loads.wpList_load_w rfl 24 (.tmp 15) rfl wp.heap.size rfl 24 #[.int .i64 x, .int .i64 y, .slice A4 n4 c4] (0, 0) _ PV.out (Try.underlying24) rfl (by kernel_rfl) ?_))
    refine (bytes_ok x y A4 n4 c4 (l2.drop 8) s d _ _ ((O4.out.below CV.out).more CV.out.size) (Nat.le_refl _) EH.out).mono ?_
    rintro e wx ⟨vx, rfl, ox, hb⟩
    have BX := Lib.hid (BV.out.trans (hb.mono BV.out.size))
    obtain ⟨A5, c5, rfl, h5⟩ := ox.slice
    have H5 := Lib.hid h5
    clear hb ox h5 PV BV CV O4 EH BP
    go_wp2_with fail
    refine (awake_any _).mono ?_
    rintro e wy ⟨rfl, hb⟩
    have BY := Lib.hid (BX.out.trans (hb.mono BX.out.size))
    have H5y := Lib.hid (H5.out.below hb)
    have H2y := Lib.hid (H2.out.below BY.out)
    clear hb H5 BX
    obtain ⟨p2, o2, rfl, _⟩ := H2y.out.2.2.2.2 (by omega)
    have c6 := cell_getD H2y.out 6 (by omega)
    have c7 := cell_getD H2y.out 7 (by omega)
    have i6 : 6 < n2 := by omega
    have i7 : 7 < n2 := by omega
    have i6' : (6 : Int) < (n2 : Int) := by omega
    have i7' : (7 : Int) < (n2 : Int) := by omega
    have b6 := getD_in H2.out.2.2.2.1 6
    have b7 := getD_in H2.out.2.2.2.1 7
    have W6 : w16 l2 6 = 256 * l2.getD 6 0 + l2.getD 7 0 := rfl
    generalize l2.getD 6 0 = y6 at *
    generalize l2.getD 7 0 = y7 at *
    have cases3 : ((y6 == 0) = false ∧ w16 l2 6 ≠ 0) ∨ ((y6 == 0) = true ∧ (y7 == 0) = false ∧ w16 l2 6 ≠ 0) ∨ ((y6 == 0) = true ∧ (y7 == 0) = true) := by
      by_cases q : y6 = 0
      · by_cases r : y7 = 0
        · exact .inr (.inr ⟨by simpa using q, by simpa using r⟩)
        · exact .inr (.inl ⟨by simpa using q, by simpa using r, by omega⟩)
      · exact .inl ⟨by simpa using q, by omega⟩
    have v2 := run_string_bytes H2y.out
    have v5 := run_string_bytes H5y.out
    rw [nn.out] at v5 ⊢
    clear W6 b6 b7 nn H5y H2y
    rcases cases3 with ⟨g6, nz⟩ | ⟨g6, g7, nz⟩ | ⟨g6, g7⟩
    · rw [RB.out nz] at v5
      clear nz RB
      generalize strOfNums l2 = tx at *
      go_wp2_with fail
      go_ret
      exact ⟨rfl, BY.out⟩
    · rw [RB.out nz] at v5
      clear nz RB
      generalize strOfNums l2 = tx at *
      go_wp2_with fail
      go_ret
      exact ⟨rfl, BY.out⟩
    · clear v2 v5 RB
      go_wp2_with fail
      go_ret
      exact ⟨rfl, BY.out⟩
  · obtain ⟨pe, hpe⟩ : ∃ pe, pe = perr l2 s d := ⟨_, rfl⟩
    have q : (pe != 0) = true := by rw [bne_iff_ne, hpe]; exact pz
    rw [← hpe]
    clear hpe pz
    have PV := Lib.hid (Blk.new wp 24 #[.int .i64 0, .int .i64 0, .slice none 0 0])
    have BV := Lib.hid (BP.out.alloc BP.out.size (.cells #[.int .i64 0, .int .i64 0, .slice none 0 0] 24))
    go_wp2_with fail
    refine (awake_any _).mono ?_
    rintro e wy ⟨rfl, hb⟩
    have BY := Lib.hid (BV.out.trans (hb.mono BV.out.size))
    have PY := Lib.hid (PV.out.below hb PV.out.lt)
    have SY := Lib.hid (same_yes 0 0 none 0 0 none 0 0 [] 0 wy (Holds.nil _ _ _) (Holds.nil _ _ _) (Nat.zero_le _))
    clear hb PV BV BP
    go_wp2_with (first
      | (refine Loads.wpList_load_w rfl 24 (.tmp 15) rfl wp.heap.size rfl 24 #[.int .i64 0, .int .i64 0, .slice none 0 0] (0, 0) _ PY.out (Try.underlying24) rfl (by kernel_rfl) ?_))
    refine SY.out.mono ?_
    rintro e wz ⟨rfl, hb⟩
    have BZ := Lib.hid (BY.out.trans (hb.mono BY.out.size))
    clear hb
    go_wp2_with fail
    go_ret
    exact ⟨rfl, BZ.out⟩

set_option maxHeartbeats 4000000 in
set_option maxRecDepth 100000 in
theorem back_ok (a b : Int) (A : Option Addr) (n c : Nat) (l : List Int) (A2 : Option Addr) (n2 c2 : Nat) (l2 : List Int) (s d : ByteArray) (w : World) (h : Got a b A n c l s d w) (h2 : Holds w w.heap.size A2 n2 c2 l2) (hf : fewB s d n = true) (h4 : n2 ≤ 3000) (he : err a b s d n = 0) :
    Calls Try.prog 5 #[.agg #[.int .i64 a, .int .i64 b, .slice A n c], .slice A2 n2 c2, .string s, .string d] w (Yes w) := by
  have B0 := Lib.hid ((Below.refl w.heap.size w).alloc (Nat.le_refl _) (.cells #[.int .i64 a, .int .i64 b, .slice A n c] 24))
  have P0 := Lib.hid (Blk.new w 24 #[.int .i64 a, .int .i64 b, .slice A n c])
  have F := Lib.hid (fun W => few_any a b A n c s d W h.s1 h.d1 h.n1)
  have n66 := (few_true hf).2
  rw [hf] at F
  have HE := Lib.hid he
  have HL := Lib.hid h.data
  have H2 := Lib.hid h2
  have b4 : ((3000 : Int) < (n2 : Int)) = False := eq_false (by omega)
  clear hf h he h2
  go_enter Try.func5, Try.ntmps5
  go_wp2_with fail
  refine (F.out _).mono ?_
  rintro e w1 ⟨rfl, hb⟩
  have B1 := Lib.hid (B0.out.trans (hb.mono B0.out.size))
  have P1 := Lib.hid (P0.out.below hb P0.out.lt)
  clear hb P0 F B0
  go_wp2_with (first
    | (refine Loads.wpList_load_w rfl 24 (.tmp 4) rfl w.heap.size rfl 24 #[.int .i64 a, .int .i64 b, .slice A n c] (0, 0) _ P1.out (Try.underlying24) rfl (by kernel_rfl) ?_))
  have hl : l.length = n := HL.out.1
  have EL : err a b s d l.length = 0 := by rw [hl]; exact HE.out
  have BB := bytes_bytes EL HL.out.2.2.2.1
  have BLn := bytes_len a b s d l
  have n65 := (err_zero HE.out).2.2.2
  have PE1 := Lib.hid (bytes_perr EL HL.out.2.2.2.1)
  have PE2 : Hid (perr (Dat.bytes a b s d l) d s = 0) := Lib.hid (by rw [← perr_comm BB (by omega)]; exact PE1.out)
  have WW := w16_raw a b (8 + l.length) (chk a b s d l) l
  have WA : Hid (w16 (Dat.bytes a b s d l) 0 = a) := Lib.hid WW.1
  have WB : Hid (w16 (Dat.bytes a b s d l) 2 = b) := Lib.hid WW.2.1
  have WC : Hid (w16 (Dat.bytes a b s d l) 6 ≠ 0) := Lib.hid (by have h1 := chk_in a b s d l; have h2 : w16 (Dat.bytes a b s d l) 6 = chk a b s d l := WW.2.2.2; omega)
  have DR : Hid ((Dat.bytes a b s d l).drop 8 = l) := Lib.hid rfl
  have HBB := Lib.hid BB
  clear EL BLn WW BB
  refine (bytes_ok a b A n c l s d w1 w.heap.size (HL.out.below B1.out) B1.out.size HE.out).mono ?_
  rintro e w2 ⟨v2, rfl, o2, hb⟩
  have B2 := Lib.hid (B1.out.trans (hb.mono B1.out.size))
  have P2 := Lib.hid (P1.out.below hb P1.out.lt)
  have hs1 := B1.out.size
  obtain ⟨N, hN⟩ : ∃ N, N = 8 + n := ⟨_, rfl⟩
  rw [← hN] at o2
  obtain ⟨A5, c5, rfl, h5⟩ := o2.slice
  have H5 := Lib.hid h5
  have hc5 := h5.2.1
  have N8 : 8 ≤ N := by omega
  have N66 : N ≤ 65535 := by omega
  clear hb P1 o2 h5 hN HE
  generalize Dat.bytes a b s d l = LL at *
  go_wp2_with fail
  refine (parse_any s d A5 N c5 LL w2 w2.heap.size H5.out (Nat.le_refl _) (by omega)).mono ?_
  rintro e w3 ⟨g3, hb⟩
  have B3 := Lib.hid (B2.out.trans (hb.mono B2.out.size))
  have P3 := Lib.hid (P2.out.below hb P2.out.lt)
  have H53 := Lib.hid (H5.out.below hb)
  have hb3 := hb.size
  clear hb P2
  rcases g3 with ⟨_, A3, n3, c3, rfl, o3⟩ | ⟨pz, _⟩
  case inr => exact absurd PE1.out pz
  rw [DR.out] at o3
  rw [WA.out, WB.out]
  obtain rfl : n3 = n := by have := o3.len; omega
  have D3 := Lib.hid o3.holds
  clear o3 PE1 H5
  have Q4 := Lib.hid (Blk.new w3 24 #[.int .i64 a, .int .i64 b, .slice A3 n3 c3])
  have P4 := Lib.hid (P3.out.alloc (.cells #[.int .i64 a, .int .i64 b, .slice A3 n3 c3] 24))
  have B4 := Lib.hid (B3.out.alloc B3.out.size (.cells #[.int .i64 a, .int .i64 b, .slice A3 n3 c3] 24))
  have C4 := Lib.hid ((Below.refl _ w3).alloc (Nat.le_refl _) (.cells #[.int .i64 a, .int .i64 b, .slice A3 n3 c3] 24))
  clear P3 B3
  go_wp2_with fail
  refine (parse_any d s A5 N c5 LL _ w2.heap.size (H53.out.below (C4.out.mono hb3)) (Nat.le_trans hb3 C4.out.size) (by omega)).mono ?_
  rintro e w5 ⟨g5, hb⟩
  have B5 := Lib.hid (B4.out.trans (hb.mono B4.out.size))
  have P5 := Lib.hid (P4.out.below hb P4.out.lt)
  have Q5 := Lib.hid (Q4.out.below hb Q4.out.lt)
  have C5 := Lib.hid (C4.out.trans (hb.mono C4.out.size))
  clear hb P4 Q4 B4 C4
  rcases g5 with ⟨_, A6, n6, c6, rfl, o6⟩ | ⟨pz, _⟩
  case inr => exact absurd PE2.out pz
  rw [DR.out] at o6
  rw [WA.out, WB.out]
  obtain rfl : n6 = n3 := by have := o6.len; omega
  have D6 := Lib.hid o6.holds
  clear o6 PE2
  have R7 := Lib.hid (Blk.new w5 24 #[.int .i64 a, .int .i64 b, .slice A6 n6 c6])
  have P7 := Lib.hid (P5.out.alloc (.cells #[.int .i64 a, .int .i64 b, .slice A6 n6 c6] 24))
  have Q7 := Lib.hid (Q5.out.alloc (.cells #[.int .i64 a, .int .i64 b, .slice A6 n6 c6] 24))
  have B7 := Lib.hid (B5.out.alloc B5.out.size (.cells #[.int .i64 a, .int .i64 b, .slice A6 n6 c6] 24))
  have C7 := Lib.hid (C5.out.alloc C5.out.size (.cells #[.int .i64 a, .int .i64 b, .slice A6 n6 c6] 24))
  have G7 := Lib.hid ((Below.refl _ w5).alloc (Nat.le_refl _) (.cells #[.int .i64 a, .int .i64 b, .slice A6 n6 c6] 24))
  have SY1 := Lib.hid (same_yes a b A n6 c A3 n6 c3 l _ _ ((HL.out.below B7.out).more B7.out.size) ((D3.out.below C7.out).more C7.out.size) (Nat.le_refl _))
  clear P5 Q5 B5 C5
  go_wp2_with (first
    | (refine Loads.wpList_load_w rfl 24 (.tmp 4) rfl w.heap.size rfl 24 #[.int .i64 a, .int .i64 b, .slice A n6 c] (0, 0) _ P7.out (Try.underlying24) rfl (by kernel_rfl) ?_)
    | (refine Loads.wpList_load_w rfl 24 (.tmp 11) rfl w3.heap.size rfl 24 #[.int .i64 a, .int .i64 b, .slice A3 n6 c3] (0, 0) _ Q7.out (Try.underlying24) rfl (by kernel_rfl) ?_)
    | (refine Loads.wpList_load_w rfl 24 (.tmp 13) rfl w5.heap.size rfl 24 #[.int .i64 a, .int .i64 b, .slice A6 n6 c6] (0, 0) _ R7.out (Try.underlying24) rfl (by kernel_rfl) ?_))
  refine SY1.out.mono ?_
  rintro e w8 ⟨rfl, hb⟩
  have B8 := Lib.hid (B7.out.trans (hb.mono B7.out.size))
  have P8 := Lib.hid (P7.out.below hb P7.out.lt)
  have R8 := Lib.hid (R7.out.below hb R7.out.lt)
  have G8 := Lib.hid (G7.out.trans (hb.mono G7.out.size))
  have C8 := Lib.hid (C7.out.trans (hb.mono C7.out.size))
  have SY2 := Lib.hid (same_yes a b A n6 c A6 n6 c6 l _ w8 ((HL.out.below B8.out).more B8.out.size) ((D6.out.below G8.out).more G8.out.size) (Nat.le_refl _))
  clear hb P7 Q7 R7 B7 C7 G7 SY1
  go_wp2_with (first
    | (refine Loads.wpList_load_w rfl 24 (.tmp 4) rfl w.heap.size rfl 24 #[.int .i64 a, .int .i64 b, .slice A n6 c] (0, 0) _ P8.out (Try.underlying24) rfl (by kernel_rfl) ?_)
    | (refine Loads.wpList_load_w rfl 24 (.tmp 13) rfl w5.heap.size rfl 24 #[.int .i64 a, .int .i64 b, .slice A6 n6 c6] (0, 0) _ R8.out (Try.underlying24) rfl (by kernel_rfl) ?_))
  refine SY2.out.mono ?_
  rintro e w9 ⟨rfl, hb⟩
  have B9 := Lib.hid (B8.out.trans (hb.mono B8.out.size))
  have H59 := Lib.hid (H53.out.below ((C8.out.trans (hb.mono C8.out.size)).mono hb3))
  clear hb P8 R8 B8 C8 G8 SY2 D3 D6 H53
  obtain ⟨p5, o5, rfl, _⟩ := H59.out.2.2.2.2 (by omega)
  have k6 := cell_getD H59.out 6 (by omega)
  have k7 := cell_getD H59.out 7 (by omega)
  have j6 : 6 < N := by omega
  have j7 : 7 < N := by omega
  have j6' : (6 : Int) < (N : Int) := by omega
  have j7' : (7 : Int) < (N : Int) := by omega
  have j8 : ((N : Int) < 8) = False := eq_false (by omega)
  have j9 : (N < 8) = False := eq_false (by omega)
  have r6 := getD_in HBB.out 6
  have r7 := getD_in HBB.out 7
  have X6 : w16 LL 6 = 256 * LL.getD 6 0 + LL.getD 7 0 := rfl
  have X7 := WC.out
  generalize LL.getD 6 0 = u6 at *
  generalize LL.getD 7 0 = u7 at *
  have cases2 : (u6 == 0) = false ∨ ((u6 == 0) = true ∧ (u7 == 0) = false) := by
    by_cases q : u6 = 0
    · exact .inr ⟨by simpa using q, by rw [beq_eq_false_iff_ne]; omega⟩
    · exact .inl (by simpa using q)
  clear X6 X7 WC r6 r7 H59 HBB WA WB DR
  rcases cases2 with m6 | ⟨m6, m7⟩
  · go_wp2_with fail
    clear k6 k7 m6 j6 j7 j6' j7' j8 j9
    refine (parse_any s d A2 n2 c2 l2 w9 w.heap.size (H2.out.below B9.out) B9.out.size (by omega)).mono ?_
    rintro e wp ⟨gp, hb⟩
    have BP := Lib.hid (B9.out.trans (hb.mono B9.out.size))
    have hsb := B9.out.size
    clear hb
    rcases gp with ⟨pz, A4, n4, c4, rfl, o4⟩ | ⟨pz, rfl⟩
    · obtain ⟨x, hx⟩ : ∃ x, x = w16 l2 0 := ⟨_, rfl⟩
      obtain ⟨y, hy⟩ : ∃ y, y = w16 l2 2 := ⟨_, rfl⟩
      rw [← hx, ← hy]
      have l2n : l2.length = n2 := H2.out.1
      have zp := perr_zero pz
      have n8 : 8 ≤ n2 := by have := zp.2.1; omega
      have n4e : n4 = n2 - 8 := by have := o4.len; rw [List.length_drop] at this; omega
      have ER : err x y s d n4 = 0 := by rw [hx, hy, n4e, ← l2n]; exact read_err H2.out.2.2.2.1 pz
      have RB : Hid (w16 l2 6 ≠ 0 → Dat.bytes x y s d (l2.drop 8) = l2) := Lib.hid (fun q => by rw [hx, hy]; exact read_bytes H2.out.2.2.2.1 pz q)
      have EH := Lib.hid ER
      have O4 := Lib.hid o4.holds
      have n4l : n4 ≤ 3000 := by omega
      have nn : Hid (8 + n4 = n2) := Lib.hid (by omega)
      clear zp ER o4 hx hy pz n4e l2n
      have PV := Lib.hid (Blk.new wp 24 #[.int .i64 x, .int .i64 y, .slice A4 n4 c4])
      have BV := Lib.hid (BP.out.alloc BP.out.size (.cells #[.int .i64 x, .int .i64 y, .slice A4 n4 c4] 24))
      have CV := Lib.hid ((Below.refl _ wp).alloc (Nat.le_refl _) (.cells #[.int .i64 x, .int .i64 y, .slice A4 n4 c4] 24))
      go_wp2_with (first
        | (refine Loads.wpList_load_w rfl 24 (.tmp 15) rfl wp.heap.size rfl 24 #[.int .i64 x, .int .i64 y, .slice A4 n4 c4] (0, 0) _ PV.out (Try.underlying24) rfl (by kernel_rfl) ?_))
      refine (bytes_ok x y A4 n4 c4 (l2.drop 8) s d _ _ ((O4.out.below CV.out).more CV.out.size) (Nat.le_refl _) EH.out).mono ?_
      rintro e wx ⟨vx, rfl, ox, hb⟩
      have BX := Lib.hid (BV.out.trans (hb.mono BV.out.size))
      obtain ⟨A5, c5, rfl, h5⟩ := ox.slice
      have H5 := Lib.hid h5
      clear hb ox h5 PV BV CV O4 EH BP
      go_wp2_with fail
      refine (awake_any _).mono ?_
      rintro e wy ⟨rfl, hb⟩
      have BY := Lib.hid (BX.out.trans (hb.mono BX.out.size))
      have H5y := Lib.hid (H5.out.below hb)
      have H2y := Lib.hid (H2.out.below BY.out)
      clear hb H5 BX
      obtain ⟨p2, o2, rfl, _⟩ := H2y.out.2.2.2.2 (by omega)
      have c6 := cell_getD H2y.out 6 (by omega)
      have c7 := cell_getD H2y.out 7 (by omega)
      have i6 : 6 < n2 := by omega
      have i7 : 7 < n2 := by omega
      have i6' : (6 : Int) < (n2 : Int) := by omega
      have i7' : (7 : Int) < (n2 : Int) := by omega
      have b6 := getD_in H2.out.2.2.2.1 6
      have b7 := getD_in H2.out.2.2.2.1 7
      have W6 : w16 l2 6 = 256 * l2.getD 6 0 + l2.getD 7 0 := rfl
      generalize l2.getD 6 0 = y6 at *
      generalize l2.getD 7 0 = y7 at *
      have cases3 : ((y6 == 0) = false ∧ w16 l2 6 ≠ 0) ∨ ((y6 == 0) = true ∧ (y7 == 0) = false ∧ w16 l2 6 ≠ 0) ∨ ((y6 == 0) = true ∧ (y7 == 0) = true) := by
        by_cases q : y6 = 0
        · by_cases r : y7 = 0
          · exact .inr (.inr ⟨by simpa using q, by simpa using r⟩)
          · exact .inr (.inl ⟨by simpa using q, by simpa using r, by omega⟩)
        · exact .inl ⟨by simpa using q, by omega⟩
      have v2 := run_string_bytes H2y.out
      have v5 := run_string_bytes H5y.out
      rw [nn.out] at v5 ⊢
      clear W6 b6 b7 nn H5y H2y
      rcases cases3 with ⟨g6, nz⟩ | ⟨g6, g7, nz⟩ | ⟨g6, g7⟩
      · rw [RB.out nz] at v5
        clear nz RB
        generalize strOfNums l2 = tx at *
        go_wp2_with fail
        go_ret
        exact ⟨rfl, BY.out⟩
      · rw [RB.out nz] at v5
        clear nz RB
        generalize strOfNums l2 = tx at *
        go_wp2_with fail
        go_ret
        exact ⟨rfl, BY.out⟩
      · clear v2 v5 RB
        go_wp2_with fail
        go_ret
        exact ⟨rfl, BY.out⟩
    · obtain ⟨pe, hpe⟩ : ∃ pe, pe = perr l2 s d := ⟨_, rfl⟩
      have q : (pe != 0) = true := by rw [bne_iff_ne, hpe]; exact pz
      rw [← hpe]
      clear hpe pz
      have PV := Lib.hid (Blk.new wp 24 #[.int .i64 0, .int .i64 0, .slice none 0 0])
      have BV := Lib.hid (BP.out.alloc BP.out.size (.cells #[.int .i64 0, .int .i64 0, .slice none 0 0] 24))
      go_wp2_with fail
      refine (awake_any _).mono ?_
      rintro e wy ⟨rfl, hb⟩
      have BY := Lib.hid (BV.out.trans (hb.mono BV.out.size))
      have PY := Lib.hid (PV.out.below hb PV.out.lt)
      have SY := Lib.hid (same_yes 0 0 none 0 0 none 0 0 [] 0 wy (Holds.nil _ _ _) (Holds.nil _ _ _) (Nat.zero_le _))
      clear hb PV BV BP
      go_wp2_with (first
        | (refine Loads.wpList_load_w rfl 24 (.tmp 15) rfl wp.heap.size rfl 24 #[.int .i64 0, .int .i64 0, .slice none 0 0] (0, 0) _ PY.out (Try.underlying24) rfl (by kernel_rfl) ?_))
      refine SY.out.mono ?_
      rintro e wz ⟨rfl, hb⟩
      have BZ := Lib.hid (BY.out.trans (hb.mono BY.out.size))
      clear hb
      go_wp2_with fail
      go_ret
      exact ⟨rfl, BZ.out⟩
  · go_wp2_with fail
    clear k6 k7 m6 m7 j6 j7 j6' j7' j8 j9
    refine (parse_any s d A2 n2 c2 l2 w9 w.heap.size (H2.out.below B9.out) B9.out.size (by omega)).mono ?_
    rintro e wp ⟨gp, hb⟩
    have BP := Lib.hid (B9.out.trans (hb.mono B9.out.size))
    have hsb := B9.out.size
    clear hb
    rcases gp with ⟨pz, A4, n4, c4, rfl, o4⟩ | ⟨pz, rfl⟩
    · obtain ⟨x, hx⟩ : ∃ x, x = w16 l2 0 := ⟨_, rfl⟩
      obtain ⟨y, hy⟩ : ∃ y, y = w16 l2 2 := ⟨_, rfl⟩
      rw [← hx, ← hy]
      have l2n : l2.length = n2 := H2.out.1
      have zp := perr_zero pz
      have n8 : 8 ≤ n2 := by have := zp.2.1; omega
      have n4e : n4 = n2 - 8 := by have := o4.len; rw [List.length_drop] at this; omega
      have ER : err x y s d n4 = 0 := by rw [hx, hy, n4e, ← l2n]; exact read_err H2.out.2.2.2.1 pz
      have RB : Hid (w16 l2 6 ≠ 0 → Dat.bytes x y s d (l2.drop 8) = l2) := Lib.hid (fun q => by rw [hx, hy]; exact read_bytes H2.out.2.2.2.1 pz q)
      have EH := Lib.hid ER
      have O4 := Lib.hid o4.holds
      have n4l : n4 ≤ 3000 := by omega
      have nn : Hid (8 + n4 = n2) := Lib.hid (by omega)
      clear zp ER o4 hx hy pz n4e l2n
      have PV := Lib.hid (Blk.new wp 24 #[.int .i64 x, .int .i64 y, .slice A4 n4 c4])
      have BV := Lib.hid (BP.out.alloc BP.out.size (.cells #[.int .i64 x, .int .i64 y, .slice A4 n4 c4] 24))
      have CV := Lib.hid ((Below.refl _ wp).alloc (Nat.le_refl _) (.cells #[.int .i64 x, .int .i64 y, .slice A4 n4 c4] 24))
      go_wp2_with (first
        | (refine Loads.wpList_load_w rfl 24 (.tmp 15) rfl wp.heap.size rfl 24 #[.int .i64 x, .int .i64 y, .slice A4 n4 c4] (0, 0) _ PV.out (Try.underlying24) rfl (by kernel_rfl) ?_))
      refine (bytes_ok x y A4 n4 c4 (l2.drop 8) s d _ _ ((O4.out.below CV.out).more CV.out.size) (Nat.le_refl _) EH.out).mono ?_
      rintro e wx ⟨vx, rfl, ox, hb⟩
      have BX := Lib.hid (BV.out.trans (hb.mono BV.out.size))
      obtain ⟨A5, c5, rfl, h5⟩ := ox.slice
      have H5 := Lib.hid h5
      clear hb ox h5 PV BV CV O4 EH BP
      go_wp2_with fail
      refine (awake_any _).mono ?_
      rintro e wy ⟨rfl, hb⟩
      have BY := Lib.hid (BX.out.trans (hb.mono BX.out.size))
      have H5y := Lib.hid (H5.out.below hb)
      have H2y := Lib.hid (H2.out.below BY.out)
      clear hb H5 BX
      obtain ⟨p2, o2, rfl, _⟩ := H2y.out.2.2.2.2 (by omega)
      have c6 := cell_getD H2y.out 6 (by omega)
      have c7 := cell_getD H2y.out 7 (by omega)
      have i6 : 6 < n2 := by omega
      have i7 : 7 < n2 := by omega
      have i6' : (6 : Int) < (n2 : Int) := by omega
      have i7' : (7 : Int) < (n2 : Int) := by omega
      have b6 := getD_in H2.out.2.2.2.1 6
      have b7 := getD_in H2.out.2.2.2.1 7
      have W6 : w16 l2 6 = 256 * l2.getD 6 0 + l2.getD 7 0 := rfl
      generalize l2.getD 6 0 = y6 at *
      generalize l2.getD 7 0 = y7 at *
      have cases3 : ((y6 == 0) = false ∧ w16 l2 6 ≠ 0) ∨ ((y6 == 0) = true ∧ (y7 == 0) = false ∧ w16 l2 6 ≠ 0) ∨ ((y6 == 0) = true ∧ (y7 == 0) = true) := by
        by_cases q : y6 = 0
        · by_cases r : y7 = 0
          · exact .inr (.inr ⟨by simpa using q, by simpa using r⟩)
          · exact .inr (.inl ⟨by simpa using q, by simpa using r, by omega⟩)
        · exact .inl ⟨by simpa using q, by omega⟩
      have v2 := run_string_bytes H2y.out
      have v5 := run_string_bytes H5y.out
      rw [nn.out] at v5 ⊢
      clear W6 b6 b7 nn H5y H2y
      rcases cases3 with ⟨g6, nz⟩ | ⟨g6, g7, nz⟩ | ⟨g6, g7⟩
      · rw [RB.out nz] at v5
        clear nz RB
        generalize strOfNums l2 = tx at *
        go_wp2_with fail
        go_ret
        exact ⟨rfl, BY.out⟩
      · rw [RB.out nz] at v5
        clear nz RB
        generalize strOfNums l2 = tx at *
        go_wp2_with fail
        go_ret
        exact ⟨rfl, BY.out⟩
      · clear v2 v5 RB
        go_wp2_with fail
        go_ret
        exact ⟨rfl, BY.out⟩
    · obtain ⟨pe, hpe⟩ : ∃ pe, pe = perr l2 s d := ⟨_, rfl⟩
      have q : (pe != 0) = true := by rw [bne_iff_ne, hpe]; exact pz
      rw [← hpe]
      clear hpe pz
      have PV := Lib.hid (Blk.new wp 24 #[.int .i64 0, .int .i64 0, .slice none 0 0])
      have BV := Lib.hid (BP.out.alloc BP.out.size (.cells #[.int .i64 0, .int .i64 0, .slice none 0 0] 24))
      go_wp2_with fail
      refine (awake_any _).mono ?_
      rintro e wy ⟨rfl, hb⟩
      have BY := Lib.hid (BV.out.trans (hb.mono BV.out.size))
      have PY := Lib.hid (PV.out.below hb PV.out.lt)
      have SY := Lib.hid (same_yes 0 0 none 0 0 none 0 0 [] 0 wy (Holds.nil _ _ _) (Holds.nil _ _ _) (Nat.zero_le _))
      clear hb PV BV BP
      go_wp2_with (first
        | (refine Loads.wpList_load_w rfl 24 (.tmp 15) rfl wp.heap.size rfl 24 #[.int .i64 0, .int .i64 0, .slice none 0 0] (0, 0) _ PY.out (Try.underlying24) rfl (by kernel_rfl) ?_))
      refine SY.out.mono ?_
      rintro e wz ⟨rfl, hb⟩
      have BZ := Lib.hid (BY.out.trans (hb.mono BY.out.size))
      clear hb
      go_wp2_with fail
      go_ret
      exact ⟨rfl, BZ.out⟩

theorem back_any (a b : Int) (A : Option Addr) (n c : Nat) (l : List Int) (A2 : Option Addr) (n2 c2 : Nat) (l2 : List Int) (s d : ByteArray) (w : World) (h : Got a b A n c l s d w) (h2 : Holds w w.heap.size A2 n2 c2 l2) :
    Calls Try.prog 5 #[.agg #[.int .i64 a, .int .i64 b, .slice A n c], .slice A2 n2 c2, .string s, .string d] w (Yes w) := by
  cases hf : fewB s d n with
  | false => exact back_no a b A n c l A2 n2 c2 s d w h hf
  | true =>
    by_cases h4 : 3000 < n2
    · exact back_big a b A n c l A2 n2 c2 s d w h hf h4
    · by_cases he : err a b s d n = 0
      · exact back_ok a b A n c l A2 n2 c2 l2 s d w h h2 hf (by omega) he
      · exact back_err a b A n c l A2 n2 c2 l2 s d w h h2 hf (by omega) he
end Go.Proofs.Ytmpioomhimldaaa.LawBack
