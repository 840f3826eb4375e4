/- The law UdpTurned. -/
import Derived.Test.YtmpioomhimldaaaLawLays
set_option linter.unusedVariables false
namespace Go.Proofs.Ytmpioomhimldaaa.LawTurned
open Go.RowKit Go.Sort Go.Proofs.Ytmpioomhimldaaa.Sums Go.Proofs.Ytmpioomhimldaaa.Words Go.Proofs.Ytmpioomhimldaaa.Mem Go.Proofs.Ytmpioomhimldaaa.Dat Go.Proofs.Ytmpioomhimldaaa.Blk Go.Proofs.Ytmpioomhimldaaa.Bits Go.Proofs.Ytmpioomhimldaaa.InetSum Go.Proofs.Ytmpioomhimldaaa.Steps Go.Proofs.Ytmpioomhimldaaa.Free Go.Proofs.Ytmpioomhimldaaa.Cut Go.Proofs.Ytmpioomhimldaaa.Udp
open Go.Proofs.Ytmpioomhimldaaa.UdpA Go.Proofs.Ytmpioomhimldaaa.UdpR Go.Proofs.Ytmpioomhimldaaa.LawParses

/-- A datagram that may be laid down, and where it lies. -/
structure Got (a b : Int) (A : Option Addr) (n c : Nat) (l : List Int) (s d : ByteArray) (w : World) : Prop where
  data : Holds w w.heap.size A n c l
  s1 : s.size ≤ 140737488355328
  d1 : d.size ≤ 140737488355328
  n1 : n ≤ 140737488355328

theorem turned_no (a b : Int) (A : Option Addr) (n c : Nat) (l : List Int) (s d : ByteArray) (k x : Int) (w : World) (h : Got a b A n c l s d w) (hf : fewB s d n = false) :
    Calls Try.prog 6 #[.agg #[.int .i64 a, .int .i64 b, .slice A n c], .string s, .string d, .int .i64 k, .int .u8 x] w (Yes w) := by
  have B0 := Lib.hid ((Below.refl w.heap.size w).alloc (Nat.le_refl _) (.cells #[.int .i64 a, .int .i64 b, .slice A n c] 24))
  have F := Lib.hid (fun W => few_any a b A n c s d W h.s1 h.d1 h.n1)
  rw [hf] at F
  clear hf h
  go_enter Try.func6, Try.ntmps6
  go_wp2_with fail
  refine (F.out _).mono ?_
  rintro e w1 ⟨rfl, hb⟩
  have B1 := Lib.hid (B0.out.trans (hb.mono B0.out.size))
  clear hb
  go_wp2_with fail
  go_ret
  exact ⟨rfl, B1.out⟩

set_option maxHeartbeats 2000000 in
set_option maxRecDepth 100000 in
theorem turned_err (a b : Int) (A : Option Addr) (n c : Nat) (l : List Int) (s d : ByteArray) (k x : Int) (w : World) (h : Got a b A n c l s d w) (hf : fewB s d n = true) (he : err a b s d n ≠ 0) :
    Calls Try.prog 6 #[.agg #[.int .i64 a, .int .i64 b, .slice A n c], .string s, .string d, .int .i64 k, .int .u8 x] w (Yes w) := by
  have B0 := Lib.hid ((Below.refl w.heap.size w).alloc (Nat.le_refl _) (.cells #[.int .i64 a, .int .i64 b, .slice A n c] 24))
  have P0 := Lib.hid (Blk.new w 24 #[.int .i64 a, .int .i64 b, .slice A n c])
  have F := Lib.hid (fun W => few_any a b A n c s d W h.s1 h.d1 h.n1)
  have n66 := (few_true hf).2
  rw [hf] at F
  have HE := Lib.hid he
  have h0 : (err a b s d n != 0) = true := by rw [bne_iff_ne]; exact he
  clear hf h he
  go_enter Try.func6, Try.ntmps6
  go_wp2_with fail
  refine (F.out _).mono ?_
  rintro e w1 ⟨rfl, hb⟩
  have B1 := Lib.hid (B0.out.trans (hb.mono B0.out.size))
  have P1 := Lib.hid (P0.out.below hb P0.out.lt)
  clear hb P0 F
  go_wp2_with (refine Loads.wpList_load_w rfl 24 (.tmp 5) rfl w.heap.size rfl 24 #[.int .i64 a, .int .i64 b, .slice A n c] (0, 0) _ P1.out (Try.underlying24) rfl (by kernel_rfl) ?_)
  refine (bytes_err a b A n c s d w1 (by omega) HE.out).mono ?_
  rintro e w2 ⟨rfl, hb⟩
  have B2 := Lib.hid (B1.out.trans (hb.mono B1.out.size))
  clear hb
  generalize err a b s d n = pe at *
  go_wp2_with fail
  refine (awake_any w2).mono ?_
  rintro e w3 ⟨rfl, hb⟩
  have B3 := Lib.hid (B2.out.trans (hb.mono B2.out.size))
  clear hb
  go_wp2_with fail
  go_ret
  exact ⟨rfl, B3.out⟩

set_option maxHeartbeats 4000000 in
set_option maxRecDepth 100000 in
theorem turned_ok (a b : Int) (A : Option Addr) (n c : Nat) (l : List Int) (s d : ByteArray) (at_ x : Int) (x0 : 0 ≤ x) (x1 : x ≤ 255) (w : World) (h : Got a b A n c l s d w) (hf : fewB s d n = true) (he : err a b s d n = 0) :
    Calls Try.prog 6 #[.agg #[.int .i64 a, .int .i64 b, .slice A n c], .string s, .string d, .int .i64 at_, .int .u8 x] w (Yes w) := by
  have B0 := Lib.hid ((Below.refl w.heap.size w).alloc (Nat.le_refl _) (.cells #[.int .i64 a, .int .i64 b, .slice A n c] 24))
  have P0 := Lib.hid (Blk.new w 24 #[.int .i64 a, .int .i64 b, .slice A n c])
  have F := Lib.hid (fun W => few_any a b A n c s d W h.s1 h.d1 h.n1)
  have n66 := (few_true hf).2
  rw [hf] at F
  have HE := Lib.hid he
  have HL := Lib.hid h.data
  have hl := h.data.1
  have HB := Lib.hid h.data.2.2.2.1
  have TN := Lib.hid (fun (i : Nat) (y : Int) (p q r) => turned (a := a) (b := b) (s := s) (d := d) (by rw [hl]; exact he) h.data.2.2.2.1 i x y x0 x1 p q r)
  clear hf h he
  go_enter Try.func6, Try.ntmps6
  go_wp2_with fail
  refine (F.out _).mono ?_
  rintro e w1 ⟨rfl, hb⟩
  have B1 := Lib.hid (B0.out.trans (hb.mono B0.out.size))
  have P1 := Lib.hid (P0.out.below hb P0.out.lt)
  clear hb P0 F
  go_wp2_with (refine Loads.wpList_load_w rfl 24 (.tmp 5) rfl w.heap.size rfl 24 #[.int .i64 a, .int .i64 b, .slice A n c] (0, 0) _ P1.out (Try.underlying24) rfl (by kernel_rfl) ?_)
  refine (bytes_ok a b A n c l s d w1 w.heap.size (HL.out.below B1.out) B1.out.size HE.out).mono ?_
  rintro e w2 ⟨v2, rfl, o2, hb⟩
  have B2 := Lib.hid (B1.out.trans (hb.mono B1.out.size))
  have hs1 := B1.out.size
  clear hb P1
  obtain ⟨N, hN⟩ : ∃ N, N = 8 + n := ⟨_, rfl⟩
  rw [← hN] at o2
  obtain ⟨A2, c2, rfl, h2⟩ := o2.slice
  obtain ⟨g, rfl, hg1, hg2⟩ := o2.form (by omega)
  have hc2 := h2.2.1
  have hc3 := h2.2.2.1
  unfold maxLen at hc3
  have O2 := Lib.hid o2
  clear o2 h2
  have N8 : 8 ≤ N := by omega
  have N66 : N ≤ 66008 := by omega
  clear hN hl
  by_cases k1 : at_ < 0
  · have g1 : (at_ < 0) = True := eq_true k1
    clear k1
    go_wp2_with fail
    refine (awake_any w2).mono ?_
    rintro e w3 ⟨rfl, hb⟩
    have B3 := Lib.hid (B2.out.trans (hb.mono B2.out.size))
    clear hb
    go_wp2_with fail
    go_ret
    exact ⟨rfl, B3.out⟩
  obtain ⟨k, rfl⟩ : ∃ k : Nat, at_ = (k : Int) := ⟨at_.toNat, by omega⟩
  have g1 : ((k : Int) < 0) = False := eq_false k1
  clear k1
  by_cases k2 : N ≤ k
  · have g2 : (N ≤ k) = True := eq_true k2
    clear k2
    go_wp2_with fail
    refine (awake_any w2).mono ?_
    rintro e w3 ⟨rfl, hb⟩
    have B3 := Lib.hid (B2.out.trans (hb.mono B2.out.size))
    clear hb
    go_wp2_with fail
    go_ret
    exact ⟨rfl, B3.out⟩
  have g2 : (N ≤ k) = False := eq_false k2
  have kN : k < N := by omega
  have hlen : (Dat.bytes a b s d l).length = N := O2.out.1
  obtain ⟨y, hy⟩ : ∃ y, (Dat.bytes a b s d l)[k]? = some y := ⟨_, List.getElem?_eq_getElem (by omega)⟩
  have cy := O2.out.cell hy
  have YH := Lib.hid hy
  clear hy k2
  by_cases k4 : y = x
  · subst k4
    go_wp2_with fail
    refine (awake_any w2).mono ?_
    rintro e w3 ⟨rfl, hb⟩
    have B3 := Lib.hid (B2.out.trans (hb.mono B2.out.size))
    clear hb
    go_wp2_with fail
    go_ret
    exact ⟨rfl, B3.out⟩
  have k5 : (y == x) = false := by rw [beq_eq_false_iff_ne]; exact k4
  have fr := O2.out.free k kN
  obtain ⟨L, hL⟩ : ∃ L, L = (Dat.bytes a b s d l).set k x := ⟨_, rfl⟩
  have O3 : Hid (Owns (w2.setCell ⟨g, k, none⟩ (.int .u8 x)) w1.heap.size (.slice (some ⟨g, 0, none⟩) N c2) N L) := Lib.hid (by rw [hL]; exact O2.out.set k x x0 x1)
  have B3 := Lib.hid (B2.out.setCell (p := ⟨g, k, none⟩) (by show w.heap.size ≤ g; omega) (.int .u8 x))
  have TL : Hid (w16 L 6 ≠ 0 → perr L s d ≠ 0) := Lib.hid (by rw [hL]; exact TN.out k y YH.out k4)
  have c6 := cell_getD O3.out.holds 6 (by omega)
  have c7 := cell_getD O3.out.holds 7 (by omega)
  rw [Nat.zero_add] at c6 c7
  have b6 := getD_in O3.out.2.1 6
  have b7 := getD_in O3.out.2.1 7
  have W6 : Hid (w16 L 6 = 256 * L.getD 6 0 + L.getD 7 0) := Lib.hid rfl
  generalize L.getD 6 0 = y6 at *
  generalize L.getD 7 0 = y7 at *
  clear hL TN YH hlen HB HL HE k4
  have i6 : 6 < N := by omega
  have i7 : 7 < N := by omega
  have i6' : (6 : Int) < (N : Int) := by omega
  have i7' : (7 : Int) < (N : Int) := by omega
  have cases3 : ((y6 == 0) = false ∧ w16 L 6 ≠ 0) ∨ ((y6 == 0) = true ∧ (y7 == 0) = false ∧ w16 L 6 ≠ 0) ∨ ((y6 == 0) = true ∧ (y7 == 0) = true) := by
    have := W6.out
    by_cases q : y6 = 0
    · by_cases r : y7 = 0
      · exact .inr (.inr ⟨by simpa using q, by simpa using r⟩)
      · exact .inr (.inl ⟨by simpa using q, by simpa using r, by omega⟩)
    · exact .inl ⟨by simpa using q, by omega⟩
  clear W6 b6 b7
  rcases cases3 with ⟨g6, nz⟩ | ⟨g6, g7, nz⟩ | ⟨g6, g7⟩
  · have PN := Lib.hid (TL.out nz)
    clear nz
    go_wp2_with fail
    refine (parse_any s d _ _ _ L _ _ O3.out.holds (Nat.le_refl _) (by omega)).mono ?_
    rintro e w4 ⟨h4, hb⟩
    have B4 := Lib.hid (B3.out.trans (hb.mono B3.out.size))
    clear hb B3 O3
    rcases h4 with ⟨h4, _⟩ | ⟨h4, rfl⟩
    · exact absurd h4 PN.out
    · obtain ⟨pe, hpe⟩ : ∃ pe, pe = perr L s d := ⟨_, rfl⟩
      have q : (pe != 0) = true := by rw [bne_iff_ne, hpe]; exact h4
      rw [← hpe]
      clear hpe h4
      have B5 := Lib.hid (B4.out.alloc B4.out.size (.cells #[.int .i64 0, .int .i64 0, .slice none 0 0] 24))
      go_wp2_with fail
      refine (awake_any _).mono ?_
      rintro e w6 ⟨rfl, hb⟩
      have B6 := Lib.hid (B5.out.trans (hb.mono B5.out.size))
      clear hb
      go_wp2_with fail
      go_ret
      exact ⟨rfl, B6.out⟩
  · have PN := Lib.hid (TL.out nz)
    clear nz
    go_wp2_with fail
    refine (parse_any s d _ _ _ L _ _ O3.out.holds (Nat.le_refl _) (by omega)).mono ?_
    rintro e w4 ⟨h4, hb⟩
    have B4 := Lib.hid (B3.out.trans (hb.mono B3.out.size))
    clear hb B3 O3
    rcases h4 with ⟨h4, _⟩ | ⟨h4, rfl⟩
    · exact absurd h4 PN.out
    · obtain ⟨pe, hpe⟩ : ∃ pe, pe = perr L s d := ⟨_, rfl⟩
      have q : (pe != 0) = true := by rw [bne_iff_ne, hpe]; exact h4
      rw [← hpe]
      clear hpe h4
      have B5 := Lib.hid (B4.out.alloc B4.out.size (.cells #[.int .i64 0, .int .i64 0, .slice none 0 0] 24))
      go_wp2_with fail
      refine (awake_any _).mono ?_
      rintro e w6 ⟨rfl, hb⟩
      have B6 := Lib.hid (B5.out.trans (hb.mono B5.out.size))
      clear hb
      go_wp2_with fail
      go_ret
      exact ⟨rfl, B6.out⟩
  · go_wp2_with fail
    refine (parse_any s d _ _ _ L _ _ O3.out.holds (Nat.le_refl _) (by omega)).mono ?_
    rintro e w4 ⟨h4, hb⟩
    have B4 := Lib.hid (B3.out.trans (hb.mono B3.out.size))
    clear hb B3 O3
    rcases h4 with ⟨_, A5, n5, c5, rfl, _⟩ | ⟨h4, rfl⟩
    · have B5 := Lib.hid (B4.out.alloc B4.out.size (.cells #[.int .i64 (w16 L 0), .int .i64 (w16 L 2), .slice A5 n5 c5] 24))
      generalize w16 L 0 = u0 at *
      generalize w16 L 2 = u2 at *
      go_wp2_with fail
      refine (awake_any _).mono ?_
      rintro e w6 ⟨rfl, hb⟩
      have B6 := Lib.hid (B5.out.trans (hb.mono B5.out.size))
      clear hb
      go_wp2_with fail
      go_ret
      exact ⟨rfl, B6.out⟩
    · obtain ⟨pe, hpe⟩ : ∃ pe, pe = perr L s d := ⟨_, rfl⟩
      have q : (pe != 0) = true := by rw [bne_iff_ne, hpe]; exact h4
      rw [← hpe]
      clear hpe h4
      have B5 := Lib.hid (B4.out.alloc B4.out.size (.cells #[.int .i64 0, .int .i64 0, .slice none 0 0] 24))
      go_wp2_with fail
      refine (awake_any _).mono ?_
      rintro e w6 ⟨rfl, hb⟩
      have B6 := Lib.hid (B5.out.trans (hb.mono B5.out.size))
      clear hb
      go_wp2_with fail
      go_ret
      exact ⟨rfl, B6.out⟩

theorem turned_any (a b : Int) (A : Option Addr) (n c : Nat) (l : List Int) (s d : ByteArray) (k x : Int) (x0 : 0 ≤ x) (x1 : x ≤ 255) (w : World) (h : Got a b A n c l s d w) :
    Calls Try.prog 6 #[.agg #[.int .i64 a, .int .i64 b, .slice A n c], .string s, .string d, .int .i64 k, .int .u8 x] w (Yes w) := by
  cases hf : fewB s d n with
  | false => exact turned_no a b A n c l s d k x w h hf
  | true =>
    by_cases he : err a b s d n = 0
    · exact turned_ok a b A n c l s d k x x0 x1 w h hf he
    · exact turned_err a b A n c l s d k x w h hf he
end Go.Proofs.Ytmpioomhimldaaa.LawTurned
