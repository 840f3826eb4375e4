/- The law Ip6Back. -/
import Derived.Test.YtjfieoleoodfdaaLawFields
set_option linter.unusedVariables false
namespace Go.Proofs.Ytjfieoleoodfdaa.LawBack
open Go.RowKit Go.Sort Go.Proofs.Ytjfieoleoodfdaa.Sums Go.Proofs.Ytjfieoleoodfdaa.Mem Go.Proofs.Ytjfieoleoodfdaa.P6 Go.Proofs.Ytjfieoleoodfdaa.Blk Go.Proofs.Ytjfieoleoodfdaa.Small6 Go.Proofs.Ytjfieoleoodfdaa.Loads6 Go.Proofs.Ytjfieoleoodfdaa.Exts Go.Proofs.Ytjfieoleoodfdaa.Opts Go.Proofs.Ytjfieoleoodfdaa.Exb6 Go.Proofs.Ytjfieoleoodfdaa.Dec6 Go.Proofs.Ytjfieoleoodfdaa.Bytes6 Go.Proofs.Ytjfieoleoodfdaa.Same6 Go.Proofs.Ytjfieoleoodfdaa.Parse6 Go.Proofs.Ytjfieoleoodfdaa.Awake6 Go.Proofs.Ytjfieoleoodfdaa.Check6 Go.Proofs.Ytjfieoleoodfdaa.Kinds6 Go.Proofs.Ytjfieoleoodfdaa.Cut Go.Proofs.Ytjfieoleoodfdaa.LawFields

theorem len_behind : ∀ l : P6.Exts, l.length ≤ behind l
  | [] => Nat.zero_le _
  | x :: r => by
    have := len_behind r
    have h := (opn_le x.1).1
    simp only [behind, sz, List.length_cons]
    omega

theorem back_no (p : Pkt) (E : Option Addr) (m ce : Nat) (A : Option Addr) (n c : Nat) (l : List Int) (b : Value) (w : World) (h : Got p E m ce A n c l w) (hf : fewB p n = false) :
    Calls Try.prog 5 #[.agg #[.int .i64 p.cls, .int .i64 p.lab, .int .i64 p.hop, .string p.src, .string p.dst, .slice E m ce, .int .i64 p.next, .slice A n c], b] w (Yes w) := by
  have B0 := Lib.hid ((Below.refl w.heap.size w).alloc (Nat.le_refl _) (.cells #[.int .i64 p.cls, .int .i64 p.lab, .int .i64 p.hop, .string p.src, .string p.dst, .slice E m ce, .int .i64 p.next, .slice A n c] 25))
  have F := Lib.hid (h.few _ B0.out)
  unfold Fw at F
  rw [hf] at F
  clear h hf
  go_enter Try.func5, Try.ntmps5
  go_wp2_with fail
  refine F.out.mono ?_
  rintro e w1 ⟨rfl, hb⟩
  have B1 := Lib.hid (B0.out.trans (hb.mono B0.out.size))
  clear hb
  go_wp2_with fail
  go_ret
  exact ⟨rfl, B1.out⟩
theorem back_big (p : Pkt) (E : Option Addr) (m ce : Nat) (A : Option Addr) (n c : Nat) (l : List Int) (A2 : Option Addr) (n2 c2 : Nat) (w : World) (h : Got p E m ce A n c l w) (hf : fewB p n = true) (h4 : 4000 < n2) :
    Calls Try.prog 5 #[.agg #[.int .i64 p.cls, .int .i64 p.lab, .int .i64 p.hop, .string p.src, .string p.dst, .slice E m ce, .int .i64 p.next, .slice A n c], .slice A2 n2 c2] w (Yes w) := by
  have B0 := Lib.hid ((Below.refl w.heap.size w).alloc (Nat.le_refl _) (.cells #[.int .i64 p.cls, .int .i64 p.lab, .int .i64 p.hop, .string p.src, .string p.dst, .slice E m ce, .int .i64 p.next, .slice A n c] 25))
  have F := Lib.hid (h.few _ B0.out)
  unfold Fw at F
  rw [hf] at F
  have b4 : (4000 : Int) < (n2 : Int) := by omega
  clear h hf h4
  go_enter Try.func5, Try.ntmps5
  go_wp2_with fail
  refine F.out.mono ?_
  rintro e w1 ⟨rfl, hb⟩
  have B1 := Lib.hid (B0.out.trans (hb.mono B0.out.size))
  clear hb
  go_wp2_with fail
  go_ret
  exact ⟨rfl, B1.out⟩


set_option maxHeartbeats 8000000 in
set_option maxRecDepth 100000 in
theorem back_err (p : Pkt) (E : Option Addr) (m ce : Nat) (A : Option Addr) (n c : Nat) (l : List Int) (A2 : Option Addr) (n2 c2 : Nat) (l2 : List Int) (w : World) (h : Got p E m ce A n c l w) (h2 : Holds w w.heap.size A2 n2 c2 l2) (hf : fewB p n = true) (h3 : n2 ≤ 4000) (hk : p.chk n ≠ 0) :
    Calls Try.prog 5 #[.agg #[.int .i64 p.cls, .int .i64 p.lab, .int .i64 p.hop, .string p.src, .string p.dst, .slice E m ce, .int .i64 p.next, .slice A n c], .slice A2 n2 c2] w (Yes w) := by
  have fw := few_true hf
  have B0 := Lib.hid ((Below.refl w.heap.size w).alloc (Nat.le_refl _) (.cells #[.int .i64 p.cls, .int .i64 p.lab, .int .i64 p.hop, .string p.src, .string p.dst, .slice E m ce, .int .i64 p.next, .slice A n c] 25))
  have P0 := Lib.hid (Blk.new w 25 #[.int .i64 p.cls, .int .i64 p.lab, .int .i64 p.hop, .string p.src, .string p.dst, .slice E m ce, .int .i64 p.next, .slice A n c])
  have F := Lib.hid (h.few _ B0.out)
  unfold Fw at F
  rw [hf] at F
  have ml := h.row.len
  have m40 : m ≤ 40 := by have := fw.2.1; omega
  have EB := Lib.hid (fun W (bel : Below w.heap.size w W) => bytes_err p E m ce A n c W (h.row.below bel) fw.2.2.2 (by omega) (by omega) hk)
  have hk' : (p.chk n == 0) = false := by rw [beq_eq_false_iff_ne]; exact hk
  have b4 : ¬ (4000 : Int) < (n2 : Int) := by omega
  have H2 := Lib.hid h2
  clear hk fw hf h h2
  go_enter Try.func5, Try.ntmps5
  go_wp2_with fail
  refine F.out.mono ?_
  rintro e w1 ⟨rfl, hb⟩
  have B1 := Lib.hid (B0.out.trans (hb.mono B0.out.size))
  have P1 := Lib.hid (P0.out.below hb P0.out.lt)
  clear hb F P0 B0
  go_wp2_with (first
    | (refine Loads.wpList_load_w rfl 25 (.tmp 2) rfl w.heap.size rfl 25 #[.int .i64 p.cls, .int .i64 p.lab, .int .i64 p.hop, .string p.src, .string p.dst, .slice E m ce, .int .i64 p.next, .slice A n c] (0, 0) _ P1.out (Try.underlying25) rfl (by kernel_rfl) ?_))

  refine (EB.out _ B1.out).mono ?_
  rintro e w2 ⟨rfl, hb⟩
  have B2 := Lib.hid (B1.out.trans (hb.mono B1.out.size))
  clear hb EB P1 B1
  go_wp2_with fail
  refine (parse_any A2 n2 c2 l2 _ w.heap.size (H2.out.below B2.out) B2.out.size (by omega)).mono ?_
  rintro e w5 ⟨h5, hb⟩
  have B5 := Lib.hid (B2.out.trans (hb.mono B2.out.size))
  clear hb
  rcases h5 with ⟨pz, E6, ce6, A6, n6, c6, rfl, o5, d5⟩ | ⟨pz, rfl⟩
  · obtain ⟨vd, hput, hbig, _⟩ := read_good H2.out.2.2.2.1 pz
    obtain ⟨q, hq⟩ : ∃ q, q = pkOf l2 := ⟨_, rfl⟩
    rw [← hq] at vd hput hbig o5 ⊢
    obtain ⟨t2, ht2⟩ : ∃ t2, t2 = (tail l2).2.2 := ⟨_, rfl⟩
    rw [← ht2] at hput hbig d5
    have hlb := len_behind q.exts
    have tl := d5.len
    have R5 := Lib.hid (Row.of_owns o5)
    have D5 := Lib.hid d5.holds
    have PUT := Lib.hid hput
    have l2n := H2.out.1
    have N5 : 40 + (n6 + behind q.exts) = n2 := by
      have := bytes_len vd t2
      rw [hput] at this
      omega
    clear o5 d5 hq ht2 hput pz
    have Q6 := Lib.hid (Blk.new w5 25 #[.int .i64 q.cls, .int .i64 q.lab, .int .i64 q.hop, .string q.src, .string q.dst, .slice E6 q.exts.length ce6, .int .i64 q.next, .slice A6 n6 c6])
    have B6 := Lib.hid (B5.out.alloc B5.out.size (.cells #[.int .i64 q.cls, .int .i64 q.lab, .int .i64 q.hop, .string q.src, .string q.dst, .slice E6 q.exts.length ce6, .int .i64 q.next, .slice A6 n6 c6] 25))
    have R6 := Lib.hid (R5.out.below ((Below.refl _ w5).alloc (Nat.le_refl _) (.cells #[.int .i64 q.cls, .int .i64 q.lab, .int .i64 q.hop, .string q.src, .string q.dst, .slice E6 q.exts.length ce6, .int .i64 q.next, .slice A6 n6 c6] 25)))
    have D6 := Lib.hid ((D5.out.below ((Below.refl _ w5).alloc (Nat.le_refl _) (.cells #[.int .i64 q.cls, .int .i64 q.lab, .int .i64 q.hop, .string q.src, .string q.dst, .slice E6 q.exts.length ce6, .int .i64 q.next, .slice A6 n6 c6] 25))).more (by simp : w5.heap.size ≤ (w5.alloc (.cells #[.int .i64 q.cls, .int .i64 q.lab, .int .i64 q.hop, .string q.src, .string q.dst, .slice E6 q.exts.length ce6, .int .i64 q.next, .slice A6 n6 c6] 25)).heap.size))
    have DY := Lib.hid (bytes_ok q E6 q.exts.length ce6 A6 n6 c6 t2 _ R6.out D6.out (by omega) vd (by omega))
    go_wp2_with (first
      | (refine Loads.wpList_load_w rfl 25 (.tmp 9) rfl w5.heap.size rfl 25 #[.int .i64 q.cls, .int .i64 q.lab, .int .i64 q.hop, .string q.src, .string q.dst, .slice E6 q.exts.length ce6, .int .i64 q.next, .slice A6 n6 c6] (0, 0) _ Q6.out (Try.underlying25) rfl (by kernel_rfl) ?_))
    refine DY.out.mono ?_
    rintro e w7 ⟨v7, rfl, o7, hb⟩
    have B7 := Lib.hid (B6.out.trans (hb.mono B6.out.size))
    clear hb DY R6 D6 R5 D5 Q6
    rw [N5, PUT.out] at o7
    obtain ⟨A7, c7, rfl, h7⟩ := o7.slice
    have H7 := Lib.hid h7
    have HB := Lib.hid (H2.out.below B7.out)
    clear o7 h7
    go_wp2_with fail
    refine (awake_any w7).mono ?_
    rintro e w8 ⟨rfl, hb⟩
    have B8 := Lib.hid (B7.out.trans (hb.mono B7.out.size))
    have v1 : (convert 23 9 (.slice A7 n2 c7)).run Try.prog w8 = .ok (.string (strOfNums l2)) w8 := run_string_bytes (H7.out.below hb)
    have v2 : (convert 23 9 (.slice A2 n2 c2)).run Try.prog w8 = .ok (.string (strOfNums l2)) w8 := run_string_bytes (HB.out.below (hb.mono B7.out.size))
    clear hb
    generalize strOfNums l2 = bstr at *
    go_wp2_with fail
    go_ret
    exact ⟨rfl, B8.out⟩
  · have q5 : (perr l2 != 0) = true := by rw [bne_iff_ne]; exact pz
    clear pz
    have Q6 := Lib.hid (Blk.new w5 25 #[.int .i64 0, .int .i64 0, .int .i64 0, .string ⟨#[]⟩, .string ⟨#[]⟩, .slice none 0 0, .int .i64 0, .slice none 0 0])
    have B6 := Lib.hid (B5.out.alloc B5.out.size (.cells #[.int .i64 0, .int .i64 0, .int .i64 0, .string ⟨#[]⟩, .string ⟨#[]⟩, .slice none 0 0, .int .i64 0, .slice none 0 0] 25))
    go_wp2_with fail
    refine (awake_any _).mono ?_
    rintro e w7 ⟨rfl, hb⟩
    have Q7 := Lib.hid (Q6.out.below hb Q6.out.lt)
    have B7 := Lib.hid (B6.out.trans (hb.mono B6.out.size))
    clear hb
    have SY := Lib.hid (fun W => same_yes ⟨0, 0, 0, ⟨#[]⟩, ⟨#[]⟩, [], 0⟩ none 0 0 none 0 0 none 0 0 none 0 0 0 [] W (Row.nil W) (Row.nil W) (Holds.nil _ _ _) (Holds.nil _ _ _) (Nat.zero_le _) (by decide))
    go_wp2_with (first
      | (refine Loads.wpList_load_w rfl 25 (.tmp 9) rfl w5.heap.size rfl 25 #[.int .i64 0, .int .i64 0, .int .i64 0, .string ⟨#[]⟩, .string ⟨#[]⟩, .slice none 0 0, .int .i64 0, .slice none 0 0] (0, 0) _ Q7.out (Try.underlying25) rfl (by kernel_rfl) ?_))
    refine (SY.out _).mono ?_
    rintro e w8 ⟨rfl, hb⟩
    have B8 := Lib.hid (B7.out.trans (hb.mono B7.out.size))
    clear hb
    go_wp2_with fail
    go_ret
    exact ⟨rfl, B8.out⟩

set_option maxHeartbeats 8000000 in
set_option maxRecDepth 100000 in
theorem back_ok (p : Pkt) (E : Option Addr) (m ce : Nat) (A : Option Addr) (n c : Nat) (l : List Int) (A2 : Option Addr) (n2 c2 : Nat) (l2 : List Int) (w : World) (h : Got p E m ce A n c l w) (h2 : Holds w w.heap.size A2 n2 c2 l2) (hf : fewB p n = true) (h3 : n2 ≤ 4000) (hk : p.chk n = 0) :
    Calls Try.prog 5 #[.agg #[.int .i64 p.cls, .int .i64 p.lab, .int .i64 p.hop, .string p.src, .string p.dst, .slice E m ce, .int .i64 p.next, .slice A n c], .slice A2 n2 c2] w (Yes w) := by
  have fw := few_true hf
  have B0 := Lib.hid ((Below.refl w.heap.size w).alloc (Nat.le_refl _) (.cells #[.int .i64 p.cls, .int .i64 p.lab, .int .i64 p.hop, .string p.src, .string p.dst, .slice E m ce, .int .i64 p.next, .slice A n c] 25))
  have P0 := Lib.hid (Blk.new w 25 #[.int .i64 p.cls, .int .i64 p.lab, .int .i64 p.hop, .string p.src, .string p.dst, .slice E m ce, .int .i64 p.next, .slice A n c])
  have F := Lib.hid (h.few _ B0.out)
  unfold Fw at F
  rw [hf] at F
  have ml := h.row.len
  have m40 : m ≤ 40 := by have := fw.2.1; omega
  obtain ⟨hv, hS⟩ := chk_zero hk
  have hl := h.data.1
  have OK := Lib.hid (fun W (bel : Below w.heap.size w W) => bytes_ok p E m ce A n c l W (h.row.below bel) ((h.data.below bel).more bel.size) (by omega) hv hS)
  have PE := Lib.hid (bytes_perr hv (l := l) (by omega))
  have R0 := Lib.hid h.row
  have HL := Lib.hid h.data
  have b4 : ¬ (4000 : Int) < (n2 : Int) := by omega
  have H2 := Lib.hid h2
  clear hk fw hf h h2
  go_enter Try.func5, Try.ntmps5
  go_wp2_with fail
  refine F.out.mono ?_
  rintro e w1 ⟨rfl, hb⟩
  have B1 := Lib.hid (B0.out.trans (hb.mono B0.out.size))
  have P1 := Lib.hid (P0.out.below hb P0.out.lt)
  clear hb F P0 B0
  go_wp2_with (first
    | (refine Loads.wpList_load_w rfl 25 (.tmp 2) rfl w.heap.size rfl 25 #[.int .i64 p.cls, .int .i64 p.lab, .int .i64 p.hop, .string p.src, .string p.dst, .slice E m ce, .int .i64 p.next, .slice A n c] (0, 0) _ P1.out (Try.underlying25) rfl (by kernel_rfl) ?_))

  refine (OK.out _ B1.out).mono ?_
  rintro e w2 ⟨v, rfl, o2, hb⟩
  have B2 := Lib.hid (B1.out.trans (hb.mono B1.out.size))
  have P2 := Lib.hid (P1.out.below hb P1.out.lt)
  clear hb
  obtain ⟨Ac, cc, rfl, hc2⟩ := o2.slice
  have HC := Lib.hid hc2
  clear o2 hc2 OK P1 B1
  go_wp2_with fail
  refine (parse_any _ _ _ _ _ _ HC.out (Nat.le_refl _) (by omega)).mono ?_
  rintro e w3 ⟨h3', hb⟩
  have B3 := Lib.hid (B2.out.trans (hb.mono B2.out.size))
  have P3 := Lib.hid (P2.out.below hb P2.out.lt)
  clear hb
  rcases h3' with ⟨_, E3, ce3, A3, n3, c3, rfl, o3, d3⟩ | ⟨h3', _⟩
  case inr => exact absurd PE.out.1 h3'
  rw [PE.out.2.1] at o3 ⊢
  rw [PE.out.2.2] at d3
  obtain rfl : n3 = n := by have := d3.len; omega
  rw [ml] at o3 ⊢
  have R3 := Lib.hid (Row.of_owns (show w3.ownsRow _ 43 2 (.slice E3 m ce3) p.exts.length (Opts.cells p.exts) by rw [ml]; exact o3))
  have D3 := Lib.hid d3.holds
  clear o3 d3
  have Q4 := Lib.hid (Blk.new w3 25 #[.int .i64 p.cls, .int .i64 p.lab, .int .i64 p.hop, .string p.src, .string p.dst, .slice E3 m ce3, .int .i64 p.next, .slice A3 n3 c3])
  have g4 := (Below.refl w3.heap.size w3).alloc (Nat.le_refl _) (.cells #[.int .i64 p.cls, .int .i64 p.lab, .int .i64 p.hop, .string p.src, .string p.dst, .slice E3 m ce3, .int .i64 p.next, .slice A3 n3 c3] 25)
  have B4 := Lib.hid (B3.out.alloc B3.out.size (.cells #[.int .i64 p.cls, .int .i64 p.lab, .int .i64 p.hop, .string p.src, .string p.dst, .slice E3 m ce3, .int .i64 p.next, .slice A3 n3 c3] 25))
  have P4 := Lib.hid (P3.out.alloc (.cells #[.int .i64 p.cls, .int .i64 p.lab, .int .i64 p.hop, .string p.src, .string p.dst, .slice E3 m ce3, .int .i64 p.next, .slice A3 n3 c3] 25))
  have SY := Lib.hid (same_yes p E m ce A n3 c E3 m ce3 A3 n3 c3 _ l _ (R0.out.below B4.out) (R3.out.below g4) ((HL.out.below B4.out).more B4.out.size) ((D3.out.below g4).more g4.size) (Nat.le_refl _) (by omega))
  clear g4
  go_wp2_with (first
    | (refine Loads.wpList_load_w rfl 25 (.tmp 2) rfl w.heap.size rfl 25 #[.int .i64 p.cls, .int .i64 p.lab, .int .i64 p.hop, .string p.src, .string p.dst, .slice E m ce, .int .i64 p.next, .slice A n3 c] (0, 0) _ P4.out (Try.underlying25) rfl (by kernel_rfl) ?_)
    | (refine Loads.wpList_load_w rfl 25 (.tmp 7) rfl w3.heap.size rfl 25 #[.int .i64 p.cls, .int .i64 p.lab, .int .i64 p.hop, .string p.src, .string p.dst, .slice E3 m ce3, .int .i64 p.next, .slice A3 n3 c3] (0, 0) _ Q4.out (Try.underlying25) rfl (by kernel_rfl) ?_))
  refine SY.out.mono ?_
  rintro e w4 ⟨rfl, hb⟩
  have B44 := Lib.hid (B4.out.trans (hb.mono B4.out.size))
  clear hb SY P4 Q4 P3 B3 HC P2 B2 PE HL B4 R0 R3 D3
  go_wp2_with fail
  refine (parse_any A2 n2 c2 l2 _ w.heap.size (H2.out.below B44.out) B44.out.size (by omega)).mono ?_
  rintro e w5 ⟨h5, hb⟩
  have B5 := Lib.hid (B44.out.trans (hb.mono B44.out.size))
  clear hb
  rcases h5 with ⟨pz, E6, ce6, A6, n6, c6, rfl, o5, d5⟩ | ⟨pz, rfl⟩
  · obtain ⟨vd, hput, hbig, _⟩ := read_good H2.out.2.2.2.1 pz
    obtain ⟨q, hq⟩ : ∃ q, q = pkOf l2 := ⟨_, rfl⟩
    rw [← hq] at vd hput hbig o5 ⊢
    obtain ⟨t2, ht2⟩ : ∃ t2, t2 = (tail l2).2.2 := ⟨_, rfl⟩
    rw [← ht2] at hput hbig d5
    have hlb := len_behind q.exts
    have tl := d5.len
    have R5 := Lib.hid (Row.of_owns o5)
    have D5 := Lib.hid d5.holds
    have PUT := Lib.hid hput
    have l2n := H2.out.1
    have N5 : 40 + (n6 + behind q.exts) = n2 := by
      have := bytes_len vd t2
      rw [hput] at this
      omega
    clear o5 d5 hq ht2 hput pz
    have Q6 := Lib.hid (Blk.new w5 25 #[.int .i64 q.cls, .int .i64 q.lab, .int .i64 q.hop, .string q.src, .string q.dst, .slice E6 q.exts.length ce6, .int .i64 q.next, .slice A6 n6 c6])
    have B6 := Lib.hid (B5.out.alloc B5.out.size (.cells #[.int .i64 q.cls, .int .i64 q.lab, .int .i64 q.hop, .string q.src, .string q.dst, .slice E6 q.exts.length ce6, .int .i64 q.next, .slice A6 n6 c6] 25))
    have R6 := Lib.hid (R5.out.below ((Below.refl _ w5).alloc (Nat.le_refl _) (.cells #[.int .i64 q.cls, .int .i64 q.lab, .int .i64 q.hop, .string q.src, .string q.dst, .slice E6 q.exts.length ce6, .int .i64 q.next, .slice A6 n6 c6] 25)))
    have D6 := Lib.hid ((D5.out.below ((Below.refl _ w5).alloc (Nat.le_refl _) (.cells #[.int .i64 q.cls, .int .i64 q.lab, .int .i64 q.hop, .string q.src, .string q.dst, .slice E6 q.exts.length ce6, .int .i64 q.next, .slice A6 n6 c6] 25))).more (by simp : w5.heap.size ≤ (w5.alloc (.cells #[.int .i64 q.cls, .int .i64 q.lab, .int .i64 q.hop, .string q.src, .string q.dst, .slice E6 q.exts.length ce6, .int .i64 q.next, .slice A6 n6 c6] 25)).heap.size))
    have DY := Lib.hid (bytes_ok q E6 q.exts.length ce6 A6 n6 c6 t2 _ R6.out D6.out (by omega) vd (by omega))
    go_wp2_with (first
      | (refine Loads.wpList_load_w rfl 25 (.tmp 9) rfl w5.heap.size rfl 25 #[.int .i64 q.cls, .int .i64 q.lab, .int .i64 q.hop, .string q.src, .string q.dst, .slice E6 q.exts.length ce6, .int .i64 q.next, .slice A6 n6 c6] (0, 0) _ Q6.out (Try.underlying25) rfl (by kernel_rfl) ?_))
    refine DY.out.mono ?_
    rintro e w7 ⟨v7, rfl, o7, hb⟩
    have B7 := Lib.hid (B6.out.trans (hb.mono B6.out.size))
    clear hb DY R6 D6 R5 D5 Q6
    rw [N5, PUT.out] at o7
    obtain ⟨A7, c7, rfl, h7⟩ := o7.slice
    have H7 := Lib.hid h7
    have HB := Lib.hid (H2.out.below B7.out)
    clear o7 h7
    go_wp2_with fail
    refine (awake_any w7).mono ?_
    rintro e w8 ⟨rfl, hb⟩
    have B8 := Lib.hid (B7.out.trans (hb.mono B7.out.size))
    have v1 : (convert 23 9 (.slice A7 n2 c7)).run Try.prog w8 = .ok (.string (strOfNums l2)) w8 := run_string_bytes (H7.out.below hb)
    have v2 : (convert 23 9 (.slice A2 n2 c2)).run Try.prog w8 = .ok (.string (strOfNums l2)) w8 := run_string_bytes (HB.out.below (hb.mono B7.out.size))
    clear hb
    generalize strOfNums l2 = bstr at *
    go_wp2_with fail
    go_ret
    exact ⟨rfl, B8.out⟩
  · have q5 : (perr l2 != 0) = true := by rw [bne_iff_ne]; exact pz
    clear pz
    have Q6 := Lib.hid (Blk.new w5 25 #[.int .i64 0, .int .i64 0, .int .i64 0, .string ⟨#[]⟩, .string ⟨#[]⟩, .slice none 0 0, .int .i64 0, .slice none 0 0])
    have B6 := Lib.hid (B5.out.alloc B5.out.size (.cells #[.int .i64 0, .int .i64 0, .int .i64 0, .string ⟨#[]⟩, .string ⟨#[]⟩, .slice none 0 0, .int .i64 0, .slice none 0 0] 25))
    go_wp2_with fail
    refine (awake_any _).mono ?_
    rintro e w7 ⟨rfl, hb⟩
    have Q7 := Lib.hid (Q6.out.below hb Q6.out.lt)
    have B7 := Lib.hid (B6.out.trans (hb.mono B6.out.size))
    clear hb
    have SY := Lib.hid (fun W => same_yes ⟨0, 0, 0, ⟨#[]⟩, ⟨#[]⟩, [], 0⟩ none 0 0 none 0 0 none 0 0 none 0 0 0 [] W (Row.nil W) (Row.nil W) (Holds.nil _ _ _) (Holds.nil _ _ _) (Nat.zero_le _) (by decide))
    go_wp2_with (first
      | (refine Loads.wpList_load_w rfl 25 (.tmp 9) rfl w5.heap.size rfl 25 #[.int .i64 0, .int .i64 0, .int .i64 0, .string ⟨#[]⟩, .string ⟨#[]⟩, .slice none 0 0, .int .i64 0, .slice none 0 0] (0, 0) _ Q7.out (Try.underlying25) rfl (by kernel_rfl) ?_))
    refine (SY.out _).mono ?_
    rintro e w8 ⟨rfl, hb⟩
    have B8 := Lib.hid (B7.out.trans (hb.mono B7.out.size))
    clear hb
    go_wp2_with fail
    go_ret
    exact ⟨rfl, B8.out⟩

theorem back_any (p : Pkt) (E : Option Addr) (m ce : Nat) (A : Option Addr) (n c : Nat) (l : List Int) (A2 : Option Addr) (n2 c2 : Nat) (l2 : List Int) (w : World) (h : Got p E m ce A n c l w) (h2 : Holds w w.heap.size A2 n2 c2 l2) :
    Calls Try.prog 5 #[.agg #[.int .i64 p.cls, .int .i64 p.lab, .int .i64 p.hop, .string p.src, .string p.dst, .slice E m ce, .int .i64 p.next, .slice A n c], .slice A2 n2 c2] w (Yes w) := by
  cases hf : fewB p n with
  | false => exact back_no p E m ce A n c l _ w h hf
  | true =>
    by_cases hb : 4000 < n2
    · exact back_big p E m ce A n c l A2 n2 c2 w h hf hb
    · by_cases hk : p.chk n = 0
      · exact back_ok p E m ce A n c l A2 n2 c2 l2 w h h2 hf (by omega) hk
      · exact back_err p E m ce A n c l A2 n2 c2 l2 w h h2 hf (by omega) hk
end Go.Proofs.Ytjfieoleoodfdaa.LawBack
