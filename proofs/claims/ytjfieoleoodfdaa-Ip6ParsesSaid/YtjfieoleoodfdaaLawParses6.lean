/- The law Ip6Parses. -/
import Derived.Test.YtjfieoleoodfdaaLawBack6
import Derived.Test.YtjfieoleoodfdaaPrefB
set_option linter.unusedVariables false
namespace Go.Proofs.Ytjfieoleoodfdaa.LawParses
open Go.RowKit Go.Sort Go.Proofs.Ytjfieoleoodfdaa.Sums Go.Proofs.Ytjfieoleoodfdaa.Mem Go.Proofs.Ytjfieoleoodfdaa.P6 Go.Proofs.Ytjfieoleoodfdaa.Blk Go.Proofs.Ytjfieoleoodfdaa.Small6 Go.Proofs.Ytjfieoleoodfdaa.Loads6 Go.Proofs.Ytjfieoleoodfdaa.Exts Go.Proofs.Ytjfieoleoodfdaa.Opts Go.Proofs.Ytjfieoleoodfdaa.Exb6 Go.Proofs.Ytjfieoleoodfdaa.Dec6 Go.Proofs.Ytjfieoleoodfdaa.Bytes6 Go.Proofs.Ytjfieoleoodfdaa.Same6 Go.Proofs.Ytjfieoleoodfdaa.Parse6 Go.Proofs.Ytjfieoleoodfdaa.Awake6 Go.Proofs.Ytjfieoleoodfdaa.Check6 Go.Proofs.Ytjfieoleoodfdaa.Kinds6 Go.Proofs.Ytjfieoleoodfdaa.Cut Go.Proofs.Ytjfieoleoodfdaa.LawFields Go.Proofs.Ytjfieoleoodfdaa.ParseRef Go.Proofs.Ytjfieoleoodfdaa.LawBack

theorem pref_any (A : Option Addr) (n c : Nat) (l : List Int) (w : World) (B : Nat) (h : Holds w B A n c l) (hB : B ≤ w.heap.size) (hn : n ≤ 1048576) : Calls Try.prog 19 #[.slice A n c] w (Gp l w) := by
  by_cases h40 : n < 40
  · exact pref_short A n c l w B h hB h40
  · obtain ⟨b, p, rfl, _⟩ := h.2.2.2.2 (by omega)
    by_cases he : eb l = 0
    · exact pref_ok b p n c l w B h hB hn (by omega) he
    · exact pref_bad b p n c l w B h hB hn (by omega) he

theorem parses_big (A2 : Option Addr) (n2 c2 : Nat) (w : World) (h4 : 4000 < n2) :
    Calls Try.prog 4 #[.slice A2 n2 c2] w (Yes w) := by
  have b4 : (4000 : Int) < (n2 : Int) := by omega
  go_enter Try.func4, Try.ntmps4
  go_wp2_with fail
  go_ret
  exact ⟨rfl, Below.refl _ _⟩

/-- A packet's value, as it was read. -/
abbrev val (q : Pkt) (E : Option Addr) (ce : Nat) (A : Option Addr) (n c : Nat) : Array Value := #[.int .i64 q.cls, .int .i64 q.lab, .int .i64 q.hop, .string q.src, .string q.dst, .slice E q.exts.length ce, .int .i64 q.next, .slice A n c]

set_option maxHeartbeats 8000000 in
set_option maxRecDepth 100000 in
theorem parses_small (A2 : Option Addr) (n2 c2 : Nat) (l2 : List Int) (w : World) (h : Holds w w.heap.size A2 n2 c2 l2) (h4 : n2 ≤ 4000) :
    Calls Try.prog 4 #[.slice A2 n2 c2] w (Yes w) := by
  have b4 : ¬ (4000 : Int) < (n2 : Int) := by omega
  have H2 := Lib.hid h
  clear h
  go_enter Try.func4, Try.ntmps4
  go_wp2_with fail
  refine (Both.both_lit (B := w.heap.size) (Nat.le_refl _) [⟨A2, n2, c2, l2⟩] _ _ rfl (Both.mem1 H2.out) _ 1 (by simp) rfl (by decide) (by show n2 + 0 ≤ 1048576; omega)).mono ?_
  rintro e w1 ⟨A3, c3, rfl, h3, _, hb⟩
  have h3' : Holds w1 w1.heap.size A3 n2 c3 l2 := by
    have e1 : Both.flat [⟨A2, n2, c2, l2⟩] = l2 := by simp [Both.flat]
    rw [e1] at h3
    exact h3
  have e0 : Both.total [⟨A2, n2, c2, l2⟩] = n2 := rfl
  rw [e0]
  have B1 := Lib.hid hb
  have H3 := Lib.hid h3'
  clear hb h3 h3' e0
  go_wp2_with fail
  refine (parse_any A3 n2 c3 l2 _ _ H3.out (Nat.le_refl _) (by omega)).mono ?_
  rintro e w2 ⟨g2, hb⟩
  have B2 := Lib.hid (B1.out.trans (hb.mono B1.out.size))
  have C2 := Lib.hid hb
  clear hb
  have hs2 := B1.out.size
  rcases g2 with ⟨pz, E4, ce4, A4, n4, c4, rfl, o4, d4⟩ | ⟨pz, rfl⟩
  · obtain ⟨q, hq⟩ : ∃ q, q = pkOf l2 := ⟨_, rfl⟩
    rw [← hq] at o4 ⊢
    obtain ⟨t2, ht2⟩ : ∃ t2, t2 = (P6.tail l2).2.2 := ⟨_, rfl⟩
    rw [← ht2] at d4
    obtain ⟨vd, _, hbig, _⟩ := read_good H2.out.2.2.2.1 pz
    rw [← hq] at vd hbig
    rw [← ht2] at hbig
    have n4e := d4.len
    have ql : q.exts.length ≤ 65535 := by have := len_behind q.exts; omega
    have R4 := Lib.hid (Row.of_owns o4)
    have D4 := Lib.hid d4.holds
    have QH := Lib.hid hq
    have TH := Lib.hid ht2
    have PZ := Lib.hid pz
    clear o4 d4 hq ht2 pz vd hbig
    have P3 := Lib.hid (Blk.new w2 25 (val q E4 ce4 A4 n4 c4))
    have B3 := Lib.hid (B2.out.alloc B2.out.size (.cells (val q E4 ce4 A4 n4 c4) 25))
    have C3 := Lib.hid ((Below.refl _ w2).alloc (Nat.le_refl _) (.cells (val q E4 ce4 A4 n4 c4) 25))
    unfold val at *
    go_wp2_with fail
    refine (pref_any A2 n2 c2 l2 _ w.heap.size (H2.out.below B3.out) B3.out.size (by omega)).mono ?_
    rintro e w4 ⟨g4, hb⟩
    have B4 := Lib.hid (B3.out.trans (hb.mono B3.out.size))
    have C4 := Lib.hid (C3.out.trans (hb.mono C3.out.size))
    have P4 := Lib.hid (P3.out.below hb P3.out.lt)
    clear hb
    rcases g4 with ⟨_, E5, ce5, A5, n5, c5, rfl, o5, d5⟩ | ⟨pz, _⟩
    case inr => exact absurd PZ.out pz
    rw [← QH.out] at o5 ⊢
    rw [← TH.out] at d5
    obtain rfl : n5 = n4 := by have := d5.len; omega
    have R5 := Lib.hid (Row.of_owns o5)
    have D5 := Lib.hid d5.holds
    clear o5 d5
    have Q6 := Lib.hid (Blk.new w4 25 #[.int .i64 q.cls, .int .i64 q.lab, .int .i64 q.hop, .string q.src, .string q.dst, .slice E5 q.exts.length ce5, .int .i64 q.next, .slice A5 n5 c5])
    have P6 := Lib.hid (P4.out.alloc (.cells #[.int .i64 q.cls, .int .i64 q.lab, .int .i64 q.hop, .string q.src, .string q.dst, .slice E5 q.exts.length ce5, .int .i64 q.next, .slice A5 n5 c5] 25))
    have B6 := Lib.hid (B4.out.alloc B4.out.size (.cells #[.int .i64 q.cls, .int .i64 q.lab, .int .i64 q.hop, .string q.src, .string q.dst, .slice E5 q.exts.length ce5, .int .i64 q.next, .slice A5 n5 c5] 25))
    have C6 := Lib.hid (C4.out.alloc C4.out.size (.cells #[.int .i64 q.cls, .int .i64 q.lab, .int .i64 q.hop, .string q.src, .string q.dst, .slice E5 q.exts.length ce5, .int .i64 q.next, .slice A5 n5 c5] 25))
    have G6 := Lib.hid ((Below.refl _ w4).alloc (Nat.le_refl _) (.cells #[.int .i64 q.cls, .int .i64 q.lab, .int .i64 q.hop, .string q.src, .string q.dst, .slice E5 q.exts.length ce5, .int .i64 q.next, .slice A5 n5 c5] 25))
    clear P3 B3 C3 P4
    go_wp2_with fail
    refine (awake_any _).mono ?_
    rintro e w7 ⟨rfl, hb⟩
    have B7 := Lib.hid (B6.out.trans (hb.mono B6.out.size))
    have C7 := Lib.hid (C6.out.trans (hb.mono C6.out.size))
    have G7 := Lib.hid (G6.out.trans (hb.mono G6.out.size))
    have P7 := Lib.hid (P6.out.below hb P6.out.lt)
    have Q7 := Lib.hid (Q6.out.below hb Q6.out.lt)
    clear hb P6 Q6 B6 C6 G6
    have v1 : (convert 23 9 (.slice A3 n2 c3)).run Try.prog w7 = .ok (.string (strOfNums l2)) w7 := run_string_bytes ((H3.out.below C2.out).below (C7.out.mono C2.out.size))
    have v2 : (convert 23 9 (.slice A2 n2 c2)).run Try.prog w7 = .ok (.string (strOfNums l2)) w7 := run_string_bytes (H2.out.below B7.out)
    have SY := Lib.hid (same_yes q E4 q.exts.length ce4 A4 n5 c4 E5 q.exts.length ce5 A5 n5 c5 _ t2 w7 (R4.out.below C7.out) (R5.out.below G7.out) ((D4.out.below C7.out).more C7.out.size) ((D5.out.below G7.out).more G7.out.size) (Nat.le_refl _) (by omega))
    generalize strOfNums l2 = bstr at *
    go_wp2_with (first
      | (refine Loads.wpList_load_w rfl 25 (.tmp 4) rfl w2.heap.size rfl 25 #[.int .i64 q.cls, .int .i64 q.lab, .int .i64 q.hop, .string q.src, .string q.dst, .slice E4 q.exts.length ce4, .int .i64 q.next, .slice A4 n5 c4] (0, 0) _ P7.out (Try.underlying25) rfl (by kernel_rfl) ?_)
      | (refine Loads.wpList_load_w rfl 25 (.tmp 6) rfl w4.heap.size rfl 25 #[.int .i64 q.cls, .int .i64 q.lab, .int .i64 q.hop, .string q.src, .string q.dst, .slice E5 q.exts.length ce5, .int .i64 q.next, .slice A5 n5 c5] (0, 0) _ Q7.out (Try.underlying25) rfl (by kernel_rfl) ?_))
    refine SY.out.mono ?_
    rintro e w8 ⟨rfl, hb⟩
    have B8 := Lib.hid (B7.out.trans (hb.mono B7.out.size))
    clear hb
    go_wp2_with fail
    go_ret
    exact ⟨rfl, B8.out⟩
  · have PZ := Lib.hid pz
    obtain ⟨pe, hpe⟩ : ∃ pe, pe = perr l2 := ⟨_, rfl⟩
    have PH := Lib.hid hpe
    rw [← hpe] at PZ ⊢
    clear pz hpe
    have P3 := Lib.hid (Blk.new w2 25 #[.int .i64 0, .int .i64 0, .int .i64 0, .string ⟨#[]⟩, .string ⟨#[]⟩, .slice none 0 0, .int .i64 0, .slice none 0 0])
    have B3 := Lib.hid (B2.out.alloc B2.out.size (.cells #[.int .i64 0, .int .i64 0, .int .i64 0, .string ⟨#[]⟩, .string ⟨#[]⟩, .slice none 0 0, .int .i64 0, .slice none 0 0] 25))
    have C3 := Lib.hid ((Below.refl _ w2).alloc (Nat.le_refl _) (.cells #[.int .i64 0, .int .i64 0, .int .i64 0, .string ⟨#[]⟩, .string ⟨#[]⟩, .slice none 0 0, .int .i64 0, .slice none 0 0] 25))
    go_wp2_with fail
    refine (pref_any A2 n2 c2 l2 _ w.heap.size (H2.out.below B3.out) B3.out.size (by omega)).mono ?_
    rintro e w4 ⟨g4, hb⟩
    have B4 := Lib.hid (B3.out.trans (hb.mono B3.out.size))
    have C4 := Lib.hid (C3.out.trans (hb.mono C3.out.size))
    have P4 := Lib.hid (P3.out.below hb P3.out.lt)
    clear hb
    rcases g4 with ⟨pz, _⟩ | ⟨_, rfl⟩
    · exact absurd (PH.out.trans pz) PZ.out
    rw [← PH.out]
    have Q6 := Lib.hid (Blk.new w4 25 #[.int .i64 0, .int .i64 0, .int .i64 0, .string ⟨#[]⟩, .string ⟨#[]⟩, .slice none 0 0, .int .i64 0, .slice none 0 0])
    have P6 := Lib.hid (P4.out.alloc (.cells #[.int .i64 0, .int .i64 0, .int .i64 0, .string ⟨#[]⟩, .string ⟨#[]⟩, .slice none 0 0, .int .i64 0, .slice none 0 0] 25))
    have B6 := Lib.hid (B4.out.alloc B4.out.size (.cells #[.int .i64 0, .int .i64 0, .int .i64 0, .string ⟨#[]⟩, .string ⟨#[]⟩, .slice none 0 0, .int .i64 0, .slice none 0 0] 25))
    have C6 := Lib.hid (C4.out.alloc C4.out.size (.cells #[.int .i64 0, .int .i64 0, .int .i64 0, .string ⟨#[]⟩, .string ⟨#[]⟩, .slice none 0 0, .int .i64 0, .slice none 0 0] 25))
    clear P3 B3 C3 P4
    go_wp2_with fail
    refine (awake_any _).mono ?_
    rintro e w7 ⟨rfl, hb⟩
    have B7 := Lib.hid (B6.out.trans (hb.mono B6.out.size))
    have C7 := Lib.hid (C6.out.trans (hb.mono C6.out.size))
    have P7 := Lib.hid (P6.out.below hb P6.out.lt)
    have Q7 := Lib.hid (Q6.out.below hb Q6.out.lt)
    clear hb P6 Q6 B6 C6
    have v1 : (convert 23 9 (.slice A3 n2 c3)).run Try.prog w7 = .ok (.string (strOfNums l2)) w7 := run_string_bytes ((H3.out.below C2.out).below (C7.out.mono C2.out.size))
    have v2 : (convert 23 9 (.slice A2 n2 c2)).run Try.prog w7 = .ok (.string (strOfNums l2)) w7 := run_string_bytes (H2.out.below B7.out)
    have SY := Lib.hid (same_yes ⟨0, 0, 0, ⟨#[]⟩, ⟨#[]⟩, [], 0⟩ none 0 0 none 0 0 none 0 0 none 0 0 0 [] w7 (Row.nil w7) (Row.nil w7) (Holds.nil _ _ _) (Holds.nil _ _ _) (Nat.zero_le _) (by decide))
    generalize strOfNums l2 = bstr at *
    go_wp2_with (first
      | (refine Loads.wpList_load_w rfl 25 (.tmp 4) rfl w2.heap.size rfl 25 #[.int .i64 0, .int .i64 0, .int .i64 0, .string ⟨#[]⟩, .string ⟨#[]⟩, .slice none 0 0, .int .i64 0, .slice none 0 0] (0, 0) _ P7.out (Try.underlying25) rfl (by kernel_rfl) ?_)
      | (refine Loads.wpList_load_w rfl 25 (.tmp 6) rfl w4.heap.size rfl 25 #[.int .i64 0, .int .i64 0, .int .i64 0, .string ⟨#[]⟩, .string ⟨#[]⟩, .slice none 0 0, .int .i64 0, .slice none 0 0] (0, 0) _ Q7.out (Try.underlying25) rfl (by kernel_rfl) ?_))
    refine SY.out.mono ?_
    rintro e w8 ⟨rfl, hb⟩
    have B8 := Lib.hid (B7.out.trans (hb.mono B7.out.size))
    clear hb
    go_wp2_with fail
    go_ret
    exact ⟨rfl, B8.out⟩

theorem parses_any (A2 : Option Addr) (n2 c2 : Nat) (l2 : List Int) (w : World) (h : Holds w w.heap.size A2 n2 c2 l2) :
    Calls Try.prog 4 #[.slice A2 n2 c2] w (Yes w) := by
  by_cases h4 : 4000 < n2
  · exact parses_big A2 n2 c2 w h4
  · exact parses_small A2 n2 c2 l2 w h (by omega)
end Go.Proofs.Ytjfieoleoodfdaa.LawParses
