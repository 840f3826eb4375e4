/- The law IcmpParses. -/
import Derived.Test.YthmleabmklnmcaaDoorIcmA
import Derived.Test.YthmleabmklnmcaaDoorIcmQ
import Derived.Test.YthmleabmklnmcaaDoorLawAnswers
set_option linter.unusedVariables false
namespace Go.Proofs.YthmleabmklnmcaaDoor.LawParses
open Go.RowKit Go.Sort Go.Proofs.YthmleabmklnmcaaDoor.Sums Go.Proofs.YthmleabmklnmcaaDoor.Words Go.Proofs.YthmleabmklnmcaaDoor.Mem Go.Proofs.YthmleabmklnmcaaDoor.Ahead Go.Proofs.YthmleabmklnmcaaDoor.IcmD Go.Proofs.YthmleabmklnmcaaDoor.Blk Go.Proofs.YthmleabmklnmcaaDoor.Bits Go.Proofs.YthmleabmklnmcaaDoor.InetSum Go.Proofs.YthmleabmklnmcaaDoor.Steps Go.Proofs.YthmleabmklnmcaaDoor.Free Go.Proofs.YthmleabmklnmcaaDoor.Cut
open Go.Proofs.YthmleabmklnmcaaDoor.Com Go.Proofs.YthmleabmklnmcaaDoor.Fam Go.Proofs.YthmleabmklnmcaaDoor.IcmP Go.Proofs.YthmleabmklnmcaaDoor.IcmR Go.Proofs.YthmleabmklnmcaaDoor.IcmQ Go.Proofs.YthmleabmklnmcaaDoor.IcmA Go.Proofs.YthmleabmklnmcaaDoor.LawAnswers

theorem parses_big (A : Option Addr) (n c : Nat) (s d : ByteArray) (w : World) (h : 3000 < n ∨ (n ≤ 3000 ∧ 300 < s.size + d.size)) (h1 : s.size ≤ 140737488355328) (h2 : d.size ≤ 140737488355328) (h3 : n ≤ 9223372036854775807) :
    Calls Tryd.prog 4 #[.slice A n c, .string s, .string d] w (Yes w) := by
  rcases h with h | ⟨h, k⟩
  · have b4 : ((3000 : Int) < (n : Int)) = True := eq_true (by omega)
    clear h
    go_enter Tryd.func4, Tryd.ntmps4
    go_wp2_with fail
    go_ret
    exact ⟨rfl, Below.refl _ _⟩
  · have b4 : ((3000 : Int) < (n : Int)) = False := eq_false (by omega)
    have b5 : ((300 : Int) < (s.size : Int) + (d.size : Int)) = True := eq_true (by omega)
    clear h k
    go_enter Tryd.func4, Tryd.ntmps4
    go_wp2_with fail
    go_ret
    exact ⟨rfl, Below.refl _ _⟩

set_option maxHeartbeats 8000000 in
set_option maxRecDepth 100000 in
theorem parses_small (A2 : Option Addr) (n2 c2 : Nat) (l2 : List Int) (s d : ByteArray) (w : World) (h : Holds w w.heap.size A2 n2 c2 l2) (h4 : n2 ≤ 3000) (h5 : s.size + d.size ≤ 300) (hf : Fam w) :
    Calls Tryd.prog 4 #[.slice A2 n2 c2, .string s, .string d] w (Yes w) := by
  have b4 : ((3000 : Int) < (n2 : Int)) = False := eq_false (by omega)
  have b5 : ((300 : Int) < (s.size : Int) + (d.size : Int)) = False := eq_false (by omega)
  have H2 := Lib.hid h
  have F0 := Lib.hid hf
  clear h hf
  go_enter Tryd.func4, Tryd.ntmps4
  go_wp2_with fail
  refine (Both.both_lit (B := w.heap.size) (Nat.le_refl _) [⟨A2, n2, c2, l2⟩] _ _ rfl (Both.mem1 H2.out) _ 1 (by simp) rfl (by decide) (by show n2 + 0 ≤ 1048576; omega)).mono ?_
  rintro e w1 ⟨A3, c3, rfl, h3, _, hb⟩
  have h3' : Holds w1 w1.heap.size A3 n2 c3 l2 := by
    have e1 : Both.flat [⟨A2, n2, c2, l2⟩] = l2 := by simp [Both.flat]
    rw [e1] at h3
    exact h3
  have e0 : Both.total [⟨A2, n2, c2, l2⟩] = n2 := rfl
  rw [e0]
  have B1 := Lib.hid hb
  have H3 := Lib.hid h3'
  clear hb h3 h3' e0
  go_wp2_with fail
  refine (parse_any s d A3 n2 c3 l2 _ _ H3.out (Nat.le_refl _) (by omega)).mono ?_
  rintro e w2 ⟨g2, hb⟩
  have B2 := Lib.hid (B1.out.trans (hb.mono B1.out.size))
  have C2 := Lib.hid hb
  clear hb
  have hs2 := B1.out.size
  rcases g2 with ⟨pz, A4, n4, c4, rfl, o4⟩ | ⟨pz, rfl⟩
  · have n4e := o4.len
    have D4 := Lib.hid o4.holds
    have PZ := Lib.hid pz
    obtain ⟨q, hq⟩ : ∃ q, q = icOf l2 := ⟨_, rfl⟩
    have QH := Lib.hid hq
    rw [← hq]
    clear o4 pz hq
    have P3 := Lib.hid (Blk.new w2 24 #[.int .i64 q.typ, .int .i64 q.code, .int .i64 q.rest, .slice A4 n4 c4])
    have B3 := Lib.hid (B2.out.alloc B2.out.size (.cells #[.int .i64 q.typ, .int .i64 q.code, .int .i64 q.rest, .slice A4 n4 c4] 24))
    have C3 := Lib.hid ((Below.refl _ w2).alloc (Nat.le_refl _) (.cells #[.int .i64 q.typ, .int .i64 q.code, .int .i64 q.rest, .slice A4 n4 c4] 24))
    go_wp2_with fail
    refine (parse_ref s d A2 n2 c2 l2 _ w.heap.size (H2.out.below B3.out) B3.out.size (by omega)).mono ?_
    rintro e w4 ⟨g4, hb⟩
    have B4 := Lib.hid (B3.out.trans (hb.mono B3.out.size))
    have C4 := Lib.hid (C3.out.trans (hb.mono C3.out.size))
    have P4 := Lib.hid (P3.out.below hb P3.out.lt)
    clear hb
    rcases g4 with ⟨_, A5, n5, c5, rfl, o5⟩ | ⟨pz, _⟩
    case inr => exact absurd PZ.out pz
    rw [← QH.out]
    obtain rfl : n5 = n4 := by have := o5.len; omega
    have D5 := Lib.hid o5.holds
    clear o5
    have Q6 := Lib.hid (Blk.new w4 24 #[.int .i64 q.typ, .int .i64 q.code, .int .i64 q.rest, .slice A5 n5 c5])
    have P6 := Lib.hid (P4.out.alloc (.cells #[.int .i64 q.typ, .int .i64 q.code, .int .i64 q.rest, .slice A5 n5 c5] 24))
    have B6 := Lib.hid (B4.out.alloc B4.out.size (.cells #[.int .i64 q.typ, .int .i64 q.code, .int .i64 q.rest, .slice A5 n5 c5] 24))
    have C6 := Lib.hid (C4.out.alloc C4.out.size (.cells #[.int .i64 q.typ, .int .i64 q.code, .int .i64 q.rest, .slice A5 n5 c5] 24))
    have G6 := Lib.hid ((Below.refl _ w4).alloc (Nat.le_refl _) (.cells #[.int .i64 q.typ, .int .i64 q.code, .int .i64 q.rest, .slice A5 n5 c5] 24))
    clear P3 B3 C3 P4
    go_wp2_with fail
    refine (awake_any _ (F0.out.below B6.out)).mono ?_
    rintro e w7 ⟨rfl, hb⟩
    have B7 := Lib.hid (B6.out.trans (hb.mono B6.out.size))
    have C7 := Lib.hid (C6.out.trans (hb.mono C6.out.size))
    have G7 := Lib.hid (G6.out.trans (hb.mono G6.out.size))
    have P7 := Lib.hid (P6.out.below hb P6.out.lt)
    have Q7 := Lib.hid (Q6.out.below hb Q6.out.lt)
    clear hb P6 Q6 B6 C6 G6
    have v1 : (convert 22 9 (.slice A3 n2 c3)).run Tryd.prog w7 = .ok (.string (strOfNums l2)) w7 := run_string_bytes ((H3.out.below C2.out).below (C7.out.mono C2.out.size))
    have v2 : (convert 22 9 (.slice A2 n2 c2)).run Tryd.prog w7 = .ok (.string (strOfNums l2)) w7 := run_string_bytes (H2.out.below B7.out)
    have SY := Lib.hid (same_yes q A4 n5 c4 A5 n5 c5 (l2.drop 8) _ w7 ((D4.out.below C7.out).more C7.out.size) ((D5.out.below G7.out).more G7.out.size) (Nat.le_refl _))
    generalize strOfNums l2 = bstr at *
    go_wp2_with (first
      | (refine Loads.wpList_load_w rfl 24 (.tmp 8) rfl w2.heap.size rfl 24 #[.int .i64 q.typ, .int .i64 q.code, .int .i64 q.rest, .slice A4 n5 c4] (0, 0) _ P7.out (Tryd.underlying24) rfl (by kernel_rfl) ?_)
      | (refine Loads.wpList_load_w rfl 24 (.tmp 10) rfl w4.heap.size rfl 24 #[.int .i64 q.typ, .int .i64 q.code, .int .i64 q.rest, .slice A5 n5 c5] (0, 0) _ Q7.out (Tryd.underlying24) rfl (by kernel_rfl) ?_))
    refine SY.out.mono ?_
    rintro e w8 ⟨rfl, hb⟩
    have B8 := Lib.hid (B7.out.trans (hb.mono B7.out.size))
    clear hb
    go_wp2_with fail
    go_ret
    exact ⟨rfl, B8.out⟩
  · have PZ := Lib.hid pz
    obtain ⟨pe, hpe⟩ : ∃ pe, pe = perr l2 s d := ⟨_, rfl⟩
    have PH := Lib.hid hpe
    rw [← hpe] at PZ ⊢
    clear pz hpe
    have P3 := Lib.hid (Blk.new w2 24 #[.int .i64 0, .int .i64 0, .int .i64 0, .slice none 0 0])
    have B3 := Lib.hid (B2.out.alloc B2.out.size (.cells #[.int .i64 0, .int .i64 0, .int .i64 0, .slice none 0 0] 24))
    have C3 := Lib.hid ((Below.refl _ w2).alloc (Nat.le_refl _) (.cells #[.int .i64 0, .int .i64 0, .int .i64 0, .slice none 0 0] 24))
    go_wp2_with fail
    refine (parse_ref s d A2 n2 c2 l2 _ w.heap.size (H2.out.below B3.out) B3.out.size (by omega)).mono ?_
    rintro e w4 ⟨g4, hb⟩
    have B4 := Lib.hid (B3.out.trans (hb.mono B3.out.size))
    have C4 := Lib.hid (C3.out.trans (hb.mono C3.out.size))
    have P4 := Lib.hid (P3.out.below hb P3.out.lt)
    clear hb
    rcases g4 with ⟨pz, _⟩ | ⟨_, rfl⟩
    · exact absurd (PH.out.trans pz) PZ.out
    rw [← PH.out]
    have Q6 := Lib.hid (Blk.new w4 24 #[.int .i64 0, .int .i64 0, .int .i64 0, .slice none 0 0])
    have P6 := Lib.hid (P4.out.alloc (.cells #[.int .i64 0, .int .i64 0, .int .i64 0, .slice none 0 0] 24))
    have B6 := Lib.hid (B4.out.alloc B4.out.size (.cells #[.int .i64 0, .int .i64 0, .int .i64 0, .slice none 0 0] 24))
    have C6 := Lib.hid (C4.out.alloc C4.out.size (.cells #[.int .i64 0, .int .i64 0, .int .i64 0, .slice none 0 0] 24))
    clear P3 B3 C3 P4
    go_wp2_with fail
    refine (awake_any _ (F0.out.below B6.out)).mono ?_
    rintro e w7 ⟨rfl, hb⟩
    have B7 := Lib.hid (B6.out.trans (hb.mono B6.out.size))
    have C7 := Lib.hid (C6.out.trans (hb.mono C6.out.size))
    have P7 := Lib.hid (P6.out.below hb P6.out.lt)
    have Q7 := Lib.hid (Q6.out.below hb Q6.out.lt)
    clear hb P6 Q6 B6 C6
    have v1 : (convert 22 9 (.slice A3 n2 c3)).run Tryd.prog w7 = .ok (.string (strOfNums l2)) w7 := run_string_bytes ((H3.out.below C2.out).below (C7.out.mono C2.out.size))
    have v2 : (convert 22 9 (.slice A2 n2 c2)).run Tryd.prog w7 = .ok (.string (strOfNums l2)) w7 := run_string_bytes (H2.out.below B7.out)
    have SY := Lib.hid (same_yes Ic.zero none 0 0 none 0 0 [] 0 w7 (Holds.nil _ _ _) (Holds.nil _ _ _) (Nat.zero_le _))
    generalize strOfNums l2 = bstr at *
    go_wp2_with (first
      | (refine Loads.wpList_load_w rfl 24 (.tmp 8) rfl w2.heap.size rfl 24 #[.int .i64 0, .int .i64 0, .int .i64 0, .slice none 0 0] (0, 0) _ P7.out (Tryd.underlying24) rfl (by kernel_rfl) ?_)
      | (refine Loads.wpList_load_w rfl 24 (.tmp 10) rfl w4.heap.size rfl 24 #[.int .i64 0, .int .i64 0, .int .i64 0, .slice none 0 0] (0, 0) _ Q7.out (Tryd.underlying24) rfl (by kernel_rfl) ?_))
    refine SY.out.mono ?_
    rintro e w8 ⟨rfl, hb⟩
    have B8 := Lib.hid (B7.out.trans (hb.mono B7.out.size))
    clear hb
    go_wp2_with fail
    go_ret
    exact ⟨rfl, B8.out⟩

theorem parses_any (A2 : Option Addr) (n2 c2 : Nat) (l2 : List Int) (s d : ByteArray) (w : World) (h : Holds w w.heap.size A2 n2 c2 l2) (h1 : s.size ≤ 140737488355328) (h2 : d.size ≤ 140737488355328) (hf : Fam w) :
    Calls Tryd.prog 4 #[.slice A2 n2 c2, .string s, .string d] w (Yes w) := by
  have hn : n2 ≤ 9223372036854775807 := by
    have a := h.2.1
    have b := h.2.2.1
    simp only [maxLen] at b
    omega
  by_cases h4 : 3000 < n2
  · exact parses_big A2 n2 c2 s d w (.inl h4) h1 h2 hn
  · by_cases h5 : 300 < s.size + d.size
    · exact parses_big A2 n2 c2 s d w (.inr ⟨by omega, h5⟩) h1 h2 hn
    · exact parses_small A2 n2 c2 l2 s d w h (by omega) (by omega) hf
end Go.Proofs.YthmleabmklnmcaaDoor.LawParses
