/- The laws' awake and few. -/
import Derived.Test.YthmleabmklnmcaaDoorMake
import Derived.Test.YthmleabmklnmcaaDoorIcmC
set_option linter.unusedVariables false
namespace Go.Proofs.YthmleabmklnmcaaDoor.IcmA
open Go.RowKit Go.Sort Go.Proofs.YthmleabmklnmcaaDoor.Sums Go.Proofs.YthmleabmklnmcaaDoor.Words Go.Proofs.YthmleabmklnmcaaDoor.Mem Go.Proofs.YthmleabmklnmcaaDoor.Ahead Go.Proofs.YthmleabmklnmcaaDoor.IcmD Go.Proofs.YthmleabmklnmcaaDoor.Blk Go.Proofs.YthmleabmklnmcaaDoor.Bits Go.Proofs.YthmleabmklnmcaaDoor.InetSum Go.Proofs.YthmleabmklnmcaaDoor.Steps Go.Proofs.YthmleabmklnmcaaDoor.Free Go.Proofs.YthmleabmklnmcaaDoor.Cut
open Go.Proofs.YthmleabmklnmcaaDoor.Com Go.Proofs.YthmleabmklnmcaaDoor.Fam Go.Proofs.YthmleabmklnmcaaDoor.Kind Go.Proofs.YthmleabmklnmcaaDoor.Make Go.Proofs.YthmleabmklnmcaaDoor.IcmP Go.Proofs.YthmleabmklnmcaaDoor.IcmC

def one : ByteArray := ⟨#[10, 0, 0, 1]⟩
def two : ByteArray := ⟨#[10, 0, 0, 2]⟩
def p0 : Ic := ⟨8, 0, 65537⟩
theorem valid0 : Valid p0 := by constructor <;> decide
theorem err0 : p0.err one two 0 = 0 := Ic.err_make valid0 (by decide) (by decide)
theorem bytes0 : p0.bytes one two [] = [8, 0, 247, 253, 0, 1, 0, 1] := by kernel_rfl
theorem perr0 : perr [8, 0, 247, 253, 0, 1, 0, 1] one two = 0 := by
  rw [← bytes0]; exact bytes_perr err0 (fun _ h => by cases h)
theorem str0 : strOfNums [8, 0, 247, 253, 0, 1, 0, 1] = ⟨#[8, 0, 247, 253, 0, 1, 0, 1]⟩ := by kernel_rfl

theorem make_p0 (w : World) (hf : Fam w) : Calls Tryd.prog 17 #[.int .i64 1, .bool false, .int .i64 65537, .slice none 0 0] w fun e w' => ∃ A' c', e = .returned (.tuple #[.agg #[.int .i64 8, .int .i64 0, .int .i64 65537, .slice A' 0 c'], .int .i64 0]) ∧ Owns w' w.heap.size (.slice A' 0 c') 0 [] ∧ Below w.heap.size w w' :=
  (make_any 1 false 65537 none 0 0 [] w 0 (Holds.nil _ _ _) (Nat.zero_le _) (by decide) hf).mono fun e w' ⟨g, hb⟩ => by
    rcases g with ⟨_, A', c', e, o⟩ | ⟨g, _⟩
    · exact ⟨A', c', e, o, hb⟩
    · exact absurd (by decide) g
theorem bytes_p0 (A : Option Addr) (c : Nat) (w : World) (h : Holds w w.heap.size A 0 c []) : Calls Tryd.prog 10 #[.agg #[.int .i64 8, .int .i64 0, .int .i64 65537, .slice A 0 c], .string ⟨#[10, 0, 0, 1]⟩, .string ⟨#[10, 0, 0, 2]⟩] w fun e w' => ∃ v, e = .returned (.tuple #[v, .int .i64 0]) ∧ Owns w' w.heap.size v 8 [8, 0, 247, 253, 0, 1, 0, 1] ∧ Below w.heap.size w w' :=
  (bytes_ok p0 A 0 c [] one two w _ h (Nat.le_refl _) err0).mono fun e w' ⟨v, h1, h2, h3⟩ => ⟨v, h1, by rw [← bytes0]; exact h2, h3⟩
theorem parse_p0 (A : Option Addr) (c : Nat) (w : World) (h : Holds w w.heap.size A 8 c [8, 0, 247, 253, 0, 1, 0, 1]) : Calls Tryd.prog 15 #[.slice A 8 c, .string ⟨#[10, 0, 0, 1]⟩, .string ⟨#[10, 0, 0, 2]⟩] w fun e w' => ∃ v1 v2 v3 A' n' c', e = .returned (.tuple #[.agg #[.int .i64 v1, .int .i64 v2, .int .i64 v3, .slice A' n' c'], .int .i64 0]) ∧ Below w.heap.size w w' :=
  (parse_any one two A 8 c _ w w.heap.size h (Nat.le_refl _) (by omega)).mono fun e w' ⟨g, hb⟩ => by
    rcases g with ⟨_, A', n', c', e, _⟩ | ⟨g, _⟩
    · exact ⟨_, _, _, A', n', c', e, hb⟩
    · exact absurd perr0 g
theorem kind_p0 (wide : Bool) (w : World) (hf : Fam w) : Calls Tryd.prog 19 #[.agg #[.int .i64 3, .int .i64 4, .int .i64 0, .slice none 0 0], .bool wide] w fun e w' => e = .returned (.int .i64 (kind 3 4 wide)) ∧ Below w.heap.size w w' := kind_any ⟨3, 4, 0⟩ wide none 0 0 w hf

set_option maxHeartbeats 2000000 in
set_option maxRecDepth 100000 in
theorem awake_any (w : World) (hf : Fam w) : Calls Tryd.prog 13 #[] w fun e w' => e = .returned (.bool true) ∧ Below w.heap.size w w' := by
  have M := Lib.hid (make_p0 w hf)
  have F0 := Lib.hid hf
  clear hf
  go_enter Tryd.func13, Tryd.ntmps13
  go_wp2_with fail
  refine M.out.mono ?_
  rintro e w1 ⟨A1, c1, rfl, o1, hb⟩
  have B1 := Lib.hid hb
  have F1 := Lib.hid (F0.out.below hb)
  have h1 := o1.holds
  have B2 := Lib.hid (B1.out.alloc B1.out.size (.cells #[.int .i64 8, .int .i64 0, .int .i64 65537, .slice A1 0 c1] 24))
  have P2 := Lib.hid (Blk.new w1 24 #[.int .i64 8, .int .i64 0, .int .i64 65537, .slice A1 0 c1])
  have F2 := Lib.hid (F1.out.alloc (.cells #[.int .i64 8, .int .i64 0, .int .i64 65537, .slice A1 0 c1] 24))
  have g2 := (Below.refl _ w1).alloc (Nat.le_refl _) (.cells #[.int .i64 8, .int .i64 0, .int .i64 65537, .slice A1 0 c1] 24)
  have H2 := Lib.hid ((h1.below g2).more g2.size)
  clear hb o1 h1 g2 M F0 F1 B1
  go_wp2_with (refine Loads.wpList_load_w rfl 24 (.tmp 1) rfl w1.heap.size rfl 24 #[.int .i64 8, .int .i64 0, .int .i64 65537, .slice A1 0 c1] (0, 0) _ P2.out (Tryd.underlying24) rfl (by kernel_rfl) ?_)
  refine (bytes_p0 A1 c1 _ H2.out).mono ?_
  rintro e w3 ⟨v, rfl, o3, hb⟩
  have B3 := Lib.hid (B2.out.trans (hb.mono B2.out.size))
  have F3 := Lib.hid (F2.out.below hb)
  obtain ⟨A3, c3, rfl, h3⟩ := o3.slice
  have H3 := Lib.hid h3
  clear hb o3 h3 B2 F2 H2 P2
  go_wp2_with fail
  refine (parse_p0 A3 c3 w3 H3.out).mono ?_
  rintro e w4 ⟨x1, x2, x3, A4, n4, c4, rfl, hb⟩
  have B4 := Lib.hid (B3.out.trans (hb.mono B3.out.size))
  have F4 := Lib.hid (F3.out.below hb)
  have H4 := Lib.hid ((H3.out.below hb).more hb.size)
  have B5 := Lib.hid (B4.out.alloc B4.out.size (.cells #[.int .i64 x1, .int .i64 x2, .int .i64 x3, .slice A4 n4 c4] 24))
  have F5 := Lib.hid (F4.out.alloc (.cells #[.int .i64 x1, .int .i64 x2, .int .i64 x3, .slice A4 n4 c4] 24))
  have g5 := (Below.refl _ w4).alloc (Nat.le_refl _) (.cells #[.int .i64 x1, .int .i64 x2, .int .i64 x3, .slice A4 n4 c4] 24)
  have v5 := run_string_bytes (H4.out.below g5)
  rw [str0] at v5
  clear hb B3 F3 H3 B4 F4 H4 g5
  go_wp2_with fail
  refine (kind_p0 false _ F5.out).mono ?_
  rintro e w6 ⟨rfl, hb⟩
  have B6 := Lib.hid (B5.out.trans (hb.mono B5.out.size))
  have F6 := Lib.hid (F5.out.below hb)
  clear hb B5 F5 v5
  have k0 : kind 3 4 false = 4 := by decide
  rw [k0]
  go_wp2_with fail
  refine (kind_p0 true _ F6.out).mono ?_
  rintro e w7 ⟨rfl, hb⟩
  have B7 := Lib.hid (B6.out.trans (hb.mono B6.out.size))
  clear hb B6 F6
  have k1 : kind 3 4 true = 5 := by decide
  rw [k1]
  go_wp2_with fail
  refine (error_any 6 _).mono ?_
  rintro e w8 ⟨rfl, rfl⟩
  have t6 : tells 6 = true := by decide
  rw [t6]
  go_wp2_with fail
  go_ret
  exact ⟨rfl, B7.out⟩

/-- Is it small enough? -/
def fewB (s d : ByteArray) (n : Nat) : Bool := decide (s.size + d.size ≤ 300) && (decide (n ≤ 2000) || (decide (65500 < n) && decide (n < 65600)))
theorem few_true {s d : ByteArray} {n : Nat} (h : fewB s d n = true) : s.size + d.size ≤ 300 ∧ n ≤ 66000 := by
  unfold fewB at h
  simp only [Bool.and_eq_true, Bool.or_eq_true, decide_eq_true_eq] at h
  omega
set_option maxHeartbeats 2000000 in
set_option maxRecDepth 100000 in
theorem few_any (p : Ic) (A : Option Addr) (n c : Nat) (s d : ByteArray) (w : World) (h1 : s.size ≤ 140737488355328) (h2 : d.size ≤ 140737488355328) (h3 : n ≤ 140737488355328) :
    Calls Tryd.prog 8 #[.agg #[.int .i64 p.typ, .int .i64 p.code, .int .i64 p.rest, .slice A n c], .string s, .string d] w fun e w' => e = .returned (.bool (fewB s d n)) ∧ Below w.heap.size w w' := by
  have B0 := Lib.hid ((Below.refl w.heap.size w).alloc (Nat.le_refl _) (.cells #[.int .i64 p.typ, .int .i64 p.code, .int .i64 p.rest, .slice A n c] 24))
  have K0 := Blk.new w 24 #[.int .i64 p.typ, .int .i64 p.code, .int .i64 p.rest, .slice A n c]
  have k3 := K0.cell 3
  have F : Hid (fewB s d n = (decide (s.size + d.size ≤ 300) && (decide (n ≤ 2000) || (decide (65500 < n) && decide (n < 65600))))) := Lib.hid rfl
  clear K0
  by_cases q1 : s.size + d.size ≤ 300
  · have g1 : ((s.size : Int) + (d.size : Int) ≤ 300) = True := eq_true (by omega)
    by_cases q2 : n ≤ 2000
    · have G : Hid (fewB s d n = true) := Lib.hid (by rw [F.out]; simp [q1, q2])
      clear F q1
      go_enter Tryd.func8, Tryd.ntmps8
      go_wp2_with fail
      go_ret
      exact ⟨by rw [G.out]; rfl, B0.out⟩
    · have g2 : ((n : Int) ≤ 2000) = False := eq_false (by omega)
      by_cases q3 : 65500 < n
      · by_cases q4 : n < 65600
        · have G : Hid (fewB s d n = true) := Lib.hid (by rw [F.out]; simp [q1, q3, q4])
          have g4 : ((n : Int) < 65600) = True := eq_true (by omega)
          clear F q1 q2 q4
          go_enter Tryd.func8, Tryd.ntmps8
          go_wp2_with fail
          go_ret
          exact ⟨by rw [G.out]; rfl, B0.out⟩
        · have G : Hid (fewB s d n = false) := Lib.hid (by rw [F.out]; simp [q2, q4])
          have g4 : ((n : Int) < 65600) = False := eq_false (by omega)
          clear F q1 q2 q4
          go_enter Tryd.func8, Tryd.ntmps8
          go_wp2_with fail
          go_ret
          exact ⟨by rw [G.out]; rfl, B0.out⟩
      · have G : Hid (fewB s d n = false) := Lib.hid (by rw [F.out]; simp [q2, q3])
        clear F q1 q2
        go_enter Tryd.func8, Tryd.ntmps8
        go_wp2_with fail
        go_ret
        exact ⟨by rw [G.out]; rfl, B0.out⟩
  · have g1 : ((s.size : Int) + (d.size : Int) ≤ 300) = False := eq_false (by omega)
    have G : Hid (fewB s d n = false) := Lib.hid (by rw [F.out]; simp [q1])
    clear F q1
    go_enter Tryd.func8, Tryd.ntmps8
    go_wp2_with fail
    go_ret
    exact ⟨by rw [G.out]; rfl, B0.out⟩
end Go.Proofs.YthmleabmklnmcaaDoor.IcmA
