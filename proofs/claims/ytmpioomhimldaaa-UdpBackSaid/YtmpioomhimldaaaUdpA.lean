/- The law's awake and few. -/
import Derived.Test.YtmpioomhimldaaaUdpB
set_option linter.unusedVariables false
namespace Go.Proofs.Ytmpioomhimldaaa.UdpA
open Go.RowKit Go.Sort Go.Proofs.Ytmpioomhimldaaa.Sums Go.Proofs.Ytmpioomhimldaaa.Words Go.Proofs.Ytmpioomhimldaaa.Mem Go.Proofs.Ytmpioomhimldaaa.Dat Go.Proofs.Ytmpioomhimldaaa.Blk Go.Proofs.Ytmpioomhimldaaa.Bits Go.Proofs.Ytmpioomhimldaaa.InetSum Go.Proofs.Ytmpioomhimldaaa.Steps Go.Proofs.Ytmpioomhimldaaa.Free Go.Proofs.Ytmpioomhimldaaa.Cut Go.Proofs.Ytmpioomhimldaaa.Udp

def one : ByteArray := ⟨#[10, 0, 0, 1]⟩
def two : ByteArray := ⟨#[10, 0, 0, 2]⟩
def txt : List Int := [0, 1, 0, 2, 0, 8, 235, 216]
theorem err0 : err 1 2 one two 0 = 0 := by decide +kernel
theorem bytes0 : Dat.bytes 1 2 one two [] = txt := by decide +kernel
theorem perr0 : perr txt one two = 0 := by
  have := bytes_perr (a := 1) (b := 2) (s := one) (d := two) (l := []) err0 (fun _ h => by cases h)
  rwa [bytes0] at this
theorem str0 : strOfNums txt = ⟨#[0, 1, 0, 2, 0, 8, 235, 216]⟩ := by kernel_rfl

theorem bytes_p0 (w : World) : Calls Try.prog 9 #[.agg #[.int .i64 1, .int .i64 2, .slice none 0 0], .string ⟨#[10, 0, 0, 1]⟩, .string ⟨#[10, 0, 0, 2]⟩] w fun e w' => ∃ v, e = .returned (.tuple #[v, .int .i64 0]) ∧ Owns w' w.heap.size v 8 txt ∧ Below w.heap.size w w' := by
  have := bytes_ok 1 2 none 0 0 [] one two w 0 (Holds.nil _ _ _) (Nat.zero_le _) err0
  rw [bytes0] at this
  exact this
theorem parse_p0 (A : Option Addr) (c : Nat) (w : World) (h : Holds w w.heap.size A 8 c txt) : Calls Try.prog 14 #[.slice A 8 c, .string ⟨#[10, 0, 0, 1]⟩, .string ⟨#[10, 0, 0, 2]⟩] w fun e w' => ∃ A' n' c', e = .returned (.tuple #[.agg #[.int .i64 1, .int .i64 2, .slice A' n' c'], .int .i64 0]) ∧ Below w.heap.size w w' :=
  (parse_any one two A 8 c txt w w.heap.size h (Nat.le_refl _) (by omega)).mono fun e w' ⟨g, hb⟩ => by
    rcases g with ⟨_, A', n', c', e, _⟩ | ⟨g, _⟩
    · exact ⟨A', n', c', e, hb⟩
    · exact absurd perr0 g

set_option maxHeartbeats 4000000 in
set_option maxRecDepth 100000 in
theorem awake_any (w : World) : Calls Try.prog 12 #[] w fun e w' => e = .returned (.bool true) ∧ Below w.heap.size w w' := by
  go_enter Try.func12, Try.ntmps12
  go_wp2_with fail
  refine (bytes_p0 _).mono ?_
  rintro e w1 ⟨v, rfl, o1, hb⟩
  have B1 := Lib.hid hb
  obtain ⟨A1, c1, rfl, h1⟩ := o1.slice
  have H1 := Lib.hid h1
  clear hb o1 h1
  go_wp2_with fail
  refine (parse_p0 A1 c1 w1 H1.out).mono ?_
  rintro e w2 ⟨A', n', c', rfl, hb⟩
  have B2 := Lib.hid (B1.out.trans (hb.mono B1.out.size))
  have H2 := Lib.hid ((H1.out.below hb))
  have hs1 := B1.out.size
  have hbs := hb.size
  clear hb H1 B1
  have P3 := Lib.hid (Blk.new w2 24 #[.int .i64 1, .int .i64 2, .slice A' n' c'])
  have B3 := Lib.hid (B2.out.alloc B2.out.size (.cells #[.int .i64 1, .int .i64 2, .slice A' n' c'] 24))
  have v1 := run_string_bytes (H2.out.below ((Below.refl w2.heap.size w2).alloc (Nat.le_refl _) (.cells #[.int .i64 1, .int .i64 2, .slice A' n' c'] 24) |>.mono hbs))
  rw [str0] at v1
  have p0 := P3.out.cell 0
  have p1 := P3.out.cell 1
  go_wp2_with fail
  go_ret
  exact ⟨rfl, B3.out⟩

/-- Is it small enough? -/
def fewB (s d : ByteArray) (n : Nat) : Bool := decide (s.size + d.size ≤ 300) && (decide (n ≤ 2000) || (decide (65500 < n) && decide (n < 65600)))
theorem few_true {s d : ByteArray} {n : Nat} (h : fewB s d n = true) : s.size + d.size ≤ 300 ∧ n ≤ 66000 := by
  unfold fewB at h
  simp only [Bool.and_eq_true, Bool.or_eq_true, decide_eq_true_eq] at h
  omega
set_option maxHeartbeats 2000000 in
set_option maxRecDepth 100000 in
theorem few_any (a b : Int) (A : Option Addr) (n c : Nat) (s d : ByteArray) (w : World) (h1 : s.size ≤ 140737488355328) (h2 : d.size ≤ 140737488355328) (h3 : n ≤ 140737488355328) :
    Calls Try.prog 7 #[.agg #[.int .i64 a, .int .i64 b, .slice A n c], .string s, .string d] w fun e w' => e = .returned (.bool (fewB s d n)) ∧ Below w.heap.size w w' := by
  have B0 := Lib.hid ((Below.refl w.heap.size w).alloc (Nat.le_refl _) (.cells #[.int .i64 a, .int .i64 b, .slice A n c] 24))
  have K0 := Blk.new w 24 #[.int .i64 a, .int .i64 b, .slice A n c]
  have k2 := K0.cell 2
  have F : Hid (fewB s d n = (decide (s.size + d.size ≤ 300) && (decide (n ≤ 2000) || (decide (65500 < n) && decide (n < 65600))))) := Lib.hid rfl
  clear K0
  by_cases q1 : s.size + d.size ≤ 300
  · by_cases q2 : n ≤ 2000
    · have G : Hid (fewB s d n = true) := Lib.hid (by rw [F.out]; simp [q1, q2])
      clear F
      go_enter Try.func7, Try.ntmps7
      go_wp2_with fail
      go_ret
      exact ⟨by rw [G.out]; rfl, B0.out⟩
    · have g2 : ((n : Int) ≤ 2000) = False := eq_false (by omega)
      by_cases q3 : 65500 < n
      · by_cases q4 : n < 65600
        · have G : Hid (fewB s d n = true) := Lib.hid (by rw [F.out]; simp [q1, q3, q4])
          have g4 : ((n : Int) < 65600) = True := eq_true (by omega)
          clear F q2 q4
          go_enter Try.func7, Try.ntmps7
          go_wp2_with fail
          go_ret
          exact ⟨by rw [G.out]; rfl, B0.out⟩
        · have G : Hid (fewB s d n = false) := Lib.hid (by rw [F.out]; simp [q2, q4])
          have g4 : ((n : Int) < 65600) = False := eq_false (by omega)
          clear F q2 q4
          go_enter Try.func7, Try.ntmps7
          go_wp2_with fail
          go_ret
          exact ⟨by rw [G.out]; rfl, B0.out⟩
      · have G : Hid (fewB s d n = false) := Lib.hid (by rw [F.out]; simp [q2, q3])
        clear F q2
        go_enter Try.func7, Try.ntmps7
        go_wp2_with fail
        go_ret
        exact ⟨by rw [G.out]; rfl, B0.out⟩
  · have G : Hid (fewB s d n = false) := Lib.hid (by rw [F.out]; simp [q1])
    clear F
    go_enter Try.func7, Try.ntmps7
    go_wp2_with fail
    go_ret
    exact ⟨by rw [G.out]; rfl, B0.out⟩
end Go.Proofs.Ytmpioomhimldaaa.UdpA
