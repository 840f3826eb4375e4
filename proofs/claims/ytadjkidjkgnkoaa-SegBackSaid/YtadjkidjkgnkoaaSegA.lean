/- The laws' awake and few. -/
import Derived.Test.YtadjkidjkgnkoaaSeg5
import Derived.Test.YtadjkidjkgnkoaaSeg7
import Derived.Test.YtadjkidjkgnkoaaMss2
import Derived.Lib.SlBytesConst
set_option linter.unusedVariables false
namespace Go.Proofs.Ytadjkidjkgnkoaa.SegA
open Go.RowKit Go.Sort Go.Proofs.Ytadjkidjkgnkoaa.Sums Go.Proofs.Ytadjkidjkgnkoaa.Words Go.Proofs.Ytadjkidjkgnkoaa.Mem Go.Proofs.Ytadjkidjkgnkoaa.Ahead Go.Proofs.Ytadjkidjkgnkoaa.SegD Go.Proofs.Ytadjkidjkgnkoaa.Blk Go.Proofs.Ytadjkidjkgnkoaa.Bits Go.Proofs.Ytadjkidjkgnkoaa.InetSum Go.Proofs.Ytadjkidjkgnkoaa.Steps Go.Proofs.Ytadjkidjkgnkoaa.Free Go.Proofs.Ytadjkidjkgnkoaa.Cut
open Go.Proofs.Ytadjkidjkgnkoaa.Com Go.Proofs.Ytadjkidjkgnkoaa.Seg3 Go.Proofs.Ytadjkidjkgnkoaa.Seg5 Go.Proofs.Ytadjkidjkgnkoaa.Seg7 Go.Proofs.Ytadjkidjkgnkoaa.OptS

def one : ByteArray := ⟨#[10, 0, 0, 1]⟩
def two : ByteArray := ⟨#[10, 0, 0, 2]⟩
def opt0 : ByteArray := ⟨#[1, 2, 4, 5, 180]⟩
def p0 : Sg := ⟨1, 2, 0, 0, 2, 0, 0, ⟨#[2, 4, 5, 180]⟩⟩
theorem mss0 : mss opt0 = (1460, 0) := by
  have z : opt0.size = 5 := rfl
  have e : optsS opt0 = some [((1 : Int), (⟨#[]⟩ : ByteArray)), (2, opt0.extract 3 5)] := by
    rw [← at_start opt0, at_nop opt0 0 (by decide) (by decide), at_go opt0 1 4 (by decide) (by decide) (by decide) (by decide) (by decide) (by decide), at_end opt0 5 (by decide)]
    rfl
  have p : pick [((1 : Int), (⟨#[]⟩ : ByteArray)), (2, opt0.extract 3 5)] = 1460 := by
    rw [pick, if_neg (by decide), pick, if_pos (by decide), bt_extract opt0 3 5 0 (by decide) (by decide), bt_extract opt0 3 5 1 (by decide) (by decide)]
    decide
  unfold mss
  rw [e]
  simp only [p]
  rfl
theorem offer0 : offerS 1460 = ⟨#[2, 4, 5, 180]⟩ := by kernel_rfl
theorem valid0 : Valid p0 := by constructor <;> decide
theorem chk0 : p0.chk 0 = 0 := Sg.chk_make valid0 (by decide)
theorem err0 : p0.err one two 0 = 0 := Sg.err_make (by decide) chk0
theorem perr0 : perr (p0.bytes one two []) one two = 0 := bytes_perr valid0 (by decide) (fun _ h => by cases h) (by decide)
theorem sg0 : sgOf (p0.bytes one two []) = p0 := raw_sg valid0 _ _

theorem mss_p0 (w : World) : Calls Try.prog 20 #[.string ⟨#[1, 2, 4, 5, 180]⟩] w fun e w' => e = .returned (.tuple #[.int .i64 1460, .int .i64 0]) ∧ Below w.heap.size w w' := by
  have := Mss2.mss_any opt0 (by decide) w
  rw [mss0] at this
  exact this
theorem offer_p0 (w : World) : Calls Try.prog 22 #[.int .i64 1460] w fun e w' => e = .returned (.string ⟨#[2, 4, 5, 180]⟩) ∧ Below w.heap.size w w' := by
  have := offer_any 1460 w
  rw [offer0] at this
  exact this
theorem bytes_p0 (w : World) : Calls Try.prog 10 #[.agg #[.int .i64 1, .int .i64 2, .int .i64 0, .int .i64 0, .int .i64 2, .int .i64 0, .int .i64 0, .string ⟨#[2, 4, 5, 180]⟩, .slice none 0 0], .string ⟨#[10, 0, 0, 1]⟩, .string ⟨#[10, 0, 0, 2]⟩] w fun e w' => ∃ v, e = .returned (.tuple #[v, .int .i64 0]) ∧ Owns w' w.heap.size v 24 (p0.bytes one two []) ∧ Below w.heap.size w w' :=
  bytes_ok p0 none 0 0 [] one two w 0 (Holds.nil _ _ _) (Nat.zero_le _) err0
theorem parse_p0 (A : Option Addr) (c : Nat) (w : World) (h : Holds w w.heap.size A 24 c (p0.bytes one two [])) : Calls Try.prog 18 #[.slice A 24 c, .string ⟨#[10, 0, 0, 1]⟩, .string ⟨#[10, 0, 0, 2]⟩] w fun e w' => ∃ A' n' c', e = .returned (.tuple #[.agg #[.int .i64 1, .int .i64 2, .int .i64 0, .int .i64 0, .int .i64 2, .int .i64 0, .int .i64 0, .string ⟨#[2, 4, 5, 180]⟩, .slice A' n' c'], .int .i64 0]) ∧ Below w.heap.size w w' :=
  (parse_any one two A 24 c _ w w.heap.size h (Nat.le_refl _) (by omega)).mono fun e w' ⟨g, hb⟩ => by
    rcases g with ⟨_, A', n', c', e, _⟩ | ⟨g, _⟩
    · rw [sg0] at e
      exact ⟨A', n', c', e, hb⟩
    · exact absurd perr0 g
theorem length_p0 (A : Option Addr) (c : Nat) (w : World) : Calls Try.prog 14 #[.agg #[.int .i64 0, .int .i64 0, .int .i64 0, .int .i64 0, .int .i64 2, .int .i64 0, .int .i64 0, .string ⟨#[]⟩, .slice A 3 c]] w fun e w' => e = .returned (.int .i64 4) ∧ Below w.heap.size w w' :=
  length_any ⟨0, 0, 0, 0, 2, 0, 0, ⟨#[]⟩⟩ A 3 c w (by omega)

set_option maxHeartbeats 2000000 in
set_option maxRecDepth 100000 in
theorem awake_any (w : World) : Calls Try.prog 16 #[] w fun e w' => e = .returned (.bool true) ∧ Below w.heap.size w w' := by
  go_enter Try.func16, Try.ntmps16
  go_wp2_with fail
  refine (mss_p0 _).mono ?_
  rintro e w1 ⟨rfl, hb⟩
  have B1 := Lib.hid hb
  clear hb
  go_wp2_with fail
  refine (offer_p0 _).mono ?_
  rintro e w2 ⟨rfl, hb⟩
  have B2 := Lib.hid (B1.out.trans (hb.mono B1.out.size))
  clear hb B1
  go_wp2_with fail
  refine (bytes_p0 _).mono ?_
  rintro e w3 ⟨v, rfl, o1, hb⟩
  have B3 := Lib.hid (B2.out.trans (hb.mono B2.out.size))
  obtain ⟨A1, c1, rfl, h1⟩ := o1.slice
  have H1 := Lib.hid h1
  clear hb o1 h1 B2
  go_wp2_with fail
  refine (parse_p0 A1 c1 w3 H1.out).mono ?_
  rintro e w4 ⟨A', n', c', rfl, hb⟩
  have B4 := Lib.hid (B3.out.trans (hb.mono B3.out.size))
  clear hb H1 B3
  have P5 := Lib.hid (Blk.new w4 24 #[.int .i64 1, .int .i64 2, .int .i64 0, .int .i64 0, .int .i64 2, .int .i64 0, .int .i64 0, .string ⟨#[2, 4, 5, 180]⟩, .slice A' n' c'])
  have B5 := Lib.hid (B4.out.alloc B4.out.size (.cells #[.int .i64 1, .int .i64 2, .int .i64 0, .int .i64 0, .int .i64 2, .int .i64 0, .int .i64 0, .string ⟨#[2, 4, 5, 180]⟩, .slice A' n' c'] 24))
  go_wp2_with fail
  refine (offer_p0 _).mono ?_
  rintro e w6 ⟨rfl, hb⟩
  have B6 := Lib.hid (B5.out.trans (hb.mono B5.out.size))
  have P6 := P5.out.below hb P5.out.lt
  have p4 := P6.cell 4
  clear hb B5 P5 P6
  have B7 := Lib.hid (B6.out.alloc B6.out.size (.cells #[.int .u8 97, .int .u8 98, .int .u8 99] 5 (3, 4)))
  have cv : (convert 22 22 (.slice (some ⟨w6.heap.size, 0, none⟩) 3 3)).run Try.prog (w6.alloc (.cells #[.int .u8 97, .int .u8 98, .int .u8 99] 5)) = .ok (.slice (some ⟨w6.heap.size, 0, none⟩) 3 3) (w6.alloc (.cells #[.int .u8 97, .int .u8 98, .int .u8 99] 5 (3, 4))) :=
    Lib.run_convert_bytes_const w6 22 5 #[.int .u8 97, .int .u8 98, .int .u8 99] 3 3 Try.underlying22 Try.underlying5
  go_wp2_with fail
  refine (length_p0 _ _ _).mono ?_
  rintro e w8 ⟨rfl, hb⟩
  have B8 := Lib.hid (B7.out.trans (hb.mono B7.out.size))
  go_wp2_with fail
  go_ret
  exact ⟨rfl, B8.out⟩

/-- Is it small enough? -/
def fewB (p : Sg) (n : Nat) : Bool := decide (p.opt.size ≤ 300) && (decide (n ≤ 2000) || (decide (65450 < n) && decide (n < 65600)))
theorem few_true {p : Sg} {n : Nat} (h : fewB p n = true) : p.opt.size ≤ 300 ∧ n ≤ 66000 := by
  unfold fewB at h
  simp only [Bool.and_eq_true, Bool.or_eq_true, decide_eq_true_eq] at h
  omega
set_option maxHeartbeats 2000000 in
set_option maxRecDepth 100000 in
theorem few_any (p : Sg) (A : Option Addr) (n c : Nat) (w : World) (h1 : p.opt.size ≤ 140737488355328) (h3 : n ≤ 140737488355328) :
    Calls Try.prog 8 #[.agg #[.int .i64 p.src, .int .i64 p.dst, .int .i64 p.seq, .int .i64 p.ack, .int .i64 p.flags, .int .i64 p.window, .int .i64 p.urgent, .string p.opt, .slice A n c]] w fun e w' => e = .returned (.bool (fewB p n)) ∧ Below w.heap.size w w' := by
  have B0 := Lib.hid ((Below.refl w.heap.size w).alloc (Nat.le_refl _) (.cells #[.int .i64 p.src, .int .i64 p.dst, .int .i64 p.seq, .int .i64 p.ack, .int .i64 p.flags, .int .i64 p.window, .int .i64 p.urgent, .string p.opt, .slice A n c] 24))
  have K0 := Blk.new w 24 #[.int .i64 p.src, .int .i64 p.dst, .int .i64 p.seq, .int .i64 p.ack, .int .i64 p.flags, .int .i64 p.window, .int .i64 p.urgent, .string p.opt, .slice A n c]
  have k7 := K0.cell 7
  have k8 := K0.cell 8
  have F : Hid (fewB p n = (decide (p.opt.size ≤ 300) && (decide (n ≤ 2000) || (decide (65450 < n) && decide (n < 65600))))) := Lib.hid rfl
  clear K0
  by_cases q1 : p.opt.size ≤ 300
  · by_cases q2 : n ≤ 2000
    · have G : Hid (fewB p n = true) := Lib.hid (by rw [F.out]; simp [q1, q2])
      clear F
      go_enter Try.func8, Try.ntmps8
      go_wp2_with fail
      go_ret
      exact ⟨by rw [G.out]; rfl, B0.out⟩
    · have g2 : ((n : Int) ≤ 2000) = False := eq_false (by omega)
      by_cases q3 : 65450 < n
      · by_cases q4 : n < 65600
        · have G : Hid (fewB p n = true) := Lib.hid (by rw [F.out]; simp [q1, q3, q4])
          have g4 : ((n : Int) < 65600) = True := eq_true (by omega)
          clear F q2 q4
          go_enter Try.func8, Try.ntmps8
          go_wp2_with fail
          go_ret
          exact ⟨by rw [G.out]; rfl, B0.out⟩
        · have G : Hid (fewB p n = false) := Lib.hid (by rw [F.out]; simp [q2, q4])
          have g4 : ((n : Int) < 65600) = False := eq_false (by omega)
          clear F q2 q4
          go_enter Try.func8, Try.ntmps8
          go_wp2_with fail
          go_ret
          exact ⟨by rw [G.out]; rfl, B0.out⟩
      · have G : Hid (fewB p n = false) := Lib.hid (by rw [F.out]; simp [q2, q3])
        clear F q2
        go_enter Try.func8, Try.ntmps8
        go_wp2_with fail
        go_ret
        exact ⟨by rw [G.out]; rfl, B0.out⟩
  · have G : Hid (fewB p n = false) := Lib.hid (by rw [F.out]; simp [q1])
    clear F
    go_enter Try.func8, Try.ntmps8
    go_wp2_with fail
    go_ret
    exact ⟨by rw [G.out]; rfl, B0.out⟩
end Go.Proofs.Ytadjkidjkgnkoaa.SegA
