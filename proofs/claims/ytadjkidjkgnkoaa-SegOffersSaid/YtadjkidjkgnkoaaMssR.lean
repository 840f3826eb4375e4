/- The contract of the document's Mss: any text. -/
import Derived.Test.YtadjkidjkgnkoaaOptS
import Derived.Test.YtadjkidjkgnkoaaBlk
import Derived.Test.YtadjkidjkgnkoaaProg
import Derived.Deep.QuietTactic
import Derived.Lib.QuietBelow
import Derived.BigQuiet
import Derived.LoopTactic
set_option linter.unusedVariables false
namespace Go.Proofs.Ytadjkidjkgnkoaa.MssR
open Go.RowKit Go.Sort Go.PlainAid Go.Proofs.Ytadjkidjkgnkoaa.Blk Go.Proofs.Ytadjkidjkgnkoaa.OptS

/-- What is told where n is known already and o are the options that are still to come. -/
def mssN (n : Int) (o : Option (List (Int × ByteArray))) : Int × Int := match o with
  | none => (0, 4)
  | some xs => if pickN n xs < 0 then (0, 6) else (pickN n xs, 0)
theorem mssN_start (s : ByteArray) : mssN (-1) (optsS (s.extract 0 s.size)) = mss s := by
  rw [at_start]
  unfold mssN mss
  cases optsS s with
  | none => rfl
  | some xs => simp only [pickN_start]
theorem mssN_nil {n : Int} (h : -1 ≤ n) : mssN n (some []) = if n < 0 then (0, 6) else (n, 0) := by
  simp only [mssN, pickN_nil h]
theorem mssN_one {n k : Int} {d : ByteArray} (h : -1 ≤ n) (o : Option (List (Int × ByteArray))) : mssN n (o.map ((k, d) :: ·)) = mssN (if k = 2 ∧ d.size = 2 ∧ n < 0 then 256 * bt d 0 + bt d 1 else n) o := by
  cases o with
  | none => rfl
  | some xs => simp only [mssN, Option.map_some, pickN_one h]

set_option maxHeartbeats 2000000 in
set_option maxRecDepth 100000 in
theorem mss_ref (s : ByteArray) (w : World) (hs : s.size ≤ 1048576) : Calls Try.prog 21 #[.string s] w fun e w' => e = .returned (.tuple #[.int .i64 (mss s).1, .int .i64 (mss s).2]) ∧ Below w.heap.size w w' := by
  have hgb := get_bt s
  have b0 := Lib.hid (bt_nonneg s)
  have b1 := Lib.hid (bt_le s)
  have M0 := Lib.hid (mssN_start s)
  go_enter Try.func21, Try.ntmps21
  go_wp2_with fail
  go_loopw [4, 5] (fun o i wr => ∃ (k : Nat) (n : Int), i = .int .i64 (k : Int) ∧ o = .int .i64 n ∧ k ≤ s.size ∧ -1 ≤ n ∧ n ≤ 65535 ∧ Hid (Below w.heap.size w wr) ∧ Hid (mssN n (optsS (s.extract k s.size)) = mss s)) (fun _ i _ => s.size - (intOf i).toNat)
  case atStart => exact ⟨0, -1, rfl, rfl, by omega, by omega, by omega, Lib.hid (Below.refl _ _), M0⟩
  case round =>
    obtain ⟨k, m, rfl, rfl, hk, m0, m1, HB, HT⟩ := hrel
    clear M0
    by_cases hlt : k < s.size
    case neg =>
      have fin : mss s = if m < 0 then (0, 6) else (m, 0) := by rw [← HT.out, at_end s k (by omega), mssN_nil m0]
      by_cases q : m < 0
      · have q' : decide (m < 0) = true := decide_eq_true q
        rw [if_pos q] at fin
        have FN := Lib.hid fin
        clear fin q
        go_wp2_with fail
        go_ret2
        exact ⟨by rw [FN.out]; rfl, HB.out⟩
      · have q' : decide (m < 0) = false := decide_eq_false q
        rw [if_neg q] at fin
        have FN := Lib.hid fin
        clear fin q
        go_wp2_with fail
        go_ret2
        exact ⟨by rw [FN.out]; rfl, HB.out⟩
    have x0 := b0.out k
    have x1 := b1.out k
    by_cases z0 : bt s k = 0
    · have fin : mss s = if m < 0 then (0, 6) else (m, 0) := by rw [← HT.out, at_zero s k hlt z0, mssN_nil m0]
      have z0' : (bt s k != 0) = false := by rw [z0]; rfl
      by_cases q : m < 0
      · have q' : decide (m < 0) = true := decide_eq_true q
        rw [if_pos q] at fin
        have FN := Lib.hid fin
        clear fin q
        go_wp2_with fail
        go_ret2
        exact ⟨by rw [FN.out]; rfl, HB.out⟩
      · have q' : decide (m < 0) = false := decide_eq_false q
        rw [if_neg q] at fin
        have FN := Lib.hid fin
        clear fin q
        go_wp2_with fail
        go_ret2
        exact ⟨by rw [FN.out]; rfl, HB.out⟩
    have z0' : (bt s k != 0) = true := by rw [bne_iff_ne]; exact z0
    by_cases z1 : bt s k = 1
    · have NX : Hid (mssN m (optsS (s.extract (k + 1) s.size)) = mss s) := Lib.hid (by
        rw [← HT.out, at_nop s k hlt z1, mssN_one m0, if_neg (by omega)])
      have z1' : (bt s k == 1) = true := by rw [z1]; rfl
      have e0 : IntKind.i64.wrap ((k : Int) + 1) = (k : Int) + 1 := IntWalk.i64_in _ (by omega)
      clear z0 z1 HT
      go_wp2_with fail
      go_roundw
      case rel => exact ⟨k + 1, m, by go_num, rfl, by omega, m0, m1, HB, NX⟩
      case measure => simp [intOf]; omega
    have z1' : (bt s k == 1) = false := by rw [beq_eq_false_iff_ne]; exact z1
    obtain ⟨k1, hk1⟩ : ∃ k1, k1 = k + 1 := ⟨_, rfl⟩
    have e0 : IntKind.i64.wrap ((k : Int) + 1) = (k1 : Int) := by rw [IntWalk.i64_in _ (by omega)]; omega
    have K1 := Lib.hid hk1
    by_cases q1 : s.size ≤ k1
    · have NO := Lib.hid (show mss s = (0, 4) by rw [← HT.out, at_bad s k hlt z0 z1 (.inl (by omega))]; rfl)
      have q1' : (s.size ≤ k1) = True := eq_true q1
      clear hk1 z0 z1 HT
      go_wp2_with fail
      go_ret2
      exact ⟨by rw [NO.out]; rfl, HB.out⟩
    have q1' : (s.size ≤ k1) = False := eq_false q1
    have hlt1 : k1 < s.size := by omega
    have y0 := b0.out k1
    have y1 := b1.out k1
    by_cases q2 : bt s k1 < 2
    · have NO := Lib.hid (show mss s = (0, 4) by rw [← HT.out, at_bad s k hlt z0 z1 (.inr (.inl (by rw [← hk1]; exact q2)))]; rfl)
      clear hk1 z0 z1 HT
      go_wp2_with fail
      go_ret2
      exact ⟨by rw [NO.out]; rfl, HB.out⟩
    have q2' : (bt s k1 < 2) = False := eq_false q2
    obtain ⟨n, hn⟩ : ∃ n : Nat, bt s k1 = (n : Int) := ⟨(bt s k1).toNat, by omega⟩
    obtain ⟨kn, hkn⟩ : ∃ kn, kn = k + n := ⟨_, rfl⟩
    have KN : Hid ((k : Int) + (n : Int) = (kn : Int)) := Lib.hid (by omega)
    have e3 : IntKind.i64.wrap (bt s k1) = (n : Int) := by rw [hn]; exact IntWalk.i64_in _ (by omega)
    have e4 : IntKind.i64.wrap ((k : Int) + (n : Int)) = (kn : Int) := by rw [KN.out]; exact IntWalk.i64_in _ (by omega)
    by_cases q3 : s.size < kn
    · have NO := Lib.hid (show mss s = (0, 4) by rw [← HT.out, at_bad s k hlt z0 z1 (.inr (.inr (by rw [← hk1, hn]; omega)))]; rfl)
      have q3' : (s.size < kn) = True := eq_true q3
      clear hk1 hn hkn z0 z1 HT q1 q2 q3
      go_wp2_with fail
      go_ret2
      exact ⟨by rw [NO.out]; rfl, HB.out⟩
    have q3' : (s.size < kn) = False := eq_false q3
    have dsz : (s.extract (k + 2) kn).size = n - 2 := by rw [ByteArray.size_extract]; omega
    have NX := mssN_one (n := m) (k := bt s k) (d := s.extract (k + 2) kn) m0 (optsS (s.extract kn s.size))
    rw [hkn, ← at_go s k n (by omega) z0 z1 (by rw [← hk1]; exact hn) (by omega) (by omega), HT.out, ← hkn, dsz] at NX
    by_cases t : bt s k = 2 ∧ n = 4 ∧ m < 0
    · obtain ⟨t1, t2, t3⟩ := t
      have d0 : bt (s.extract (k + 2) kn) 0 = bt s (k + 2) := by rw [bt_extract s (k + 2) kn 0 (by omega) (by omega)]
      have d1 : bt (s.extract (k + 2) kn) 1 = bt s (k + 3) := by rw [bt_extract s (k + 2) kn 1 (by omega) (by omega)]
      rw [if_pos ⟨t1, by omega, t3⟩, d0, d1] at NX
      have NX' : Hid (mssN (256 * bt s (k + 2) + bt s (k + 3)) (optsS (s.extract kn s.size)) = mss s) := Lib.hid NX.symm
      obtain ⟨k2, hk2⟩ : ∃ k2, k2 = k + 2 := ⟨_, rfl⟩
      obtain ⟨k3, hk3⟩ : ∃ k3, k3 = k + 3 := ⟨_, rfl⟩
      have e5 : IntKind.i64.wrap ((k : Int) + 2) = (k2 : Int) := by rw [IntWalk.i64_in _ (by omega)]; omega
      have e6 : IntKind.i64.wrap ((k : Int) + 3) = (k3 : Int) := by rw [IntWalk.i64_in _ (by omega)]; omega
      have i2 : k2 < s.size := by omega
      have i3 : k3 < s.size := by omega
      rw [← hk2, ← hk3] at NX'
      have u0 := b0.out k2
      have u1 := b1.out k2
      have v0 := b0.out k3
      have v1 := b1.out k3
      have e7 : IntKind.i64.wrap (bt s k2) = bt s k2 := IntWalk.i64_in _ (by omega)
      have e8 : IntKind.i64.wrap (bt s k3) = bt s k3 := IntWalk.i64_in _ (by omega)
      have e9 : IntKind.i64.wrap (256 * bt s k2) = 256 * bt s k2 := IntWalk.i64_in _ (by omega)
      have e10 : IntKind.i64.wrap (256 * bt s k2 + bt s k3) = 256 * bt s k2 + bt s k3 := IntWalk.i64_in _ (by omega)
      have t1' : (bt s k == 2) = true := by rw [t1]; rfl
      have t2' : (bt s k1 == 4) = true := by rw [hn, t2]; rfl
      have t3' : decide (m < 0) = true := decide_eq_true t3
      have hkl : kn ≤ s.size := by omega
      have hkk : k < kn := by omega
      have w0 : -1 ≤ 256 * bt s k2 + bt s k3 := by omega
      have w1 : 256 * bt s k2 + bt s k3 ≤ 65535 := by omega
      clear hk1 hkn z0 z1 HT q1 q2 q3 t1 t2 t3 hk2 hk3 NX d0 d1 dsz hn
      go_wp2_with fail
      go_quiet (fail)
      go_wp2_with fail
      have HB2 : Hid (Below w.heap.size w (wr.drewN nq)) := Lib.hid (below_drewN HB.out nq)
      go_roundw
      case rel => exact ⟨kn, _, by go_num, rfl, hkl, w0, w1, HB2, NX'⟩
      case measure => simp [intOf]; omega
    · rw [if_neg (fun x => t ⟨x.1, by have := x.2.1; omega, x.2.2⟩)] at NX
      have NX' : Hid (mssN m (optsS (s.extract kn s.size)) = mss s) := Lib.hid NX.symm
      have hkl : kn ≤ s.size := by omega
      have hkk : k < kn := by omega
      have T : Hid (¬ (bt s k = 2 ∧ bt s k1 = 4 ∧ m < 0)) := Lib.hid (fun x => t ⟨x.1, by have := x.2.1; omega, x.2.2⟩)
      clear hk1 hkn z0 z1 HT q1 q2 q3 t NX dsz hn
      by_cases t1 : bt s k = 2
      · have t1' : (bt s k == 2) = true := by rw [t1]; rfl
        by_cases t2 : bt s k1 = 4
        · have t2' : (bt s k1 == 4) = true := by rw [t2]; rfl
          have t3' : decide (m < 0) = false := decide_eq_false (fun x => T.out ⟨t1, t2, x⟩)
          clear t1 t2
          go_wp2_with fail
          go_roundw
          case rel => exact ⟨kn, m, by go_num, rfl, hkl, m0, m1, HB, NX'⟩
          case measure => simp [intOf]; omega
        · have t2' : (bt s k1 == 4) = false := by rw [beq_eq_false_iff_ne]; exact t2
          clear t1 t2
          go_wp2_with fail
          go_roundw
          case rel => exact ⟨kn, m, by go_num, rfl, hkl, m0, m1, HB, NX'⟩
          case measure => simp [intOf]; omega
      · have t1' : (bt s k == 2) = false := by rw [beq_eq_false_iff_ne]; exact t1
        clear t1
        go_wp2_with fail
        go_roundw
        case rel => exact ⟨kn, m, by go_num, rfl, hkl, m0, m1, HB, NX'⟩
        case measure => simp [intOf]; omega
end Go.Proofs.Ytadjkidjkgnkoaa.MssR
