/- Contracts: Length and Offer of the code, Offer of the document. -/
import Derived.Test.YtadjkidjkgnkoaaSeg5
import Derived.Test.YtadjkidjkgnkoaaBits2
import Derived.Test.YtadjkidjkgnkoaaRefPseudo
import Derived.LoopTactic
set_option linter.unusedVariables false
namespace Go.Proofs.Ytadjkidjkgnkoaa.Seg7
open Go.RowKit Go.Sort Go.Proofs.Ytadjkidjkgnkoaa.Sums Go.Proofs.Ytadjkidjkgnkoaa.Words Go.Proofs.Ytadjkidjkgnkoaa.Mem Go.Proofs.Ytadjkidjkgnkoaa.Ahead Go.Proofs.Ytadjkidjkgnkoaa.SegD Go.Proofs.Ytadjkidjkgnkoaa.Blk Go.Proofs.Ytadjkidjkgnkoaa.Bits Go.Proofs.Ytadjkidjkgnkoaa.InetSum Go.Proofs.Ytadjkidjkgnkoaa.Steps Go.Proofs.Ytadjkidjkgnkoaa.Free Go.Proofs.Ytadjkidjkgnkoaa.Cut
open Go.Proofs.Ytadjkidjkgnkoaa.Com Go.Proofs.Ytadjkidjkgnkoaa.Bits2 Go.Proofs.Ytadjkidjkgnkoaa.RefPseudo

/-- How much behind k of the two flags. -/
def lenAt (n : Nat) (f : Int) : Nat → Int
  | 0 => n
  | 1 => n + (if f / 2 % 2 = 1 then 1 else 0)
  | _ => len n f
set_option maxHeartbeats 1000000 in
theorem length_any (p : Sg) (A : Option Addr) (n c : Nat) (w : World) (hn : n ≤ 140737488355328) :
    Calls Try.prog 14 #[.agg #[.int .i64 p.src, .int .i64 p.dst, .int .i64 p.seq, .int .i64 p.ack, .int .i64 p.flags, .int .i64 p.window, .int .i64 p.urgent, .string p.opt, .slice A n c]] w fun e w' => e = .returned (.int .i64 (len n p.flags)) ∧ Below w.heap.size w w' := by
  have B0 := Lib.hid (((Below.refl w.heap.size w).alloc (Nat.le_refl _) (.cells #[.int .i64 p.src, .int .i64 p.dst, .int .i64 p.seq, .int .i64 p.ack, .int .i64 p.flags, .int .i64 p.window, .int .i64 p.urgent, .string p.opt, .slice A n c] 24)).alloc (by simp) (.cells #[.int .i64 2, .int .i64 1] 3))
  have K0 := Blk.new w 24 #[.int .i64 p.src, .int .i64 p.dst, .int .i64 p.seq, .int .i64 p.ack, .int .i64 p.flags, .int .i64 p.window, .int .i64 p.urgent, .string p.opt, .slice A n c]
  have k8 := K0.cell 8
  have K1 := K0.alloc (.cells #[.int .i64 2, .int .i64 1] 3)
  have j4 := K1.cell 4
  have J1 := Blk.new (w.alloc (.cells #[.int .i64 p.src, .int .i64 p.dst, .int .i64 p.seq, .int .i64 p.ack, .int .i64 p.flags, .int .i64 p.window, .int .i64 p.urgent, .string p.opt, .slice A n c] 24)) 3 #[.int .i64 2, .int .i64 1]
  rw [show (w.alloc (.cells #[.int .i64 p.src, .int .i64 p.dst, .int .i64 p.seq, .int .i64 p.ack, .int .i64 p.flags, .int .i64 p.window, .int .i64 p.urgent, .string p.opt, .slice A n c] 24)).heap.size = w.heap.size + 1 by simp] at J1
  have i0 := J1.cell 0
  have i1 := J1.cell 1
  clear K0 K1 J1
  have a2 := Lib.hid (and_2 p.flags)
  have a1 := Lib.hid (and_1 p.flags)
  have L0 : Hid (lenAt n p.flags 0 = n) := Lib.hid rfl
  have L1 : Hid (lenAt n p.flags 1 = n + (if p.flags / 2 % 2 = 1 then 1 else 0)) := Lib.hid rfl
  have L2 : Hid (lenAt n p.flags 2 = lenAt n p.flags 1 + (if p.flags % 2 = 1 then 1 else 0)) := Lib.hid rfl
  have L3 : Hid (lenAt n p.flags 2 = len n p.flags) := Lib.hid rfl
  go_enter Try.func14, Try.ntmps14
  go_wp2_with fail
  generalize (w.alloc (.cells #[.int .i64 p.src, .int .i64 p.dst, .int .i64 p.seq, .int .i64 p.ack, .int .i64 p.flags, .int .i64 p.window, .int .i64 p.urgent, .string p.opt, .slice A n c] 24)).alloc (.cells #[.int .i64 2, .int .i64 1] 3) = w1 at *
  go_loopw [3, 11] (fun m i wr => ∃ k : Nat, k ≤ 2 ∧ i = .int .i64 (k : Int) ∧ m = .int .i64 (lenAt n p.flags k) ∧ wr = w1) (fun _ i _ => 2 - (intOf i).toNat)
  case atStart => exact ⟨0, by omega, rfl, by rw [L0.out], rfl⟩
  case round =>
    obtain ⟨k, hk, rfl, rfl, rfl⟩ := hrel
    rcases (show k = 0 ∨ k = 1 ∨ k = 2 by omega) with rfl | rfl | rfl
    · rw [L0.out]
      by_cases q : p.flags / 2 % 2 = 1
      · have a2' : bits .and .i64 p.flags 2 = 2 := by rw [a2.out, q]; rfl
        have M : Hid (lenAt n p.flags 1 = (n : Int) + 1) := Lib.hid (by rw [L1.out, if_pos q])
        have e1 : IntKind.i64.wrap ((n : Int) + 1) = (n : Int) + 1 := IntWalk.i64_in _ (by omega)
        clear q
        go_wp2_with fail
        go_roundw
        case rel => exact ⟨1, by omega, by go_num, by rw [M.out], by first | trivial | rfl⟩
        case measure => simp [intOf]
      · have a2' : bits .and .i64 p.flags 2 = 0 := by rw [a2.out]; omega
        have M : Hid (lenAt n p.flags 1 = (n : Int)) := Lib.hid (by rw [L1.out, if_neg q]; simp)
        clear q
        go_wp2_with fail
        go_roundw
        case rel => exact ⟨1, by omega, by go_num, by rw [M.out], by first | trivial | rfl⟩
        case measure => simp [intOf]
    · have lb : 0 ≤ lenAt n p.flags 1 ∧ lenAt n p.flags 1 ≤ 140737488355329 := by rw [L1.out]; split <;> omega
      generalize lenAt n p.flags 1 = m at *
      by_cases q : p.flags % 2 = 1
      · have a1' : bits .and .i64 p.flags 1 = 1 := by rw [a1.out, q]
        have M : Hid (lenAt n p.flags 2 = m + 1) := Lib.hid (by rw [L2.out, if_pos q])
        have e1 : IntKind.i64.wrap (m + 1) = m + 1 := IntWalk.i64_in _ (by omega)
        clear q
        go_wp2_with fail
        go_roundw
        case rel => exact ⟨2, by omega, by go_num, by rw [M.out], by first | trivial | rfl⟩
        case measure => simp [intOf]
      · have a1' : bits .and .i64 p.flags 1 = 0 := by rw [a1.out]; omega
        have M : Hid (lenAt n p.flags 2 = m) := Lib.hid (by rw [L2.out, if_neg q]; simp)
        clear q
        go_wp2_with fail
        go_roundw
        case rel => exact ⟨2, by omega, by go_num, by rw [M.out], by first | trivial | rfl⟩
        case measure => simp [intOf]
    · rw [L3.out]
      go_wp2_with fail
      go_ret
      exact ⟨rfl, B0.out⟩

/-- What is offered. -/
def offerS (n : Int) : ByteArray := if n < 1 ∨ 65535 < n then ⟨#[]⟩ else strOfNums [2, 4, n / 256, n % 256]
theorem offer_off {n : Int} (h : n < 1 ∨ 65535 < n) : offerS n = ⟨#[]⟩ := by unfold offerS; rw [if_pos h]
theorem offer_on {n : Int} (h : 1 ≤ n) (k : n ≤ 65535) : offerS n = strOfNums [2, 4, n / 256, n % 256] := by unfold offerS; rw [if_neg (by omega)]

set_option maxHeartbeats 1000000 in
theorem offer_any (n : Int) (w : World) : Calls Try.prog 22 #[.int .i64 n] w fun e w' => e = .returned (.string (offerS n)) ∧ Below w.heap.size w w' := by
  by_cases h1 : n < 1
  · have F := Lib.hid (offer_off (.inl h1))
    have h1' : decide (n < 1) = true := decide_eq_true h1
    go_enter Try.func22, Try.ntmps22
    go_wp2_with fail
    go_ret
    exact ⟨by rw [F.out]; rfl, Below.refl _ _⟩
  have h1' : decide (n < 1) = false := decide_eq_false h1
  by_cases h2 : 65535 < n
  · have F := Lib.hid (offer_off (.inr h2))
    have h2' : decide (65535 < n) = true := decide_eq_true h2
    clear h1
    go_enter Try.func22, Try.ntmps22
    go_wp2_with fail
    go_ret
    exact ⟨by rw [F.out]; rfl, Below.refl _ _⟩
  have h2' : decide (65535 < n) = false := decide_eq_false h2
  have F := Lib.hid (offer_on (n := n) (by omega) (by omega))
  have e1 : IntKind.u8.wrap (n / 256) = n / 256 := by rw [IntKind.wrap_u8]; omega
  have e2 : IntKind.u8.wrap n = n % 256 := by rw [IntKind.wrap_u8]
  have v1 : (convert 22 9 (.slice (some ⟨w.heap.size, 0, none⟩) 4 4)).run Try.prog (w.alloc (.cells #[.int .u8 2, .int .u8 4, .int .u8 (n / 256), .int .u8 (n % 256)] 5)) = .ok (.string (strOfNums [2, 4, n / 256, n % 256])) (w.alloc (.cells #[.int .u8 2, .int .u8 4, .int .u8 (n / 256), .int .u8 (n % 256)] 5)) := run_string_bytes (Holds.lit w [2, 4, n / 256, n % 256] #[.int .u8 2, .int .u8 4, .int .u8 (n / 256), .int .u8 (n % 256)] rfl (by simp [maxLen]) (by intro z hz; simp at hz; omega))
  have B0 := Lib.hid ((Below.refl w.heap.size w).alloc (Nat.le_refl _) (.cells #[.int .u8 2, .int .u8 4, .int .u8 (n / 256), .int .u8 (n % 256)] 5))
  generalize strOfNums [2, 4, n / 256, n % 256] = t at *
  clear h1 h2
  go_enter Try.func22, Try.ntmps22
  go_wp2_with fail
  go_ret
  exact ⟨by rw [F.out]; rfl, B0.out⟩

set_option maxHeartbeats 1000000 in
theorem offer_ref (n : Int) (w : World) : Calls Try.prog 23 #[.int .i64 n] w fun e w' => e = .returned (.string (offerS n)) ∧ Below w.heap.size w w' := by
  by_cases h1 : n < 1
  · have F := Lib.hid (offer_off (.inl h1))
    have h1' : decide (n < 1) = true := decide_eq_true h1
    go_enter Try.func23, Try.ntmps23
    go_wp2_with fail
    go_ret
    exact ⟨by rw [F.out]; rfl, Below.refl _ _⟩
  have h1' : decide (n < 1) = false := decide_eq_false h1
  by_cases h2 : 65535 < n
  · have F := Lib.hid (offer_off (.inr h2))
    have h2' : decide (65535 < n) = true := decide_eq_true h2
    clear h1
    go_enter Try.func23, Try.ntmps23
    go_wp2_with fail
    go_ret
    exact ⟨by rw [F.out]; rfl, Below.refl _ _⟩
  have h2' : decide (65535 < n) = false := decide_eq_false h2
  have F := Lib.hid (offer_on (n := n) (by omega) (by omega))
  have H0 := Lib.hid (Holds.lit w [2, 4] #[.int .u8 2, .int .u8 4] rfl (by simp [maxLen]) (fun y hy => by simp at hy; omega))
  have B0 := Lib.hid ((Below.refl w.heap.size w).alloc (Nat.le_refl _) (.cells #[.int .u8 2, .int .u8 4] 5))
  have T0 := Lib.hid (two_any n (w.alloc (.cells #[.int .u8 2, .int .u8 4] 5)) (by omega) (by omega))
  clear h1 h2
  go_enter Try.func23, Try.ntmps23
  go_wp2_with fail
  refine T0.out.mono ?_
  rintro e w1 ⟨A, c, rfl, h2, hb⟩
  have B1 := Lib.hid (B0.out.trans (hb.mono B0.out.size))
  have H1 : Hid (Holds w1 w1.heap.size (some ⟨w.heap.size, 0, none⟩) 2 2 [2, 4]) := Lib.hid (((H0.out.below (hb.mono (by simp))).more (by have := hb.size; simp at this; omega)))
  have H2 := Lib.hid h2
  clear hb h2 H0
  go_wp2_with fail
  refine (Both.both_lit (Nat.le_refl _) [⟨some ⟨w.heap.size, 0, none⟩, 2, 2, [2, 4]⟩, ⟨A, 2, c, [n / 256, n % 256]⟩] _ _ rfl (Both.mem2 H1.out H2.out) w1.heap.size 2 rfl rfl (by decide) (by show 2 + (2 + 0) ≤ 1048576; omega)).mono ?_
  rintro e w3 ⟨A3, c3, rfl, h3, _, hb⟩
  have B3 := Lib.hid (B1.out.trans (hb.mono B1.out.size))
  have v1 := run_string_bytes h3
  have fl : Both.flat [(⟨some ⟨w.heap.size, 0, none⟩, 2, 2, [2, 4]⟩ : Both.Row), ⟨A, 2, c, [n / 256, n % 256]⟩] = [2, 4, n / 256, n % 256] := rfl
  rw [fl, ← F.out] at v1
  clear hb h3 fl F
  go_wp2_with fail
  go_ret
  exact ⟨rfl, B3.out⟩
end Go.Proofs.Ytadjkidjkgnkoaa.Seg7
