/- The contract of the code's Same. -/
import Derived.Test.YtmlihcillheeaaaDoorMac1
set_option linter.unusedVariables false
namespace Go.Proofs.YtmlihcillheeaaaDoor.Mac4
open Go.RowKit Go.PlainAid Go.Proofs.YtmlihcillheeaaaDoor.Sums Go.Proofs.YtmlihcillheeaaaDoor.Mem Go.Proofs.YtmlihcillheeaaaDoor.Blk Go.Proofs.YtmlihcillheeaaaDoor.Bits Go.Proofs.YtmlihcillheeaaaDoor.Bits3 Go.Proofs.YtmlihcillheeaaaDoor.Ints

theorem u8_or {a b : Nat} (h1 : a < 256) (h2 : b < 256) : bits .or .u8 (a : Int) (b : Int) = ((a ||| b : Nat) : Int) := by
  have n8 : ∀ c : Nat, c < 256 → (BitVec.ofInt 8 (c : Int)).toNat = c := fun c hc => by rw [BitVec.toNat_ofInt]; simp; omega
  show IntKind.u8.wrap ((BitVec.ofInt 8 (a : Int) ||| BitVec.ofInt 8 (b : Int)).toNat : Int) = _
  rw [BitVec.toNat_or, n8 a h1, n8 b h2, IntKind.wrap_u8]
  have : a ||| b < 2 ^ 8 := Nat.or_lt_two_pow (by omega) (by omega)
  omega
theorem or_zero {a b : Nat} : a ||| b = 0 ↔ a = 0 ∧ b = 0 := by
  constructor
  · intro h
    have h1 : a ≤ a ||| b := Nat.left_le_or
    have h2 : b ≤ a ||| b := Nat.right_le_or
    omega
  · rintro ⟨rfl, rfl⟩; rfl
theorem xor_zero {a b : Nat} : a ^^^ b = 0 ↔ a = b := by
  constructor
  · intro h
    have : (a ^^^ b) ^^^ b = 0 ^^^ b := by rw [h]
    rwa [Nat.xor_assoc, Nat.xor_self, Nat.xor_zero, Nat.zero_xor] at this
  · rintro rfl; exact Nat.xor_self a
theorem nats_byt' {l : List Int} (h : Bytes l) (j : Nat) : (nats l).getD j 0 < 256 := by
  rw [List.getD_eq_getElem?_getD]
  cases e : (nats l)[j]? with
  | none => decide
  | some z => exact nats_lt (fun z hz => h z hz) z (List.mem_of_getElem? e)
theorem take_next {a b : List Int} {j : Nat} (ha : j < a.length) (hb : j < b.length) : (a.take (j + 1) = b.take (j + 1)) ↔ (a.take j = b.take j ∧ a.getD j 0 = b.getD j 0) := by
  have e : ∀ (l : List Int), j < l.length → l.take (j + 1) = l.take j ++ [l.getD j 0] := fun l h => by
    rw [List.take_add_one, List.getD_eq_getElem?_getD, List.getElem?_eq_getElem h]; rfl
  rw [e a ha, e b hb]
  constructor
  · intro h
    have := List.append_inj' h rfl
    exact ⟨this.1, by injection this.2⟩
  · rintro ⟨h1, h2⟩
    rw [h1, h2]

set_option maxHeartbeats 1000000 in
theorem same_any (A : Option Addr) (n c : Nat) (l : List Int) (A2 : Option Addr) (n2 c2 : Nat) (l2 : List Int) (w : World) (B : Nat) (h : Holds w B A n c l) (h2 : Holds w B A2 n2 c2 l2) (hn : n ≤ 1000000) (hn2 : n2 ≤ 1000000) :
    Calls Tryd.prog 13 #[.slice A n c, .slice A2 n2 c2] w fun e w' => e = .returned (.bool (decide (l = l2))) ∧ w = w' := by
  by_cases hq : n = n2
  · subst hq
    have L1 := Lib.hid h.1
    have L2 := Lib.hid h2.1
    obtain ⟨r, hr⟩ : ∃ r : Bool, r = decide (l = l2) := ⟨_, rfl⟩
    have RE := Lib.hid hr
    rw [← hr]
    have g : ((n : Int) != (n : Int)) = false := by simp
    have C1 : Hid (∀ j, j < n → ∃ b o, A = some ⟨b, o, none⟩ ∧ w.cell? ⟨b, o + j, none⟩ = some (.int .u8 (((nats l).getD j 0 : Nat) : Int)) ∧ (nats l).getD j 0 < 256 ∧ l.getD j 0 = (((nats l).getD j 0 : Nat) : Int)) := Lib.hid fun j hj => by
      obtain ⟨b, o, rfl, _, _⟩ := h.2.2.2.2 (by omega)
      have := cell_getD h j hj
      rw [nats_getD h.2.2.2.1 j] at this
      exact ⟨b, o, rfl, this, nats_byt' h.2.2.2.1 j, nats_getD h.2.2.2.1 j⟩
    have C2 : Hid (∀ j, j < n → ∃ b o, A2 = some ⟨b, o, none⟩ ∧ w.cell? ⟨b, o + j, none⟩ = some (.int .u8 (((nats l2).getD j 0 : Nat) : Int)) ∧ (nats l2).getD j 0 < 256 ∧ l2.getD j 0 = (((nats l2).getD j 0 : Nat) : Int)) := Lib.hid fun j hj => by
      obtain ⟨b, o, rfl, _, _⟩ := h2.2.2.2.2 (by omega)
      have := cell_getD h2 j hj
      rw [nats_getD h2.2.2.2.1 j] at this
      exact ⟨b, o, rfl, this, nats_byt' h2.2.2.2.1 j, nats_getD h2.2.2.2.1 j⟩
    clear h h2 hr
    go_enter Tryd.func13, Tryd.ntmps13
    go_wp2_with fail
    go_loopw [5, 15] (fun dv kv wr => ∃ j d : Nat, kv = .int .i64 (j : Int) ∧ dv = .int .u8 (d : Int) ∧ j ≤ n ∧ d < 256 ∧ Hid (d = 0 ↔ l.take j = l2.take j) ∧ Hid (w = wr)) (fun _ kv _ => n - (intOf kv).toNat)
    case atStart => exact ⟨0, 0, rfl, rfl, by omega, by decide, Lib.hid (by simp), Lib.hid (by trivial)⟩
    case round =>
      obtain ⟨j, d, rfl, rfl, hj, hd, HD, HW⟩ := hrel
      obtain rfl := HW.out
      by_cases hlt : j < n
      · obtain ⟨b1, o1, rfl, k1, x1, y1⟩ := C1.out j hlt
        obtain ⟨b2, o2, rfl, k2, x2, y2⟩ := C2.out j hlt
        have TN := Lib.hid (take_next (a := l) (b := l2) (j := j) (by rw [L1.out]; exact hlt) (by rw [L2.out]; exact hlt))
        rw [y1, y2] at TN
        clear y1 y2
        generalize (nats l).getD j 0 = x at *
        generalize (nats l2).getD j 0 = y at *
        have e1 : bits .xor .u8 (x : Int) (y : Int) = ((x ^^^ y : Nat) : Int) := Bits3.u8_xor x1 x2
        have xb : x ^^^ y < 256 := Nat.xor_lt_two_pow (n := 8) x1 x2
        have e2 : bits .or .u8 (d : Int) ((x ^^^ y : Nat) : Int) = ((d ||| (x ^^^ y) : Nat) : Int) := u8_or hd xb
        have ob : d ||| (x ^^^ y) < 256 := Nat.or_lt_two_pow (n := 8) hd xb
        have ND : Hid (d ||| (x ^^^ y) = 0 ↔ l.take (j + 1) = l2.take (j + 1)) := Lib.hid (by
          rw [TN.out, or_zero, HD.out, xor_zero]
          constructor
          · rintro ⟨q1, q2⟩; exact ⟨q1, by rw [q2]⟩
          · rintro ⟨q1, q2⟩; exact ⟨q1, by omega⟩)
        generalize d ||| (x ^^^ y) = d2 at *
        generalize x ^^^ y = z at *
        clear TN HD C1 C2
        go_wp2_with fail
        go_roundw
        case rel => exact ⟨j + 1, d2, by go_num, rfl, by omega, ob, ND, Lib.hid (by trivial)⟩
        case measure => simp [intOf]; omega
      · obtain rfl : j = n := by omega
        have ED : Hid (((d : Int) == 0) = r) := Lib.hid (by
          have := HD.out
          rw [List.take_of_length_le (by rw [L1.out]; exact Nat.le_refl _), List.take_of_length_le (by rw [L2.out]; exact Nat.le_refl _)] at this
          rw [RE.out, Bool.eq_iff_iff, decide_eq_true_iff, ← this, beq_iff_eq]
          omega)
        clear HD C1 C2
        go_wp2_with fail
        go_ret
        exact ⟨by rw [← ED.out]; rfl, rfl⟩
  · have e : decide (l = l2) = false := decide_eq_false fun q => hq (by rw [← h.1, ← h2.1, q])
    rw [e]
    have g : ((n : Int) != (n2 : Int)) = true := by rw [bne_iff_ne]; omega
    clear h h2 hq e
    go_enter Tryd.func13, Tryd.ntmps13
    go_wp2_with fail
    go_ret
    exact ⟨rfl, rfl⟩
end Go.Proofs.YtmlihcillheeaaaDoor.Mac4
