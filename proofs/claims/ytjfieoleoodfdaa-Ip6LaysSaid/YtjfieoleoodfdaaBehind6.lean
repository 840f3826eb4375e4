/- Contracts: behind of the code, size of the document. -/
import Derived.Test.YtjfieoleoodfdaaLoads6
set_option linter.unusedVariables false
namespace Go.Proofs.Ytjfieoleoodfdaa.Behind6
open Go.RowKit Go.Proofs.Ytjfieoleoodfdaa.Sums Go.Proofs.Ytjfieoleoodfdaa.Mem Go.Proofs.Ytjfieoleoodfdaa.P6 Go.Proofs.Ytjfieoleoodfdaa.Blk Go.Proofs.Ytjfieoleoodfdaa.Exts Go.Proofs.Ytjfieoleoodfdaa.Loads6 Go.Proofs.Ytjfieoleoodfdaa.Small6

theorem behind_code (p : Pkt) (E : Option Addr) (m ce : Nat) (A : Option Addr) (n c : Nat) (w : World) (hr : Row w (.slice E m ce) p.exts) (hz : Small p.exts) (hm : m ≤ 65536) (hn : n ≤ 1048576) :
    Calls Try.prog 33 #[.agg #[.int .i64 p.cls, .int .i64 p.lab, .int .i64 p.hop, .string p.src, .string p.dst, .slice E m ce, .int .i64 p.next, .slice A n c]] w fun e w' => e = .returned (.int .i64 ((n + behind p.exts : Nat) : Int)) ∧ Below w.heap.size w w' := by
  have L := Lib.hid hr.len
  have BL : behind p.exts ≤ 68719607808 := by
    have := behind_le _ hz
    rw [hr.len] at this
    have h2 : m * 1048578 ≤ 65536 * 1048578 := Nat.mul_le_mul_right _ hm
    omega
  have B0 := Lib.hid ((Below.refl w.heap.size w).alloc (Nat.le_refl _) (.cells #[.int .i64 p.cls, .int .i64 p.lab, .int .i64 p.hop, .string p.src, .string p.dst, .slice E m ce, .int .i64 p.next, .slice A n c] 25))
  have R0 := Lib.hid (hr.below B0.out)
  have HZ := Lib.hid hz
  clear hr hz
  go_enter Try.func33, Try.ntmps33
  go_wp2_with fail
  generalize w.alloc (.cells #[.int .i64 p.cls, .int .i64 p.lab, .int .i64 p.hop, .string p.src, .string p.dst, .slice E m ce, .int .i64 p.next, .slice A n c] 25) = w1 at *
  go_loopw [3, 12] (fun s i wr => ∃ k : Nat, i = .int .i64 (k : Int) ∧ k ≤ m ∧ s = .int .i64 ((n + behind (p.exts.take k) : Nat) : Int) ∧ Below w1.heap.size w1 wr) (fun _ i _ => m - (intOf i).toNat)
  case atStart => exact ⟨0, rfl, by omega, by simp [behind], Below.refl _ _⟩
  case round =>
    obtain ⟨k, rfl, hk, rfl, hb⟩ := hrel
    by_cases hk2 : k = m
    · have hlt : decide (k < m) = false := by simp [hk2]
      have full : p.exts.take k = p.exts := List.take_of_length_le (by rw [L.out]; omega)
      rw [full]
      have HB := Lib.hid hb
      clear hk2 hb full
      go_wp2_with fail
      go_ret
      exact ⟨rfl, B0.out.trans (HB.out.mono B0.out.size)⟩
    · have hlt : decide (k < m) = true := by rw [decide_eq_true_eq]; omega
      obtain ⟨a, q, d, rfl, hq, hab, c1, c2, c3⟩ := (R0.out.below hb).at_ (k := k) (by omega)
      have hi : k < m := by omega
      have SZ := HZ.out.at_ hq
      have BT := Lib.hid (behind_take hq)
      have btl := behind_take_le p.exts k
      have btl1 := behind_take_le p.exts (k + 1)
      rw [BT.out] at btl1
      have CS := Lib.hid (fun W => size_any q d W (by omega))
      have e1 : IntKind.i64.wrap (((n + behind (p.exts.take k) : Nat) : Int) + (sz (q, d) : Int)) = ((n + behind (p.exts.take k) : Nat) : Int) + (sz (q, d) : Int) := IntWalk.i64_in _ (by omega)
      have NX : Hid (((n + behind (p.exts.take k) : Nat) : Int) + (sz (q, d) : Int) = ((n + behind (p.exts.take (k + 1)) : Nat) : Int)) := Lib.hid (by rw [BT.out]; omega)
      have HB := Lib.hid hb
      clear hq hb hk2 btl1
      generalize hS : ((n + behind (p.exts.take k) : Nat) : Int) = S at *
      go_wp2_with (first
        | (refine wpList_load_pair rfl _ rfl a k q d rfl c1 c2 ?_))
      refine (CS.out _).mono ?_
      rintro e w2 ⟨rfl, hb2⟩
      have HB2 := Lib.hid ((HB.out.alloc HB.out.size (.cells #[.int .i64 q, .string d] 43)).trans (hb2.mono (by have := HB.out.size; simp; omega)))
      clear hb2
      go_wp2_with fail
      rw [NX.out]
      go_roundw
      case rel => exact ⟨k + 1, by go_num, by omega, rfl, HB2.out⟩
      case measure => simp [intOf]; omega
end Go.Proofs.Ytjfieoleoodfdaa.Behind6
