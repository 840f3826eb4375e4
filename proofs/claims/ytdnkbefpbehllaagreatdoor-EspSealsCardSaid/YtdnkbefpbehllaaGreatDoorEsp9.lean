/- The document's Seal and Open, whatever they tell. -/
import Derived.Test.YtdnkbefpbehllaaGreatDoorM41
set_option linter.unusedVariables false
namespace Go.Proofs.YtdnkbefpbehllaaGreatDoor.Esp9
open Go.RowKit Go.Proofs.YtdnkbefpbehllaaGreatDoor.Sums Go.Proofs.YtdnkbefpbehllaaGreatDoor.Mem Go.Proofs.YtdnkbefpbehllaaGreatDoor.Blk Go.Proofs.YtdnkbefpbehllaaGreatDoor.Bits3 Go.Proofs.YtdnkbefpbehllaaGreatDoor.Ints Go.Proofs.YtdnkbefpbehllaaGreatDoor.AesB Go.Proofs.YtdnkbefpbehllaaGreatDoor.PadR Go.Proofs.YtdnkbefpbehllaaGreatDoor.EspD Go.Proofs.YtdnkbefpbehllaaGreatDoor.CutA
open Go.Proofs.YtdnkbefpbehllaaGreatDoor.CtrD (four four_byt)
open Go.Proofs.YtdnkbefpbehllaaGreatDoor.EspR2 Go.Proofs.YtdnkbefpbehllaaGreatDoor.Regs Go.Proofs.YtdnkbefpbehllaaGreatDoor.Esp7 Go.Proofs.YtdnkbefpbehllaaGreatDoor.Esp8
open Go.Proofs.YtdnkbefpbehllaaGreatDoor.EspR4 (opX opY Ans3 lies_nil ans_err ans_ok)
theorem seal_rany (sp : Int) (ky sl mc : ByteArray) (es : Bool) (wn : Int) (q : Nat) (hq : q < 18446744073709551616) (A : Option Addr) (n c : Nat) (l : List Int) (x : Int) (w : World) (B : Nat) (h : Holds w B A n c l) (hB : B ≤ w.heap.size) (hn : n ≤ 70000) :
    Calls Tryz.prog 9 #[.agg #[.int .i64 sp, .string ky, .string sl, .string mc, .bool es, .int .i64 wn], .int .u64 (q : Int), .slice A n c, .int .i64 x] w (AnsS w (sealX sp ky sl mc es wn q l x) (sealE sp ky sl mc es wn q l.length x)) := by
  by_cases bad : (may sp ky sl mc wn && num es q) = false ∨ x < 0 ∨ 255 < x
  · exact (EspR3.seal_no14 sp ky sl mc es wn q A n c x w bad).mono fun e w' ⟨h1, h2⟩ => anss_err sp ky sl mc es wn q l x (sealE_no sp ky sl mc es wn q l.length x bad) (by decide) h1 h2
  · have E := sealE_yes sp ky sl mc es wn q l.length x bad
    have hmu : (may sp ky sl mc wn && num es q) = true := by
      cases z : (may sp ky sl mc wn && num es q) with
      | true => rfl
      | false => exact absurd (.inl z) bad
    rw [Bool.and_eq_true] at hmu
    refine (EspR3.seal_yes14 sp ky sl mc es wn q hq A n c l x w B h hB hn hmu.1 hmu.2 (by omega) (by omega)).mono ?_
    rintro e w' (⟨big, h1, h2⟩ | ⟨big, h1⟩)
    · exact anss_err sp ky sl mc es wn q l x (by rw [E, h.1, if_pos big]) (by decide) h1 h2
    · have E2 : sealE sp ky sl mc es wn q l.length x = 0 := by rw [E, h.1, if_neg (by omega)]
      have X : sealX sp ky sl mc es wn q l x = ints (sealL sp ky sl mc es wn q l x) := by unfold sealX; rw [E2, if_pos rfl]
      have XL : (ints (sealL sp ky sl mc es wn q l x)).length = 32 + long n := by rw [Ctr1.ints_len, sealL_len, h.1]
      rw [X, E2]
      unfold AnsS
      rw [XL]
      exact h1
theorem open_rany (sp : Int) (ky sl mc : ByteArray) (es : Bool) (wn : Int) (q : Nat) (hq : q < 18446744073709551616) (A : Option Addr) (n c : Nat) (l : List Int) (w : World) (B : Nat) (h : Holds w B A n c l) (hB : B ≤ w.heap.size) (hn : n ≤ 60000) :
    Calls Tryz.prog 15 #[.agg #[.int .i64 sp, .string ky, .string sl, .string mc, .bool es, .int .i64 wn], .int .u64 (q : Int), .slice A n c] w (Ans3 w (opX sp ky sl mc es wn q l) (opY sp ky sl mc es wn q l) (openE sp ky sl mc es wn q l)) := by
  by_cases bad : (may sp ky sl mc wn && num es q) = false
  · exact (EspR4.open_arg14 sp ky sl mc es wn q A n c w bad).mono fun e w' ⟨h1, h2⟩ => ans_err sp ky sl mc es wn q l (k := 1) (by unfold openE; rw [if_pos bad]) (by decide) h1 h2
  · have hmu : (may sp ky sl mc wn && num es q) = true := by simpa using bad
    rw [Bool.and_eq_true] at hmu
    by_cases h36 : n < 36
    · exact (EspR4.open_more14 sp ky sl mc es wn q A n c w hmu.1 hmu.2 h36).mono fun e w' ⟨h1, h2⟩ => ans_err sp ky sl mc es wn q l (k := 8) (by unfold openE; rw [if_neg bad, h.1, if_pos h36]) (by decide) h1 h2
    · exact EspR4.open_form14 sp ky sl mc es wn q hq A n c l w B h hB hmu.1 hmu.2 (by omega) hn
end Go.Proofs.YtdnkbefpbehllaaGreatDoor.Esp9
