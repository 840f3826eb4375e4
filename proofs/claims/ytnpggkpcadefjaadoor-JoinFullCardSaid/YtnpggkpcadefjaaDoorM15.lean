/- Contracts: words, their one's complement sums, of the code and of the document's answer; a check that is turned. -/
import Derived.Test.YtnpggkpcadefjaaDoorSums
import Derived.Test.YtnpggkpcadefjaaDoorChecked
import Derived.Test.YtnpggkpcadefjaaDoorBytes
import Derived.WalkKit
import Derived.ProofKit
import Derived.IntWalk
import Derived.Below
import Derived.Lib.Hide
import Derived.Laws.BitsAllLaws
import Derived.Laws.BitsLemmas
import Derived.LoopTactic
namespace Go.Proofs.YtnpggkpcadefjaaDoor.Words
open Go.RowKit Go.Proofs.YtnpggkpcadefjaaDoor.Sums

theorem ret_int {k : IntKind} {a b : Int} (h : a = b) : Ending.returned (.int k a) = .returned (.int k b) := by rw [h]

theorem and_low (n : Int) : bits .and .i64 n 65535 = wd n := by
  show IntKind.i64.wrap ((BitVec.ofInt 64 n &&& BitVec.ofInt 64 65535).toNat : Int) = _
  have e : (BitVec.ofInt 64 65535).toNat = 2 ^ 16 - 1 := by decide
  have l : (BitVec.ofInt 64 n).toNat % 2 ^ 16 < 2 ^ 16 := Nat.mod_lt _ (by decide)
  rw [BitVec.toNat_and, e, Nat.and_two_pow_sub_one_eq_mod, IntKind.wrap_i64]
  have t : ((BitVec.ofInt 64 n).toNat : Int) = n % 18446744073709551616 := by
    rw [BitVec.toNat_ofInt]; simp; omega
  unfold wd
  omega

theorem wf_i64 {n : Int} (h : (Lit.int .i64 n).wf = true) : -9223372036854775808 ≤ n ∧ n ≤ 9223372036854775807 := by
  simp [Lit.wf, IntKind.min, IntKind.max, IntKind.signed, IntKind.bits] at h; omega

theorem tmod_word (n : Int) : n.tmod 65536 = if 0 ≤ n then n % 65536 else -((-n) % 65536) := by
  split
  · exact Int.tmod_eq_emod_of_nonneg (by assumption)
  · have e := Int.neg_tmod (-n) 65536
    rw [Int.neg_neg] at e
    rw [e, Int.tmod_eq_emod_of_nonneg (by omega)]

theorem word_num (n : Int) : (wrap64 (n.tmod 65536 + 65536)).tmod 65536 = wd n := by
  have t := tmod_word n
  have i : 0 ≤ n.tmod 65536 + 65536 ∧ n.tmod 65536 + 65536 ≤ 131071 := by rw [t]; split <;> omega
  rw [IntWalk.wrap64_in _ (by omega), Int.tmod_eq_emod_of_nonneg i.1, t]
  unfold wd
  split <;> omega

theorem add_more {a b : Int} (h : 65535 < wd a + wd b) : wd a + wd b - 65535 = add a b := by unfold add; rw [if_pos h]
theorem add_less {a b : Int} (h : wd a + wd b ≤ 65535) : wd a + wd b = add a b := by unfold add; rw [if_neg (by omega)]

end Go.Proofs.YtnpggkpcadefjaaDoor.Words

/- Contracts of inet.first, inet.Sum, inet.Check: over a row of bytes. -/
namespace Go.Proofs.YtnpggkpcadefjaaDoor.InetSum
open Go.RowKit Go.Proofs.YtnpggkpcadefjaaDoor.Sums Go.Proofs.YtnpggkpcadefjaaDoor.Words Go.Proofs.YtnpggkpcadefjaaDoor.Mem

theorem sums_go {s : Int} {l : List Int} {k n : Nat} (hl : l.length = n) (hk : k < n) : sums s (l.drop k) = sums (add s (first (l.drop k))) (l.drop (k + 2)) := by
  rw [sums_step s (l.drop k) (fun e => by have := congrArg List.length e; simp at this; omega), List.drop_drop]

end Go.Proofs.YtnpggkpcadefjaaDoor.InetSum

