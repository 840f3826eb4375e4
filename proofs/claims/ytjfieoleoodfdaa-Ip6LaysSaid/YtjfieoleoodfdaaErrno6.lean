/- What errno makes of a failure. -/
import Derived.Test.YtjfieoleoodfdaaIsFacts
import Derived.Test.YtjfieoleoodfdaaBlk
set_option linter.unusedVariables false
namespace Go.Proofs.Ytjfieoleoodfdaa.Errno
open Go.RowKit Go.Proofs.Ytjfieoleoodfdaa.Blk

def fours : Array Value := #[.int .i64 1, .int .i64 2, .int .i64 4, .int .i64 8]

theorem errno_nil (w : World) : Calls Try.prog 26 #[.nilIface] w fun e w' => e = .returned (.int .i64 0) ∧ Below w.heap.size w w' := by
  have B0 := Lib.hid ((Below.refl w.heap.size w).alloc (Nat.le_refl _) (.cells #[.int .i64 1, .int .i64 2, .int .i64 4, .int .i64 8] 28))
  go_enter Try.func26, Try.ntmps26
  go_wp2_with fail
  refine wp_loop_rounds 5 ?_
  rw [rounds_succ]
  go_wp2_with fail
  refine (isE_nil _ _).mono ?_
  rintro e w' ⟨rfl, rfl⟩
  go_wp2_with fail
  rw [rounds_succ]
  go_wp2_with fail
  refine (isE_nil _ _).mono ?_
  rintro e w' ⟨rfl, rfl⟩
  go_wp2_with fail
  rw [rounds_succ]
  go_wp2_with fail
  refine (isE_nil _ _).mono ?_
  rintro e w' ⟨rfl, rfl⟩
  go_wp2_with fail
  rw [rounds_succ]
  go_wp2_with fail
  refine (isE_nil _ _).mono ?_
  rintro e w' ⟨rfl, rfl⟩
  go_wp2_with fail
  rw [rounds_succ]
  go_wp2_with fail
  go_ret
  exact ⟨rfl, B0.out⟩

set_option maxHeartbeats 1000000 in
theorem errno_fault (s : ByteArray) (k : Int) (w : World) (hk : k = 1 ∨ k = 2 ∨ k = 4 ∨ k = 8) : Calls Try.prog 26 #[.iface 64 (.agg #[.string s, .iface 28 (.int .i64 k)])] w fun e w' => e = .returned (.int .i64 k) ∧ Below w.heap.size w w' := by
  have IS := Lib.hid (fun t W => isE_fault s k t W)
  have B0 := Lib.hid ((Below.refl w.heap.size w).alloc (Nat.le_refl _) (.cells #[.int .i64 1, .int .i64 2, .int .i64 4, .int .i64 8] 28))
  have K0 := Lib.hid (Blk.new w 28 #[.int .i64 1, .int .i64 2, .int .i64 4, .int .i64 8])
  rcases hk with rfl | rfl | rfl | rfl
  · go_enter Try.func26, Try.ntmps26
    go_wp2_with fail
    refine wp_loop_rounds 1 ?_
    rw [rounds_succ]
    go_wp2_with fail
    refine (IS.out 1 _).mono ?_
    rintro e w1 ⟨rfl, hb⟩
    have B1 := Lib.hid (B0.out.trans (hb.mono B0.out.size))
    have K1 := Lib.hid (K0.out.below hb K0.out.lt)
    clear hb
    go_wp2_with fail
    go_ret
    exact ⟨rfl, B1.out⟩
  · go_enter Try.func26, Try.ntmps26
    go_wp2_with fail
    refine wp_loop_rounds 2 ?_
    rw [rounds_succ]
    go_wp2_with fail
    refine (IS.out 1 _).mono ?_
    rintro e w1 ⟨rfl, hb⟩
    have B1 := Lib.hid (B0.out.trans (hb.mono B0.out.size))
    have K1 := Lib.hid (K0.out.below hb K0.out.lt)
    clear hb
    have c1 := K1.out.cell 1
    go_wp2_with fail
    rw [rounds_succ]
    go_wp2_with fail
    refine (IS.out 2 _).mono ?_
    rintro e w2 ⟨rfl, hb⟩
    have B2 := Lib.hid (B1.out.trans (hb.mono B1.out.size))
    have K2 := Lib.hid (K1.out.below hb K1.out.lt)
    clear hb
    go_wp2_with fail
    go_ret
    exact ⟨rfl, B2.out⟩
  · go_enter Try.func26, Try.ntmps26
    go_wp2_with fail
    refine wp_loop_rounds 3 ?_
    rw [rounds_succ]
    go_wp2_with fail
    refine (IS.out 1 _).mono ?_
    rintro e w1 ⟨rfl, hb⟩
    have B1 := Lib.hid (B0.out.trans (hb.mono B0.out.size))
    have K1 := Lib.hid (K0.out.below hb K0.out.lt)
    clear hb
    have c1 := K1.out.cell 1
    go_wp2_with fail
    rw [rounds_succ]
    go_wp2_with fail
    refine (IS.out 2 _).mono ?_
    rintro e w2 ⟨rfl, hb⟩
    have B2 := Lib.hid (B1.out.trans (hb.mono B1.out.size))
    have K2 := Lib.hid (K1.out.below hb K1.out.lt)
    clear hb
    have c2 := K2.out.cell 2
    go_wp2_with fail
    rw [rounds_succ]
    go_wp2_with fail
    refine (IS.out 4 _).mono ?_
    rintro e w3 ⟨rfl, hb⟩
    have B3 := Lib.hid (B2.out.trans (hb.mono B2.out.size))
    have K3 := Lib.hid (K2.out.below hb K2.out.lt)
    clear hb
    go_wp2_with fail
    go_ret
    exact ⟨rfl, B3.out⟩
  · go_enter Try.func26, Try.ntmps26
    go_wp2_with fail
    refine wp_loop_rounds 4 ?_
    rw [rounds_succ]
    go_wp2_with fail
    refine (IS.out 1 _).mono ?_
    rintro e w1 ⟨rfl, hb⟩
    have B1 := Lib.hid (B0.out.trans (hb.mono B0.out.size))
    have K1 := Lib.hid (K0.out.below hb K0.out.lt)
    clear hb
    have c1 := K1.out.cell 1
    go_wp2_with fail
    rw [rounds_succ]
    go_wp2_with fail
    refine (IS.out 2 _).mono ?_
    rintro e w2 ⟨rfl, hb⟩
    have B2 := Lib.hid (B1.out.trans (hb.mono B1.out.size))
    have K2 := Lib.hid (K1.out.below hb K1.out.lt)
    clear hb
    have c2 := K2.out.cell 2
    go_wp2_with fail
    rw [rounds_succ]
    go_wp2_with fail
    refine (IS.out 4 _).mono ?_
    rintro e w3 ⟨rfl, hb⟩
    have B3 := Lib.hid (B2.out.trans (hb.mono B2.out.size))
    have K3 := Lib.hid (K2.out.below hb K2.out.lt)
    clear hb
    have c3 := K3.out.cell 3
    go_wp2_with fail
    rw [rounds_succ]
    go_wp2_with fail
    refine (IS.out 8 _).mono ?_
    rintro e w4 ⟨rfl, hb⟩
    have B4 := Lib.hid (B3.out.trans (hb.mono B3.out.size))
    have K4 := Lib.hid (K3.out.below hb K3.out.lt)
    clear hb
    go_wp2_with fail
    go_ret
    exact ⟨rfl, B4.out⟩
end Go.Proofs.Ytjfieoleoodfdaa.Errno
