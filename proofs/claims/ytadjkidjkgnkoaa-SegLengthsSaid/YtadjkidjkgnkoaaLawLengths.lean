/- The law SegLengths. -/
import Derived.Test.YtadjkidjkgnkoaaSegA
set_option linter.unusedVariables false
namespace Go.Proofs.Ytadjkidjkgnkoaa.LawLengths
open Go.RowKit Go.Sort Go.Proofs.Ytadjkidjkgnkoaa.Sums Go.Proofs.Ytadjkidjkgnkoaa.Words Go.Proofs.Ytadjkidjkgnkoaa.Mem Go.Proofs.Ytadjkidjkgnkoaa.Ahead Go.Proofs.Ytadjkidjkgnkoaa.SegD Go.Proofs.Ytadjkidjkgnkoaa.Blk Go.Proofs.Ytadjkidjkgnkoaa.Bits Go.Proofs.Ytadjkidjkgnkoaa.InetSum Go.Proofs.Ytadjkidjkgnkoaa.Steps Go.Proofs.Ytadjkidjkgnkoaa.Free Go.Proofs.Ytadjkidjkgnkoaa.Cut
open Go.Proofs.Ytadjkidjkgnkoaa.Com Go.Proofs.Ytadjkidjkgnkoaa.Seg1 Go.Proofs.Ytadjkidjkgnkoaa.Seg3 Go.Proofs.Ytadjkidjkgnkoaa.Seg7 Go.Proofs.Ytadjkidjkgnkoaa.SegA

def Yes (w : World) (e : Ending) (w' : World) : Prop := e = .returned (.bool true) ∧ Below w.heap.size w w'

/-- A slice cut at a place. -/
theorem cut_to (A : Option Addr) (n c k : Nat) (hk : k ≤ n) (hn : n ≤ c) : ∃ A1 c1, ∀ w, (Instr.sliceAt 22 (.slice A n c) none (some (.int .i64 (k : Int))) none).run Try.prog w = .ok (.slice A1 k c1) w := by
  refine ⟨if c = 0 then A else A.map (·.add (0 * 1)), c - 0, fun w => ?_⟩
  rw [run_sliceAt_slice (P := Try.prog) (h := (by kernel_rfl)), run_slice_h (P := Try.prog) (w := w) (t := 22) (a := A) (len := n) (cap := c) (ht := (by kernel_rfl)) .i64 (k : Int) (by omega) (by omega), byte_elem]
  simp only [Result.andThen_ok, sliced, Int.toNat_natCast]
  rfl
theorem cut_from (A : Option Addr) (n c k : Nat) (hk : k ≤ n) (hn : n ≤ c) : ∃ A1 c1, ∀ w, (Instr.sliceAt 22 (.slice A n c) (some (.int .i64 (k : Int))) none none).run Try.prog w = .ok (.slice A1 (n - k) c1) w := by
  refine ⟨if c = k then A else A.map (·.add (k * 1)), c - k, fun w => ?_⟩
  rw [run_sliceAt_slice (P := Try.prog) (h := (by kernel_rfl)), run_slice_l (P := Try.prog) (w := w) (t := 22) (a := A) (len := n) (cap := c) (ht := (by kernel_rfl)) .i64 (k : Int) (by omega) (by omega), byte_elem]
  simp only [Result.andThen_ok, sliced, Int.toNat_natCast]

def F (f : Int) (A : Option Addr) (n c : Nat) : Array Value := #[.int .i64 0, .int .i64 0, .int .i64 0, .int .i64 0, .int .i64 f, .int .i64 0, .int .i64 0, .string ⟨#[]⟩, .slice A n c]

theorem lengths_out (A : Option Addr) (n c : Nat) (k : Int) (x y : Bool) (w : World) (h : 2000 < n ∨ (n ≤ 2000 ∧ (k < 0 ∨ (0 ≤ k ∧ (n : Int) < k)))) (hn : n ≤ 9223372036854775807) :
    Calls Try.prog 7 #[.slice A n c, .int .i64 k, .bool x, .bool y] w (Yes w) := by
  have AW := Lib.hid (awake_any w)
  rcases h with h | ⟨h, h2 | ⟨h2, h3⟩⟩
  · have g1 : decide ((2000 : Int) < (n : Int)) = true := decide_eq_true (by omega)
    have g1' : decide (2000 < n) = true := decide_eq_true h
    clear h
    go_enter Try.func7, Try.ntmps7
    go_wp2_with fail
    refine AW.out.mono ?_
    rintro e w' ⟨rfl, hb⟩
    go_wp2_with fail
    go_ret
    exact ⟨rfl, hb⟩
  · have g1 : decide ((2000 : Int) < (n : Int)) = false := decide_eq_false (by omega)
    have g1' : decide (2000 < n) = false := decide_eq_false (by omega)
    have g2 : decide (k < 0) = true := decide_eq_true h2
    clear h h2
    go_enter Try.func7, Try.ntmps7
    go_wp2_with fail
    refine AW.out.mono ?_
    rintro e w' ⟨rfl, hb⟩
    go_wp2_with fail
    go_ret
    exact ⟨rfl, hb⟩
  · have g1 : decide ((2000 : Int) < (n : Int)) = false := decide_eq_false (by omega)
    have g1' : decide (2000 < n) = false := decide_eq_false (by omega)
    have g2 : decide (k < 0) = false := decide_eq_false (by omega)
    have g3 : decide ((n : Int) < k) = true := decide_eq_true h3
    clear h h2 h3
    go_enter Try.func7, Try.ntmps7
    go_wp2_with fail
    refine AW.out.mono ?_
    rintro e w' ⟨rfl, hb⟩
    go_wp2_with fail
    go_ret
    exact ⟨rfl, hb⟩

/-- What is known of the three segments in every later world. -/
structure Seen (w : World) (g g2 g3 : Nat) (f1 f2 f3 : Int) (A : Option Addr) (n c : Nat) (A1 : Option Addr) (k1 c1 : Nat) (A2 : Option Addr) (k2 c2 : Nat) : Prop where
  a : ∀ d' os, Calls Try.prog 16 #[] (grow (redrawn w d') os) fun e w'' => e = .returned (.bool true) ∧ ∃ p : Regrown, w'' = grow (redrawn w p.d) p.os
  x0_0 : ∀ d' os, (grow (redrawn w d') os).cell? ⟨g, 0, none⟩ = some (.int .i64 0)
  x0_1 : ∀ d' os, (grow (redrawn w d') os).cell? ⟨g, 1, none⟩ = some (.int .i64 0)
  x0_2 : ∀ d' os, (grow (redrawn w d') os).cell? ⟨g, 2, none⟩ = some (.int .i64 0)
  x0_3 : ∀ d' os, (grow (redrawn w d') os).cell? ⟨g, 3, none⟩ = some (.int .i64 0)
  x0_4 : ∀ d' os, (grow (redrawn w d') os).cell? ⟨g, 4, none⟩ = some (.int .i64 f1)
  x0_5 : ∀ d' os, (grow (redrawn w d') os).cell? ⟨g, 5, none⟩ = some (.int .i64 0)
  x0_6 : ∀ d' os, (grow (redrawn w d') os).cell? ⟨g, 6, none⟩ = some (.int .i64 0)
  x0_7 : ∀ d' os, (grow (redrawn w d') os).cell? ⟨g, 7, none⟩ = some (.string ⟨#[]⟩)
  x0_8 : ∀ d' os, (grow (redrawn w d') os).cell? ⟨g, 8, none⟩ = some (.slice A1 k1 c1)
  x1_0 : ∀ d' os, (grow (redrawn w d') os).cell? ⟨g2, 0, none⟩ = some (.int .i64 0)
  x1_1 : ∀ d' os, (grow (redrawn w d') os).cell? ⟨g2, 1, none⟩ = some (.int .i64 0)
  x1_2 : ∀ d' os, (grow (redrawn w d') os).cell? ⟨g2, 2, none⟩ = some (.int .i64 0)
  x1_3 : ∀ d' os, (grow (redrawn w d') os).cell? ⟨g2, 3, none⟩ = some (.int .i64 0)
  x1_4 : ∀ d' os, (grow (redrawn w d') os).cell? ⟨g2, 4, none⟩ = some (.int .i64 f2)
  x1_5 : ∀ d' os, (grow (redrawn w d') os).cell? ⟨g2, 5, none⟩ = some (.int .i64 0)
  x1_6 : ∀ d' os, (grow (redrawn w d') os).cell? ⟨g2, 6, none⟩ = some (.int .i64 0)
  x1_7 : ∀ d' os, (grow (redrawn w d') os).cell? ⟨g2, 7, none⟩ = some (.string ⟨#[]⟩)
  x1_8 : ∀ d' os, (grow (redrawn w d') os).cell? ⟨g2, 8, none⟩ = some (.slice A2 k2 c2)
  x2_0 : ∀ d' os, (grow (redrawn w d') os).cell? ⟨g3, 0, none⟩ = some (.int .i64 0)
  x2_1 : ∀ d' os, (grow (redrawn w d') os).cell? ⟨g3, 1, none⟩ = some (.int .i64 0)
  x2_2 : ∀ d' os, (grow (redrawn w d') os).cell? ⟨g3, 2, none⟩ = some (.int .i64 0)
  x2_3 : ∀ d' os, (grow (redrawn w d') os).cell? ⟨g3, 3, none⟩ = some (.int .i64 0)
  x2_4 : ∀ d' os, (grow (redrawn w d') os).cell? ⟨g3, 4, none⟩ = some (.int .i64 f3)
  x2_5 : ∀ d' os, (grow (redrawn w d') os).cell? ⟨g3, 5, none⟩ = some (.int .i64 0)
  x2_6 : ∀ d' os, (grow (redrawn w d') os).cell? ⟨g3, 6, none⟩ = some (.int .i64 0)
  x2_7 : ∀ d' os, (grow (redrawn w d') os).cell? ⟨g3, 7, none⟩ = some (.string ⟨#[]⟩)
  x2_8 : ∀ d' os, (grow (redrawn w d') os).cell? ⟨g3, 8, none⟩ = some (.slice A n c)
  n1 : ∀ d' os, Calls Try.prog 14 #[.agg #[.int .i64 0, .int .i64 0, .int .i64 0, .int .i64 0, .int .i64 f1, .int .i64 0, .int .i64 0, .string ⟨#[]⟩, .slice A1 k1 c1]] (grow (redrawn w d') os) fun e w'' => e = .returned (.int .i64 (len k1 f1)) ∧ ∃ p : Regrown, w'' = grow (redrawn w p.d) p.os
  n2 : ∀ d' os, Calls Try.prog 14 #[.agg #[.int .i64 0, .int .i64 0, .int .i64 0, .int .i64 0, .int .i64 f2, .int .i64 0, .int .i64 0, .string ⟨#[]⟩, .slice A2 k2 c2]] (grow (redrawn w d') os) fun e w'' => e = .returned (.int .i64 (len k2 f2)) ∧ ∃ p : Regrown, w'' = grow (redrawn w p.d) p.os
  n3 : ∀ d' os, Calls Try.prog 14 #[.agg #[.int .i64 0, .int .i64 0, .int .i64 0, .int .i64 0, .int .i64 f3, .int .i64 0, .int .i64 0, .string ⟨#[]⟩, .slice A n c]] (grow (redrawn w d') os) fun e w'' => e = .returned (.int .i64 (len n f3)) ∧ ∃ p : Regrown, w'' = grow (redrawn w p.d) p.os
  n4 : ∀ d' os, Calls Try.prog 14 #[.agg #[.int .i64 0, .int .i64 0, .int .i64 0, .int .i64 0, .int .i64 44, .int .i64 0, .int .i64 0, .string ⟨#[]⟩, .slice none 0 0]] (grow (redrawn w d') os) fun e w'' => e = .returned (.int .i64 0) ∧ ∃ p : Regrown, w'' = grow (redrawn w p.d) p.os
theorem seen {w : World} {g g2 g3 : Nat} {f1 f2 f3 : Int} {A : Option Addr} {n c : Nat} {A1 : Option Addr} {k1 c1 : Nat} {A2 : Option Addr} {k2 c2 : Nat}
    (h1 : Blk w g 24 (F f1 A1 k1 c1)) (h2 : Blk w g2 24 (F f2 A2 k2 c2)) (h3 : Blk w g3 24 (F f3 A n c)) (hn : n ≤ 2000) (hk1 : k1 ≤ 2000) (hk2 : k2 ≤ 2000) : Seen w g g2 g3 f1 f2 f3 A n c A1 k1 c1 A2 k2 c2 :=
  ⟨fun d' os => Calls.regrown_of (awake_any _),
   fun d' os => cell_regrown (h1.cell 0) d' os,
   fun d' os => cell_regrown (h1.cell 1) d' os,
   fun d' os => cell_regrown (h1.cell 2) d' os,
   fun d' os => cell_regrown (h1.cell 3) d' os,
   fun d' os => cell_regrown (h1.cell 4) d' os,
   fun d' os => cell_regrown (h1.cell 5) d' os,
   fun d' os => cell_regrown (h1.cell 6) d' os,
   fun d' os => cell_regrown (h1.cell 7) d' os,
   fun d' os => cell_regrown (h1.cell 8) d' os,
   fun d' os => cell_regrown (h2.cell 0) d' os,
   fun d' os => cell_regrown (h2.cell 1) d' os,
   fun d' os => cell_regrown (h2.cell 2) d' os,
   fun d' os => cell_regrown (h2.cell 3) d' os,
   fun d' os => cell_regrown (h2.cell 4) d' os,
   fun d' os => cell_regrown (h2.cell 5) d' os,
   fun d' os => cell_regrown (h2.cell 6) d' os,
   fun d' os => cell_regrown (h2.cell 7) d' os,
   fun d' os => cell_regrown (h2.cell 8) d' os,
   fun d' os => cell_regrown (h3.cell 0) d' os,
   fun d' os => cell_regrown (h3.cell 1) d' os,
   fun d' os => cell_regrown (h3.cell 2) d' os,
   fun d' os => cell_regrown (h3.cell 3) d' os,
   fun d' os => cell_regrown (h3.cell 4) d' os,
   fun d' os => cell_regrown (h3.cell 5) d' os,
   fun d' os => cell_regrown (h3.cell 6) d' os,
   fun d' os => cell_regrown (h3.cell 7) d' os,
   fun d' os => cell_regrown (h3.cell 8) d' os,
   fun d' os => Calls.regrown_of (length_any ⟨0, 0, 0, 0, f1, 0, 0, ⟨#[]⟩⟩ A1 k1 c1 _ (by omega)),
   fun d' os => Calls.regrown_of (length_any ⟨0, 0, 0, 0, f2, 0, 0, ⟨#[]⟩⟩ A2 k2 c2 _ (by omega)),
   fun d' os => Calls.regrown_of (length_any ⟨0, 0, 0, 0, f3, 0, 0, ⟨#[]⟩⟩ A n c _ (by omega)),
   fun d' os => Calls.regrown_of (length_any ⟨0, 0, 0, 0, 44, 0, 0, ⟨#[]⟩⟩ none 0 0 _ (by omega))⟩
theorem len_in (n : Nat) (f : Int) (hn : n ≤ 2000) : 0 ≤ len n f ∧ len n f ≤ 2002 := by unfold len; split <;> split <;> omega
theorem len_parts {n k : Nat} (hk : k ≤ n) (x y : Bool) : len n (16 + (if x then 2 else 0) + (if y then 1 else 0)) = len k (if x then 2 else 0) + len (n - k) (if y then 1 else 0) := by
  cases x <;> cases y <;> (simp only [len]; simp; omega)

theorem three (w : World) (a b c : Array Value) : Blk (((w.alloc (.cells a 24)).alloc (.cells b 24)).alloc (.cells c 24)) w.heap.size 24 a ∧ Blk (((w.alloc (.cells a 24)).alloc (.cells b 24)).alloc (.cells c 24)) (w.heap.size + 1) 24 b ∧ Blk (((w.alloc (.cells a 24)).alloc (.cells b 24)).alloc (.cells c 24)) (w.heap.size + 1 + 1) 24 c ∧
    Below w.heap.size w (((w.alloc (.cells a 24)).alloc (.cells b 24)).alloc (.cells c 24)) := by
  have k2 := (Blk.new (w.alloc (.cells a 24)) 24 b).alloc (.cells c 24)
  have k3 := Blk.new ((w.alloc (.cells a 24)).alloc (.cells b 24)) 24 c
  rw [show (w.alloc (.cells a 24)).heap.size = w.heap.size + 1 by simp] at k2
  rw [show ((w.alloc (.cells a 24)).alloc (.cells b 24)).heap.size = w.heap.size + 1 + 1 by simp] at k3
  exact ⟨((Blk.new w 24 a).alloc _).alloc _, k2, k3, (((Below.refl _ w).alloc (Nat.le_refl _) _).alloc (by simp) _).alloc (by simp; omega) _⟩

set_option maxHeartbeats 2000000 in
set_option maxRecDepth 100000 in
theorem lengths_in (A : Option Addr) (n c k : Nat) (x y : Bool) (w : World) (hn : n ≤ 2000) (hk : k ≤ n) (hc : n ≤ c) :
    Calls Try.prog 7 #[.slice A n c, .int .i64 (k : Int), .bool x, .bool y] w (Yes w) := by
  obtain ⟨A1, c1, E1⟩ := cut_to A n c k hk hc
  obtain ⟨A2, c2, E2⟩ := cut_from A n c k hk hc
  have g1 : decide ((2000 : Int) < (n : Int)) = false := decide_eq_false (by omega)
  have g1' : decide (2000 < n) = false := decide_eq_false (by omega)
  have g3 : decide ((n : Int) < (k : Int)) = false := decide_eq_false (by omega)
  have g3' : decide (n < k) = false := decide_eq_false (by omega)
  have LP := Lib.hid (len_parts hk x y)
  obtain ⟨m, hm⟩ : ∃ m, m = n - k := ⟨_, rfl⟩
  rw [← hm] at E2 LP
  have HM : Hid (m ≤ 2000) := Lib.hid (by omega)
  have HK : Hid (k ≤ 2000) := Lib.hid (by omega)
  clear hm hk
  cases x <;> cases y
  · have LQ : Hid (len n 16 = len k 0 + len m 0) := LP
    obtain ⟨K1, K2, K3, BB⟩ := three w #[.int .i64 0, .int .i64 0, .int .i64 0, .int .i64 0, .int .i64 0, .int .i64 0, .int .i64 0, .string ⟨#[]⟩, .slice A1 k c1] #[.int .i64 0, .int .i64 0, .int .i64 0, .int .i64 0, .int .i64 0, .int .i64 0, .int .i64 0, .string ⟨#[]⟩, .slice A2 m c2] #[.int .i64 0, .int .i64 0, .int .i64 0, .int .i64 0, .int .i64 16, .int .i64 0, .int .i64 0, .string ⟨#[]⟩, .slice A n c]
    have K1' := Lib.hid K1
    have K2' := Lib.hid K2
    have K3' := Lib.hid K3
    have B1 := Lib.hid BB
    clear K1 K2 K3 BB LP
    go_enter Try.func7, Try.ntmps7
    go_wp2_with fail
    generalize ((w.alloc (.cells #[.int .i64 0, .int .i64 0, .int .i64 0, .int .i64 0, .int .i64 0, .int .i64 0, .int .i64 0, .string ⟨#[]⟩, .slice A1 k c1] 24)).alloc (.cells #[.int .i64 0, .int .i64 0, .int .i64 0, .int .i64 0, .int .i64 0, .int .i64 0, .int .i64 0, .string ⟨#[]⟩, .slice A2 m c2] 24)).alloc (.cells #[.int .i64 0, .int .i64 0, .int .i64 0, .int .i64 0, .int .i64 16, .int .i64 0, .int .i64 0, .string ⟨#[]⟩, .slice A n c] 24) = w1 at *
    obtain ⟨a, x0_0, x0_1, x0_2, x0_3, x0_4, x0_5, x0_6, x0_7, x0_8, x1_0, x1_1, x1_2, x1_3, x1_4, x1_5, x1_6, x1_7, x1_8, x2_0, x2_1, x2_2, x2_3, x2_4, x2_5, x2_6, x2_7, x2_8, n1, n2, n3, n4⟩ := seen K1'.out K2'.out K3'.out hn HK.out HM.out
    generalize w.heap.size + 1 + 1 = ga3 at *
    generalize w.heap.size + 1 = ga2 at *
    have X1 := len_in k 0 HK.out
    have X2 := len_in m 0 HM.out
    generalize len k 0 = p1 at *
    generalize len m 0 = p2 at *
    generalize len n 16 = p3 at *
    have hq : (p3 == p1 + p2) = true := beq_iff_eq.2 LQ.out
    have hw : IntKind.i64.wrap (p1 + p2) = p1 + p2 := IntWalk.i64_in _ (by omega)
    clear X1 X2 LQ E1 E2 g1 g1' g3 g3'
    refine wp_region_quiet_below (by kernel_rfl) (by kernel_rfl) ?_
    repeat (go_big_quiet_step (first | with_reducible exact a _ _ | with_reducible exact n1 _ _ | with_reducible exact n2 _ _ | with_reducible exact n3 _ _ | with_reducible exact n4 _ _))
    refine wpQuiet_nil ?_
    intro _ hw'
    obtain ⟨⟨dq, osq⟩, hw''⟩ := hw'
    subst hw''
    clear a x0_0 x0_1 x0_2 x0_3 x0_4 x0_5 x0_6 x0_7 x0_8 x1_0 x1_1 x1_2 x1_3 x1_4 x1_5 x1_6 x1_7 x1_8 x2_0 x2_1 x2_2 x2_3 x2_4 x2_5 x2_6 x2_7 x2_8 n1 n2 n3 n4
    go_wp2_with fail
    go_ret
    exact ⟨rfl, B1.out.trans ((below_regrown w1 dq osq).mono B1.out.size)⟩
  · have LQ : Hid (len n 17 = len k 0 + len m 1) := LP
    obtain ⟨K1, K2, K3, BB⟩ := three w #[.int .i64 0, .int .i64 0, .int .i64 0, .int .i64 0, .int .i64 0, .int .i64 0, .int .i64 0, .string ⟨#[]⟩, .slice A1 k c1] #[.int .i64 0, .int .i64 0, .int .i64 0, .int .i64 0, .int .i64 1, .int .i64 0, .int .i64 0, .string ⟨#[]⟩, .slice A2 m c2] #[.int .i64 0, .int .i64 0, .int .i64 0, .int .i64 0, .int .i64 17, .int .i64 0, .int .i64 0, .string ⟨#[]⟩, .slice A n c]
    have K1' := Lib.hid K1
    have K2' := Lib.hid K2
    have K3' := Lib.hid K3
    have B1 := Lib.hid BB
    clear K1 K2 K3 BB LP
    go_enter Try.func7, Try.ntmps7
    go_wp2_with fail
    generalize ((w.alloc (.cells #[.int .i64 0, .int .i64 0, .int .i64 0, .int .i64 0, .int .i64 0, .int .i64 0, .int .i64 0, .string ⟨#[]⟩, .slice A1 k c1] 24)).alloc (.cells #[.int .i64 0, .int .i64 0, .int .i64 0, .int .i64 0, .int .i64 1, .int .i64 0, .int .i64 0, .string ⟨#[]⟩, .slice A2 m c2] 24)).alloc (.cells #[.int .i64 0, .int .i64 0, .int .i64 0, .int .i64 0, .int .i64 17, .int .i64 0, .int .i64 0, .string ⟨#[]⟩, .slice A n c] 24) = w1 at *
    obtain ⟨a, x0_0, x0_1, x0_2, x0_3, x0_4, x0_5, x0_6, x0_7, x0_8, x1_0, x1_1, x1_2, x1_3, x1_4, x1_5, x1_6, x1_7, x1_8, x2_0, x2_1, x2_2, x2_3, x2_4, x2_5, x2_6, x2_7, x2_8, n1, n2, n3, n4⟩ := seen K1'.out K2'.out K3'.out hn HK.out HM.out
    generalize w.heap.size + 1 + 1 = ga3 at *
    generalize w.heap.size + 1 = ga2 at *
    have X1 := len_in k 0 HK.out
    have X2 := len_in m 1 HM.out
    generalize len k 0 = p1 at *
    generalize len m 1 = p2 at *
    generalize len n 17 = p3 at *
    have hq : (p3 == p1 + p2) = true := beq_iff_eq.2 LQ.out
    have hw : IntKind.i64.wrap (p1 + p2) = p1 + p2 := IntWalk.i64_in _ (by omega)
    clear X1 X2 LQ E1 E2 g1 g1' g3 g3'
    refine wp_region_quiet_below (by kernel_rfl) (by kernel_rfl) ?_
    repeat (go_big_quiet_step (first | with_reducible exact a _ _ | with_reducible exact n1 _ _ | with_reducible exact n2 _ _ | with_reducible exact n3 _ _ | with_reducible exact n4 _ _))
    refine wpQuiet_nil ?_
    intro _ hw'
    obtain ⟨⟨dq, osq⟩, hw''⟩ := hw'
    subst hw''
    clear a x0_0 x0_1 x0_2 x0_3 x0_4 x0_5 x0_6 x0_7 x0_8 x1_0 x1_1 x1_2 x1_3 x1_4 x1_5 x1_6 x1_7 x1_8 x2_0 x2_1 x2_2 x2_3 x2_4 x2_5 x2_6 x2_7 x2_8 n1 n2 n3 n4
    go_wp2_with fail
    go_ret
    exact ⟨rfl, B1.out.trans ((below_regrown w1 dq osq).mono B1.out.size)⟩
  · have LQ : Hid (len n 18 = len k 2 + len m 0) := LP
    obtain ⟨K1, K2, K3, BB⟩ := three w #[.int .i64 0, .int .i64 0, .int .i64 0, .int .i64 0, .int .i64 2, .int .i64 0, .int .i64 0, .string ⟨#[]⟩, .slice A1 k c1] #[.int .i64 0, .int .i64 0, .int .i64 0, .int .i64 0, .int .i64 0, .int .i64 0, .int .i64 0, .string ⟨#[]⟩, .slice A2 m c2] #[.int .i64 0, .int .i64 0, .int .i64 0, .int .i64 0, .int .i64 18, .int .i64 0, .int .i64 0, .string ⟨#[]⟩, .slice A n c]
    have K1' := Lib.hid K1
    have K2' := Lib.hid K2
    have K3' := Lib.hid K3
    have B1 := Lib.hid BB
    clear K1 K2 K3 BB LP
    go_enter Try.func7, Try.ntmps7
    go_wp2_with fail
    generalize ((w.alloc (.cells #[.int .i64 0, .int .i64 0, .int .i64 0, .int .i64 0, .int .i64 2, .int .i64 0, .int .i64 0, .string ⟨#[]⟩, .slice A1 k c1] 24)).alloc (.cells #[.int .i64 0, .int .i64 0, .int .i64 0, .int .i64 0, .int .i64 0, .int .i64 0, .int .i64 0, .string ⟨#[]⟩, .slice A2 m c2] 24)).alloc (.cells #[.int .i64 0, .int .i64 0, .int .i64 0, .int .i64 0, .int .i64 18, .int .i64 0, .int .i64 0, .string ⟨#[]⟩, .slice A n c] 24) = w1 at *
    obtain ⟨a, x0_0, x0_1, x0_2, x0_3, x0_4, x0_5, x0_6, x0_7, x0_8, x1_0, x1_1, x1_2, x1_3, x1_4, x1_5, x1_6, x1_7, x1_8, x2_0, x2_1, x2_2, x2_3, x2_4, x2_5, x2_6, x2_7, x2_8, n1, n2, n3, n4⟩ := seen K1'.out K2'.out K3'.out hn HK.out HM.out
    generalize w.heap.size + 1 + 1 = ga3 at *
    generalize w.heap.size + 1 = ga2 at *
    have X1 := len_in k 2 HK.out
    have X2 := len_in m 0 HM.out
    generalize len k 2 = p1 at *
    generalize len m 0 = p2 at *
    generalize len n 18 = p3 at *
    have hq : (p3 == p1 + p2) = true := beq_iff_eq.2 LQ.out
    have hw : IntKind.i64.wrap (p1 + p2) = p1 + p2 := IntWalk.i64_in _ (by omega)
    clear X1 X2 LQ E1 E2 g1 g1' g3 g3'
    refine wp_region_quiet_below (by kernel_rfl) (by kernel_rfl) ?_
    repeat (go_big_quiet_step (first | with_reducible exact a _ _ | with_reducible exact n1 _ _ | with_reducible exact n2 _ _ | with_reducible exact n3 _ _ | with_reducible exact n4 _ _))
    refine wpQuiet_nil ?_
    intro _ hw'
    obtain ⟨⟨dq, osq⟩, hw''⟩ := hw'
    subst hw''
    clear a x0_0 x0_1 x0_2 x0_3 x0_4 x0_5 x0_6 x0_7 x0_8 x1_0 x1_1 x1_2 x1_3 x1_4 x1_5 x1_6 x1_7 x1_8 x2_0 x2_1 x2_2 x2_3 x2_4 x2_5 x2_6 x2_7 x2_8 n1 n2 n3 n4
    go_wp2_with fail
    go_ret
    exact ⟨rfl, B1.out.trans ((below_regrown w1 dq osq).mono B1.out.size)⟩
  · have LQ : Hid (len n 19 = len k 2 + len m 1) := LP
    obtain ⟨K1, K2, K3, BB⟩ := three w #[.int .i64 0, .int .i64 0, .int .i64 0, .int .i64 0, .int .i64 2, .int .i64 0, .int .i64 0, .string ⟨#[]⟩, .slice A1 k c1] #[.int .i64 0, .int .i64 0, .int .i64 0, .int .i64 0, .int .i64 1, .int .i64 0, .int .i64 0, .string ⟨#[]⟩, .slice A2 m c2] #[.int .i64 0, .int .i64 0, .int .i64 0, .int .i64 0, .int .i64 19, .int .i64 0, .int .i64 0, .string ⟨#[]⟩, .slice A n c]
    have K1' := Lib.hid K1
    have K2' := Lib.hid K2
    have K3' := Lib.hid K3
    have B1 := Lib.hid BB
    clear K1 K2 K3 BB LP
    go_enter Try.func7, Try.ntmps7
    go_wp2_with fail
    generalize ((w.alloc (.cells #[.int .i64 0, .int .i64 0, .int .i64 0, .int .i64 0, .int .i64 2, .int .i64 0, .int .i64 0, .string ⟨#[]⟩, .slice A1 k c1] 24)).alloc (.cells #[.int .i64 0, .int .i64 0, .int .i64 0, .int .i64 0, .int .i64 1, .int .i64 0, .int .i64 0, .string ⟨#[]⟩, .slice A2 m c2] 24)).alloc (.cells #[.int .i64 0, .int .i64 0, .int .i64 0, .int .i64 0, .int .i64 19, .int .i64 0, .int .i64 0, .string ⟨#[]⟩, .slice A n c] 24) = w1 at *
    obtain ⟨a, x0_0, x0_1, x0_2, x0_3, x0_4, x0_5, x0_6, x0_7, x0_8, x1_0, x1_1, x1_2, x1_3, x1_4, x1_5, x1_6, x1_7, x1_8, x2_0, x2_1, x2_2, x2_3, x2_4, x2_5, x2_6, x2_7, x2_8, n1, n2, n3, n4⟩ := seen K1'.out K2'.out K3'.out hn HK.out HM.out
    generalize w.heap.size + 1 + 1 = ga3 at *
    generalize w.heap.size + 1 = ga2 at *
    have X1 := len_in k 2 HK.out
    have X2 := len_in m 1 HM.out
    generalize len k 2 = p1 at *
    generalize len m 1 = p2 at *
    generalize len n 19 = p3 at *
    have hq : (p3 == p1 + p2) = true := beq_iff_eq.2 LQ.out
    have hw : IntKind.i64.wrap (p1 + p2) = p1 + p2 := IntWalk.i64_in _ (by omega)
    clear X1 X2 LQ E1 E2 g1 g1' g3 g3'
    refine wp_region_quiet_below (by kernel_rfl) (by kernel_rfl) ?_
    repeat (go_big_quiet_step (first | with_reducible exact a _ _ | with_reducible exact n1 _ _ | with_reducible exact n2 _ _ | with_reducible exact n3 _ _ | with_reducible exact n4 _ _))
    refine wpQuiet_nil ?_
    intro _ hw'
    obtain ⟨⟨dq, osq⟩, hw''⟩ := hw'
    subst hw''
    clear a x0_0 x0_1 x0_2 x0_3 x0_4 x0_5 x0_6 x0_7 x0_8 x1_0 x1_1 x1_2 x1_3 x1_4 x1_5 x1_6 x1_7 x1_8 x2_0 x2_1 x2_2 x2_3 x2_4 x2_5 x2_6 x2_7 x2_8 n1 n2 n3 n4
    go_wp2_with fail
    go_ret
    exact ⟨rfl, B1.out.trans ((below_regrown w1 dq osq).mono B1.out.size)⟩

theorem lengths_any (A : Option Addr) (n c : Nat) (l : List Int) (k : Int) (x y : Bool) (w : World) (h : Holds w w.heap.size A n c l) :
    Calls Try.prog 7 #[.slice A n c, .int .i64 k, .bool x, .bool y] w (Yes w) := by
  have hn : n ≤ 9223372036854775807 := by
    have a := h.2.1
    have b := h.2.2.1
    simp only [maxLen] at b
    omega
  by_cases q : 2000 < n ∨ (n ≤ 2000 ∧ (k < 0 ∨ (0 ≤ k ∧ (n : Int) < k)))
  · exact lengths_out A n c k x y w q hn
  · obtain ⟨k', rfl⟩ : ∃ k' : Nat, k = (k' : Int) := ⟨k.toNat, by omega⟩
    exact lengths_in A n c k' x y w (by omega) (by omega) h.2.1
end Go.Proofs.Ytadjkidjkgnkoaa.LawLengths
