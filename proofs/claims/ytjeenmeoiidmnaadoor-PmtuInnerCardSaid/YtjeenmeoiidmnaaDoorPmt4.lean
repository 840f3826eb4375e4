/- The code's cache: what it asks itself. -/
import Derived.Test.YtjeenmeoiidmnaaDoorPmtD
import Derived.Test.YtjeenmeoiidmnaaDoorCom
import Derived.Test.YtjeenmeoiidmnaaDoorStore
import Derived.Test.YtjeenmeoiidmnaaDoorLoads
import Derived.Test.YtjeenmeoiidmnaaDoorPart
import Derived.Test.YtjeenmeoiidmnaaDoorShelf
import Derived.Lib.MinMax
set_option linter.unusedVariables false
set_option maxRecDepth 100000
namespace Go.Proofs.YtjeenmeoiidmnaaDoor.Pmt4
open Go.RowKit Go.Proofs.YtjeenmeoiidmnaaDoor.Sums Go.Proofs.YtjeenmeoiidmnaaDoor.Mem Go.Proofs.YtjeenmeoiidmnaaDoor.Blk Go.Proofs.YtjeenmeoiidmnaaDoor.RowN Go.Proofs.YtjeenmeoiidmnaaDoor.RowA Go.Proofs.YtjeenmeoiidmnaaDoor.MapK Go.Proofs.YtjeenmeoiidmnaaDoor.MapT Go.Proofs.YtjeenmeoiidmnaaDoor.Obj Go.Proofs.YtjeenmeoiidmnaaDoor.PmtM Go.Proofs.YtjeenmeoiidmnaaDoor.PmtD

theorem minimum_c (d : ByteArray) (w : World) : Calls Tryd.prog 21 #[.string d] w fun e w' => e = .returned (.tuple #[.int .i64 ((least d).getD 0), .bool (least d).isSome]) ∧ w = w' := by
  by_cases q : d.size = 4
  · have E : Hid (least d = some 576) := Lib.hid (if_pos q)
    have g : ((d.size : Int) == 4) = true := by rw [beq_iff_eq]; omega
    go_enter Tryd.func21, Tryd.ntmps21
    go_wp2_with fail
    go_ret2
    exact ⟨by rw [E.out]; rfl, rfl⟩
  · have g : ((d.size : Int) == 4) = false := by rw [beq_eq_false_iff_ne]; omega
    by_cases q2 : d.size = 16
    · have E : Hid (least d = some 1280) := Lib.hid (by unfold least; rw [if_neg q, if_pos q2])
      have g2 : ((d.size : Int) == 16) = true := by rw [beq_iff_eq]; omega
      go_enter Tryd.func21, Tryd.ntmps21
      go_wp2_with fail
      go_ret2
      exact ⟨by rw [E.out]; rfl, rfl⟩
    · have E : Hid (least d = none) := Lib.hid (by unfold least; rw [if_neg q, if_neg q2])
      have g2 : ((d.size : Int) == 16) = false := by rw [beq_eq_false_iff_ne]; omega
      go_enter Tryd.func21, Tryd.ntmps21
      go_wp2_with fail
      go_ret2
      exact ⟨by rw [E.out]; rfl, rfl⟩
theorem efresh_c (m s now : Int) (w : World) (n1 : -3000000000 ≤ now) (n2 : now ≤ 3000000000) (s1 : -3000000000 ≤ s) (s2 : s ≤ 3000000000) :
    Calls Tryd.prog 34 #[.agg #[.int .i64 m, .int .i64 s], .int .i64 now] w fun e w' => e = .returned (.bool (freshB now (m, s))) ∧ Below w.heap.size w w' := by
  obtain ⟨z, hz⟩ : ∃ z, freshB now (m, s) = z := ⟨_, rfl⟩
  rw [hz]
  have g0 : decide (now < -9223372036854775208) = false := decide_eq_false (by omega)
  have f1 : IntKind.i64.wrap (now - 600) = now - 600 := IntWalk.i64_in _ (by omega)
  have g1 : decide (now - 600 < s) = z := by rw [← hz]; unfold freshB; simp only [decide_eq_decide]; omega
  have B0 := Lib.hid ((Below.refl w.heap.size w).alloc (Nat.le_refl _) (.cells #[.int .i64 m, .int .i64 s] 52))
  have c1 := (Blk.new w 52 #[.int .i64 m, .int .i64 s]).cell 1
  clear hz n1 n2 s1 s2
  go_enter Tryd.func34, Tryd.ntmps34
  go_wp2_with fail
  trace_state
  go_ret
  exact ⟨rfl, B0.out⟩
theorem zero_e (w : World) : (zeroValue 52).run Tryd.prog w = .ok (.agg #[.int .i64 0, .int .i64 0]) w := by kernel_rfl
set_option maxHeartbeats 2000000 in
theorem cfresh_c (F : Nat → Prop) (g : Nat) (es : List Ent) (d : ByteArray) (now : Int) (w : World) (h : PcAt F w g es) (n1 : -3000000000 ≤ now) (n2 : now ≤ 3000000000) :
    Calls Tryd.prog 22 #[.pointer (some ⟨g, 0, none⟩), .int .i64 now, .string d] w fun e w' => e = .returned (.tuple #[.int .i64 ((known now d es).getD 0), .bool (known now d es).isSome]) ∧ Below w.heap.size w w' := by
  obtain ⟨⟨gm, hb, hm, -, -⟩, hg⟩ := h
  have cg : w.cell? ⟨g, 0, none⟩ = some (.map (some gm)) := hb.cell 0
  have LK := run_lookup (P := Tryd.prog) (kt := 9) Tryd.underlying9 Tryd.underlying41 hm _ (zero_e w) d
  clear hb hm
  have Z := Blk.new w 52 #[.int .i64 0, .int .i64 0]
  cases hk : MapK.get d es with
  | none =>
    rw [hk] at LK
    have LK := Lib.hid LK
    have E : Hid (known now d es = none) := Lib.hid (by unfold known; rw [hk])
    have B0 := Lib.hid (Com.setRow_bel ((Below.refl w.heap.size w).alloc (Nat.le_refl _) (.cells #[.int .i64 0, .int .i64 0] 52)) (Nat.le_refl _) #[.int .i64 0, .int .i64 0])
    clear hk hg n1 n2
    go_enter Tryd.func22, Tryd.ntmps22
    go_wp2_with (first
      | (refine wpList_lookup rfl 41 (.tmp 14) (.tmp 15) true rfl (.map (some gm)) (.string d) _ rfl rfl LK.out ?_)
      | (refine wpList_store_row rfl 52 (.tmp 8) (.tmp 17) rfl w.heap.size #[.int .i64 0, .int .i64 0] rfl rfl 52 _ Z (by kernel_rfl) rfl (by simp [Value.oneCell']) ?_))
    go_ret2
    exact ⟨by rw [E.out]; rfl, B0.out⟩
  | some e =>
    obtain ⟨m, s⟩ := e
    have ab : -2000000000 ≤ s ∧ s ≤ 2000000000 := hg.at_ _ (get_mem hk)
    rw [hk] at LK
    have LK := Lib.hid LK
    have B0 := Com.setRow_bel ((Below.refl w.heap.size w).alloc (Nat.le_refl _) (.cells #[.int .i64 0, .int .i64 0] 52)) (Nat.le_refl _) #[.int .i64 m, .int .i64 s]
    have K0 : Blk ((w.alloc (.cells #[.int .i64 0, .int .i64 0] 52)).setRow w.heap.size #[.int .i64 m, .int .i64 s]) w.heap.size 52 #[.int .i64 m, .int .i64 s] := setRow_heap _ _ _ _ _ _ Z
    obtain ⟨w1, hw1⟩ : ∃ w1, w1 = (w.alloc (.cells #[.int .i64 0, .int .i64 0] 52)).setRow w.heap.size #[.int .i64 m, .int .i64 s] := ⟨_, rfl⟩
    have W1 := Lib.hid hw1.symm
    rw [← hw1] at B0 K0
    have B1 := Lib.hid B0
    have K1 := Lib.hid K0
    have FC := Lib.hid (efresh_c m s now w1 n1 n2 (by omega) (by omega))
    have RP : Hid ((loadVar 52 ⟨w.heap.size, 0, none⟩).run Tryd.prog w1 = .ok (.agg #[.int .i64 m, .int .i64 s]) w1) := Lib.hid (Part.run_part w1 w.heap.size 0 52 [.int .i64 m, .int .i64 s] _ Tryd.underlying52 rfl (by kernel_rfl) fun j v hj => by
      rw [Nat.zero_add, K0.cell, ← Array.getElem?_toList]
      exact hj)
    have E : Hid (known now d es = if freshB now (m, s) = true then some m else none) := Lib.hid (by unfold known; rw [hk])
    obtain ⟨z, hz⟩ : ∃ z, freshB now (m, s) = z := ⟨_, rfl⟩
    rw [hz] at FC E
    clear hk hg n1 n2 ab hw1 hz B0 K0
    go_enter Tryd.func22, Tryd.ntmps22
    go_wp2_with (first
      | (refine wpList_lookup rfl 41 (.tmp 14) (.tmp 15) true rfl (.map (some gm)) (.string d) _ rfl rfl LK.out ?_)
      | (refine wpList_store_row rfl 52 (.tmp 8) (.tmp 17) rfl w.heap.size #[.int .i64 m, .int .i64 s] rfl rfl 52 _ Z (by kernel_rfl) rfl (by simp [Value.oneCell']) ?_; rw [W1.out])
      | (refine Part.wpList_load_part rfl 52 (.tmp 8) rfl w.heap.size 0 [.int .i64 m, .int .i64 s] rfl RP.out ?_))
    refine FC.out.mono ?_
    rintro e w2 ⟨rfl, hb⟩
    have B2 := Lib.hid (B1.out.trans (hb.mono B1.out.size))
    have c0 := (K1.out.below hb K1.out.lt).cell 0
    cases z with
    | true =>
      go_wp2_with fail
      go_ret2
      exact ⟨by rw [E.out]; rfl, B2.out⟩
    | false =>
      go_wp2_with fail
      go_ret2
      exact ⟨by rw [E.out]; rfl, B2.out⟩
end Go.Proofs.YtjeenmeoiidmnaaDoor.Pmt4
