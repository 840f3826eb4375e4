/- The document's prefix, ahead. -/
import Derived.Test.YtnabjhdamofpgaaTabD
set_option linter.unusedVariables false
namespace Go.Proofs.Ytnabjhdamofpgaa.TabR1
open Go.RowKit Go.PlainAid Go.Proofs.Ytnabjhdamofpgaa.Sums Go.Proofs.Ytnabjhdamofpgaa.Mem Go.Proofs.Ytnabjhdamofpgaa.Blk Go.Proofs.Ytnabjhdamofpgaa.Grp Go.Proofs.Ytnabjhdamofpgaa.AdrD Go.Proofs.Ytnabjhdamofpgaa.AdrR Go.Proofs.Ytnabjhdamofpgaa.Steps Go.Proofs.Ytnabjhdamofpgaa.Com Go.Proofs.Ytnabjhdamofpgaa.RowN Go.Proofs.Ytnabjhdamofpgaa.RowA Go.Proofs.Ytnabjhdamofpgaa.ArgT Go.Proofs.Ytnabjhdamofpgaa.TabD

set_option maxRecDepth 100000 in
set_option maxHeartbeats 2000000 in
theorem prefix_ref (a : ByteArray) (n : Int) (ha : a.size ≤ 300) (w : World) :
    Calls Try.prog 28 #[.agg #[.string a, .int .i64 n]] w fun e w' => e = .returned (.tuple #[.agg #[.string (pfx a n), .int .i64 n], .bool (fitB a.size n)]) ∧ Below w.heap.size w w' := by
  obtain ⟨t, c, MM, k⟩ := ref_mask a n ha w
  have MC := Lib.hid MM
  have ET : Hid (t = pfx a n ∧ (c == 0) = fitB a.size n) := Lib.hid (by
    unfold pfx
    rcases k with ⟨k1, k2, k3⟩ | ⟨k1, k2, k3⟩
    · rw [k1, k3]; exact ⟨k2, rfl⟩
    · rw [k1, k3]; exact ⟨k2, rfl⟩)
  clear MM k
  have K0 := Blk.alloc (Blk.new w 31 #[.string a, .int .i64 n]) (.cells #[.string ⟨#[]⟩, .int .i64 0] 31)
  have J0 : Hid (Blk ((w.alloc (.cells #[.string a, .int .i64 n] 31)).alloc (.cells #[.string ⟨#[]⟩, .int .i64 0] 31)) (w.heap.size + 1) 31 #[.string ⟨#[]⟩, .int .i64 0]) := Lib.hid (by
    have := Blk.new (w.alloc (.cells #[.string a, .int .i64 n] 31)) 31 #[.string ⟨#[]⟩, .int .i64 0]
    simpa using this)
  have B0 := Lib.hid (((Below.refl w.heap.size w).alloc (Nat.le_refl _) (.cells #[.string a, .int .i64 n] 31)).alloc (by simp) (.cells #[.string ⟨#[]⟩, .int .i64 0] 31))
  have k0 := K0.cell 0
  have k1 := K0.cell 1
  clear K0
  go_enter Try.func28, Try.ntmps28
  go_wp2_with fail
  refine (MC.out _).mono ?_
  rintro e w1 ⟨rfl, hb⟩
  have q1 := keep_cell k1 hb
  have J1 := Lib.hid (J0.out.below hb J0.out.lt)
  have B1 := Lib.hid (B0.out.trans (hb.mono B0.out.size))
  clear k0 k1 hb
  go_wp2_with (refine wpList_store_row rfl 31 (.tmp 2) (.tmp 17) rfl (w.heap.size + 1) #[.string t, .int .i64 n] rfl rfl 31 _ J1.out (by kernel_rfl) rfl (one_pf _ _) ?_)
  exact bodyPost_ret (results_pair rfl _ _ (w.heap.size + 1) 31 #[.string t, .int .i64 n] (0, 0) _ _ rfl rfl (setRow_heap _ _ _ _ _ _ J1.out) Try.underlying31 rfl (by kernel_rfl)) rfl ⟨by rw [← ET.out.1, ← ET.out.2]; rfl, setRow_bel B1.out (by omega) _⟩
set_option maxRecDepth 100000 in
set_option maxHeartbeats 2000000 in
theorem ahead_ref (a b : ByteArray) (m n : Int) (ha : a.size ≤ 300) (hb : b.size ≤ 300) (w : World) :
    Calls Try.prog 46 #[.agg #[.string a, .int .i64 m], .agg #[.string b, .int .i64 n]] w fun e w' => e = .returned (.bool (aheadB a m b n)) ∧ Below w.heap.size w w' := by
  have CC := Lib.hid (fun W => ref_cmp a b ha hb W)
  have hr := ord_in a b
  obtain ⟨z, hz⟩ : ∃ z, ordS a b = z := ⟨_, rfl⟩
  have EQ : Hid (aheadB a m b n = (decide (z < 0) || (decide (z = 0) && decide (m < n)))) := Lib.hid (by unfold aheadB; rw [hz])
  rw [hz] at CC hr
  have K0 := Blk.alloc (Blk.new w 31 #[.string a, .int .i64 m]) (.cells #[.string b, .int .i64 n] 31)
  have K1 : Blk ((w.alloc (.cells #[.string a, .int .i64 m] 31)).alloc (.cells #[.string b, .int .i64 n] 31)) (w.heap.size + 1) 31 #[.string b, .int .i64 n] := by
    have := Blk.new (w.alloc (.cells #[.string a, .int .i64 m] 31)) 31 #[.string b, .int .i64 n]
    simpa using this
  have B0 := Lib.hid (((Below.refl w.heap.size w).alloc (Nat.le_refl _) (.cells #[.string a, .int .i64 m] 31)).alloc (by simp) (.cells #[.string b, .int .i64 n] 31))
  have k0 := K0.cell 0
  have k1 := K0.cell 1
  have q0 := K1.cell 0
  have q1 := K1.cell 1
  clear K0 K1 hz
  have h3 : z = -1 ∨ z = 0 ∨ z = 1 := by omega
  clear hr
  by_cases hmn : m < n
  all_goals
    rcases h3 with rfl | rfl | rfl
    all_goals
      go_enter Try.func46, Try.ntmps46
      go_wp2_with fail
      refine (CC.out _).mono ?_
      rintro e w1 ⟨rfl, rfl⟩
      go_wp2_with fail
      go_ret
      exact ⟨by rw [EQ.out]; first | rfl | simp [hmn], B0.out⟩
end Go.Proofs.Ytnabjhdamofpgaa.TabR1
