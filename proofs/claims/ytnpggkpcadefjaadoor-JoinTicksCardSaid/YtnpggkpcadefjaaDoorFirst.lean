/- Contracts: strings.Clone, firstOption. -/
import Derived.Test.YtnpggkpcadefjaaDoorShelf
import Derived.Test.YtnpggkpcadefjaaDoorBlk
import Derived.Test.YtnpggkpcadefjaaDoorDecode
set_option linter.unusedVariables false
namespace Go.Proofs.YtnpggkpcadefjaaDoor.First
open Go.RowKit Go.Proofs.YtnpggkpcadefjaaDoor.Sums Go.Proofs.YtnpggkpcadefjaaDoor.Mem Go.Proofs.YtnpggkpcadefjaaDoor.Blk Go.Proofs.YtnpggkpcadefjaaDoor.Decode

theorem clone_text (s : ByteArray) (w : World) (hs : s.size ≤ 1048576) : Calls Tryd.prog 44 #[.string s] w fun e w' => e = .returned (.string s) ∧ Below w.heap.size w w' := by
  have C := Lib.hid (Tryd.stringslite_Clone s w (by omega))
  go_enter Tryd.func44, Tryd.ntmps44
  go_wp2_with fail
  refine C.out.mono ?_
  rintro e w' ⟨rfl, hb⟩
  go_wp2_with fail
  go_ret
  exact ⟨rfl, hb⟩

theorem first_nop (s : ByteArray) (w : World) (h0 : 0 < s.size) (h1 : s[0] = 1) : Calls Tryd.prog 71 #[.string s] w fun e w' => e = .returned (.tuple #[.agg #[.int .i64 1, .string ⟨#[]⟩], .int .i64 1, .nilIface]) ∧ Below w.heap.size w w' := by
  have e1 : ((s[0]'h0).toNat : Int) = 1 := by rw [h1]; rfl
  go_enter Tryd.func71, Tryd.ntmps71
  go_wp2_with fail
  refine bodyPost_ret (v := .tuple #[.agg #[.int .i64 1, .string ⟨#[]⟩], .int .i64 1, .nilIface]) (by simp [results, Tryd.results71, go_sem]) rfl ?_
  exact ⟨rfl, (Below.refl _ _).alloc (Nat.le_refl _) _⟩

theorem results_three {fn : Func} {p q q2 : Tmp} {ty : TypeId} (h : fn.results = #[.cell p ty, .tmp q, .tmp q2]) (tmps : Array Value) (w : World) (g : Nat) (t : TypeId) (cs : Array Value) (fr : Nat × Nat) (d : TypeDesc) (v v2 : Value)
    (hp : tmps.getD p undef = .pointer (some ⟨g, 0, none⟩)) (hq : tmps.getD q undef = v) (hq2 : tmps.getD q2 undef = v2) (hg : w.heap[g]? = some (.cells cs t fr))
    (hu : Tryd.prog.underlying ty = some d) (hd : aggB d = true) (hi : (Tryd.prog.info? ty).map (·.size) = some cs.size) :
    (results fn tmps).run Tryd.prog w = .ok (.tuple #[.agg cs, v, v2]) w := by
  have hp' : tmps[p]?.getD undef = .pointer (some ⟨g, 0, none⟩) := by simpa using hp
  have hq' : tmps[q]?.getD undef = v := by simpa using hq
  have hq2' : tmps[q2]?.getD undef = v2 := by simpa using hq2
  have e := run_loadVar_row (P := Tryd.prog) w g t ty cs fr d hg hu (by cases d <;> simp_all [aggB]) hi
  simp [results, h, hp', hq', hq2', asAddr, e]

theorem oneExt (a0 : Int) (s : ByteArray) : (#[.int .i64 a0, .string s] : Array Value).all (·.oneCell') = true := by simp [Value.oneCell']

set_option maxHeartbeats 1000000 in
theorem first_ok (s : ByteArray) (k : Int) (n : Nat) (w : World) (hs : s.size ≤ 1048576) (h2 : 2 ≤ s.size) (hk : ((s[0]'(by omega)).toNat : Int) = k) (hk1 : (k == 1) = false) (hn : ((s[1]'(by omega)).toNat : Int) = (n : Int)) (n2 : 2 ≤ n) (nS : n ≤ s.size) :
    Calls Tryd.prog 71 #[.string s] w fun e w' => e = .returned (.tuple #[.agg #[.int .i64 k, .string (s.extract 2 n)], .int .i64 n, .nilIface]) ∧ Below w.heap.size w w' := by
  have k0 : 0 ≤ k := by omega
  have k1 : k ≤ 255 := by have := (s[0]'(by omega)).toNat_lt; omega
  have n1 : (n : Int) ≤ 255 := by have := (s[1]'(by omega)).toNat_lt; omega
  have hsz : (s.extract 2 n).size ≤ 1048576 := by rw [ByteArray.size_extract]; omega
  have C := Lib.hid (fun W => clone_text (s.extract 2 n) W hsz)
  have N0 := Lib.hid (Blk.new w 97 #[.int .i64 0, .string ⟨#[]⟩])
  go_enter Tryd.func71, Tryd.ntmps71
  go_wp2_with fail
  refine (C.out _).mono ?_
  rintro e w1 ⟨rfl, hb⟩
  have N1 := Lib.hid (N0.out.below hb (by simp))
  have B1 := Lib.hid (((Below.refl w.heap.size w).alloc (Nat.le_refl _) (.cells #[.int .i64 0, .string ⟨#[]⟩] 97)).trans (hb.mono (by simp)))
  clear hb
  go_wp2_with (first
    | (refine wpList_store_row rfl _ _ _ rfl w.heap.size #[.int .i64 k, .string (s.extract 2 n)] rfl rfl 97 _ N1.out (by kernel_rfl) rfl (oneExt _ _) ?_))
  exact bodyPost_ret (results_three rfl _ _ w.heap.size 97 _ (0, 0) _ _ _ rfl rfl rfl (setRow_heap _ _ _ _ _ _ N1.out) Tryd.underlying97 rfl (by kernel_rfl)) rfl ⟨rfl, below_setRow B1.out (Nat.le_refl _) _⟩

end Go.Proofs.YtnpggkpcadefjaaDoor.First
