/- The code's small functions. -/
import Derived.Test.YtnpggkpcadefjaaDoorM09
import Derived.Test.YtnpggkpcadefjaaDoorM10
import Derived.Test.YtnpggkpcadefjaaDoorCheck
import Derived.Test.YtnpggkpcadefjaaDoorBlk
import Derived.Test.YtnpggkpcadefjaaDoorM23
import Derived.Test.YtnpggkpcadefjaaDoorLoads
import Derived.Test.YtnpggkpcadefjaaDoorStore
import Derived.Test.YtnpggkpcadefjaaDoorPart
import Derived.Test.YtnpggkpcadefjaaDoorM02
import Derived.Test.YtnpggkpcadefjaaDoorM01
import Derived.Test.YtnpggkpcadefjaaDoorM14
import Derived.Lib.QuietBelow
import Derived.BigQuiet
set_option linter.unusedVariables false
set_option maxRecDepth 100000
namespace Go.Proofs.YtnpggkpcadefjaaDoor.Jc1
open Go.RowKit Go.Lib Go.Sort Go.Proofs.YtnpggkpcadefjaaDoor.Sums Go.Proofs.YtnpggkpcadefjaaDoor.Mem Go.Proofs.YtnpggkpcadefjaaDoor.Blk Go.Proofs.YtnpggkpcadefjaaDoor.Pkt Go.Proofs.YtnpggkpcadefjaaDoor.Check Go.Proofs.YtnpggkpcadefjaaDoor.JoiM Go.Proofs.YtnpggkpcadefjaaDoor.JoiC Go.Proofs.YtnpggkpcadefjaaDoor.MapL

theorem end_c (p : Pkt) (A : Option Addr) (n c : Nat) (w : World) (h0 : -1099511627776 ≤ p.off) (h1 : p.off ≤ 1099511627776) (hn : n ≤ 1099511627776) : Calls Tryd.prog 43 #[val p (.slice A n c)] w fun e w' => e = .returned (.int .i64 (p.off + (n : Int))) ∧ Below w.heap.size w w' := by
  have B0 := Lib.hid ((Below.refl w.heap.size w).alloc (Nat.le_refl _) (.cells #[.int .i64 p.tos, .int .i64 p.id, .int .i64 p.ttl, .int .i64 p.proto, .bool p.df, .bool p.mf, .int .i64 p.off, .string p.src, .string p.dst, .string p.opt, .slice A n c] 32))
  have e0 : IntKind.i64.wrap (p.off + (n : Int)) = p.off + (n : Int) := IntWalk.i64_in _ (by omega)
  unfold val
  go_enter Tryd.func43, Tryd.ntmps43
  go_wp2_with fail
  go_ret
  exact ⟨rfl, B0.out⟩
theorem toList_eq (a b : ByteArray) : (a.toList == b.toList) = decide (a = b) := EqN.toList_eq a b
theorem nums_str {l : List Int} (h : Bytes l) : nums (strOfNums l) = l := by
  simp only [strOfNums, nums, List.map_map]
  refine (List.map_congr_left fun z hz => ?_).trans (List.map_id l)
  have := h z hz
  simp only [Function.comp, id]
  rw [UInt8.toNat_ofNat_of_lt' (by simp [UInt8.size]; omega)]
  omega
theorem str_inj {a b : List Int} (ha : Bytes a) (hb : Bytes b) (h : strOfNums a = strOfNums b) : a = b := by rw [← nums_str ha, ← nums_str hb, h]
theorem str_eq {a b : List Int} (ha : Bytes a) (hb : Bytes b) : ((strOfNums a).toList == (strOfNums b).toList) = decide (a = b) := by
  rw [toList_eq, decide_eq_decide]
  exact ⟨fun h => str_inj ha hb h, fun h => by rw [h]⟩
theorem equal_c (A : Option Addr) (n c : Nat) (l : List Int) (B : Nat) (A' : Option Addr) (n' c' : Nat) (l' : List Int) (B' : Nat) (w : World) (h : Holds w B A n c l) (h' : Holds w B' A' n' c' l') : Calls Tryd.prog 73 #[.slice A n c, .slice A' n' c'] w fun e w' => e = .returned (.bool (decide (l = l'))) ∧ w = w' := by
  have E := Lib.hid (str_eq (a := l) (b := l') h.2.2.2.1 h'.2.2.2.1)
  have c1 := run_string_bytes h
  have c2 := run_string_bytes h'
  obtain ⟨u, hu⟩ : ∃ u, decide (l = l') = u := ⟨_, rfl⟩
  have e := E.out
  rw [hu] at e
  rw [hu]
  clear h h' E hu
  generalize strOfNums l = s1 at *
  generalize strOfNums l' = s2 at *
  go_enter Tryd.func73, Tryd.ntmps73
  go_wp2_with fail
  go_ret
  exact ⟨rfl, rfl⟩
theorem name_c (p : Pkt) (Dv : Value) (w : World) : Calls Tryd.prog 29 #[val p Dv] w fun e w' => e = .returned (nk (nmOf p)) ∧ Below w.heap.size w w' := by
  have B0 := Lib.hid ((Below.refl w.heap.size w).alloc (Nat.le_refl _) (.cells #[.int .i64 p.tos, .int .i64 p.id, .int .i64 p.ttl, .int .i64 p.proto, .bool p.df, .bool p.mf, .int .i64 p.off, .string p.src, .string p.dst, .string p.opt, Dv] 32))
  have B1 := Lib.hid (B0.out.alloc B0.out.size (.cells #[.string ⟨#[]⟩, .string ⟨#[]⟩, .int .i64 0, .int .i64 0] 60))
  have J : Hid (Blk ((w.alloc (.cells #[.int .i64 p.tos, .int .i64 p.id, .int .i64 p.ttl, .int .i64 p.proto, .bool p.df, .bool p.mf, .int .i64 p.off, .string p.src, .string p.dst, .string p.opt, Dv] 32)).alloc (.cells #[.string ⟨#[]⟩, .string ⟨#[]⟩, .int .i64 0, .int .i64 0] 60)) (w.heap.size + 1) 60 #[.string ⟨#[]⟩, .string ⟨#[]⟩, .int .i64 0, .int .i64 0]) := Lib.hid (by
    have := Blk.new (w.alloc (.cells #[.int .i64 p.tos, .int .i64 p.id, .int .i64 p.ttl, .int .i64 p.proto, .bool p.df, .bool p.mf, .int .i64 p.off, .string p.src, .string p.dst, .string p.opt, Dv] 32)) 60 #[.string ⟨#[]⟩, .string ⟨#[]⟩, .int .i64 0, .int .i64 0]
    simpa using this)
  have one : Hid ((#[.string p.src, .string p.dst, .int .i64 p.proto, .int .i64 p.id] : Array Value).all (·.oneCell') = true) := Lib.hid (by simp [Value.oneCell'])
  unfold val nk nmOf
  go_enter Tryd.func29, Tryd.ntmps29
  go_wp2_with (refine wpList_store_row rfl 60 (.tmp 2) (.tmp 11) rfl (w.heap.size + 1) #[.string p.src, .string p.dst, .int .i64 p.proto, .int .i64 p.id] rfl rfl 60 _ J.out (by kernel_rfl) rfl one.out ?_)
  exact bodyPost_ret (results_cell_row rfl _ _ (w.heap.size + 1) 60 #[.string p.src, .string p.dst, .int .i64 p.proto, .int .i64 p.id] (0, 0) _ rfl (setRow_heap _ _ _ _ _ _ J.out) Tryd.underlying60 rfl (by kernel_rfl)) rfl ⟨rfl, Com.setRow_bel B1.out (by omega) _⟩
def overB (a b : Frag) : Bool := decide (a.1.off < endF b) && decide (b.1.off < endF a)
def befB (a b : Frag) : Bool := !a.1.mf && decide (endF a < endF b)
theorem clash_is (p q : Frag) : (overB p q || befB p q || befB q p) = badB q p := by
  unfold overB befB badB
  by_cases c : q.1.off < endF p ∧ p.1.off < endF q
  · rw [if_pos c, decide_eq_true c.1, decide_eq_true c.2]; rfl
  · rw [if_neg c]
    have c1 : (decide (p.1.off < endF q) && decide (q.1.off < endF p)) = false := by
      cases z : (decide (p.1.off < endF q) && decide (q.1.off < endF p)) with
      | false => rfl
      | true =>
        simp only [Bool.and_eq_true, decide_eq_true_eq] at z
        exact absurd ⟨z.2, z.1⟩ c
    rw [c1, Bool.false_or]
    cases m : p.1.mf <;> cases k : q.1.mf <;> simp
    · rw [Bool.eq_iff_iff]
      simp only [Bool.or_eq_true, decide_eq_true_eq, Bool.not_eq_true', decide_eq_false_iff_not]
      omega
set_option maxHeartbeats 2000000 in
theorem over_no (p q : Pkt) (A A' : Option Addr) (n c n' c' : Nat) (w : World) (a0 : -1099511627776 ≤ p.off) (a1 : p.off ≤ 1099511627776) (an : n ≤ 1099511627776) (b0 : -1099511627776 ≤ q.off) (b1 : q.off ≤ 1099511627776) (bn : n' ≤ 1099511627776) (h1 : ¬ p.off < q.off + (n' : Int)) :
    Calls Tryd.prog 74 #[.agg #[.int .i64 p.tos, .int .i64 p.id, .int .i64 p.ttl, .int .i64 p.proto, .bool p.df, .bool p.mf, .int .i64 p.off, .string p.src, .string p.dst, .string p.opt, .slice A n c], .agg #[.int .i64 q.tos, .int .i64 q.id, .int .i64 q.ttl, .int .i64 q.proto, .bool q.df, .bool q.mf, .int .i64 q.off, .string q.src, .string q.dst, .string q.opt, .slice A' n' c']] w fun e w' => e = .returned (.bool false) ∧ Below w.heap.size w w' := by
  have B0 := Lib.hid (((Below.refl w.heap.size w).alloc (Nat.le_refl _) (.cells #[.int .i64 p.tos, .int .i64 p.id, .int .i64 p.ttl, .int .i64 p.proto, .bool p.df, .bool p.mf, .int .i64 p.off, .string p.src, .string p.dst, .string p.opt, .slice A n c] 32)).alloc (by simp) (.cells #[.int .i64 q.tos, .int .i64 q.id, .int .i64 q.ttl, .int .i64 q.proto, .bool q.df, .bool q.mf, .int .i64 q.off, .string q.src, .string q.dst, .string q.opt, .slice A' n' c'] 32))
  have K1 : Hid (Blk ((w.alloc (.cells #[.int .i64 p.tos, .int .i64 p.id, .int .i64 p.ttl, .int .i64 p.proto, .bool p.df, .bool p.mf, .int .i64 p.off, .string p.src, .string p.dst, .string p.opt, .slice A n c] 32)).alloc (.cells #[.int .i64 q.tos, .int .i64 q.id, .int .i64 q.ttl, .int .i64 q.proto, .bool q.df, .bool q.mf, .int .i64 q.off, .string q.src, .string q.dst, .string q.opt, .slice A' n' c'] 32)) w.heap.size 32 #[.int .i64 p.tos, .int .i64 p.id, .int .i64 p.ttl, .int .i64 p.proto, .bool p.df, .bool p.mf, .int .i64 p.off, .string p.src, .string p.dst, .string p.opt, .slice A n c]) := Lib.hid (Blk.alloc (Blk.new w 32 #[.int .i64 p.tos, .int .i64 p.id, .int .i64 p.ttl, .int .i64 p.proto, .bool p.df, .bool p.mf, .int .i64 p.off, .string p.src, .string p.dst, .string p.opt, .slice A n c]) _)
  have K2 : Hid (Blk ((w.alloc (.cells #[.int .i64 p.tos, .int .i64 p.id, .int .i64 p.ttl, .int .i64 p.proto, .bool p.df, .bool p.mf, .int .i64 p.off, .string p.src, .string p.dst, .string p.opt, .slice A n c] 32)).alloc (.cells #[.int .i64 q.tos, .int .i64 q.id, .int .i64 q.ttl, .int .i64 q.proto, .bool q.df, .bool q.mf, .int .i64 q.off, .string q.src, .string q.dst, .string q.opt, .slice A' n' c'] 32)) (w.heap.size + 1) 32 #[.int .i64 q.tos, .int .i64 q.id, .int .i64 q.ttl, .int .i64 q.proto, .bool q.df, .bool q.mf, .int .i64 q.off, .string q.src, .string q.dst, .string q.opt, .slice A' n' c']) := Lib.hid (by
    have := Blk.new (w.alloc (.cells #[.int .i64 p.tos, .int .i64 p.id, .int .i64 p.ttl, .int .i64 p.proto, .bool p.df, .bool p.mf, .int .i64 p.off, .string p.src, .string p.dst, .string p.opt, .slice A n c] 32)) 32 #[.int .i64 q.tos, .int .i64 q.id, .int .i64 q.ttl, .int .i64 q.proto, .bool q.df, .bool q.mf, .int .i64 q.off, .string q.src, .string q.dst, .string q.opt, .slice A' n' c']
    rw [show (w.alloc (.cells #[.int .i64 p.tos, .int .i64 p.id, .int .i64 p.ttl, .int .i64 p.proto, .bool p.df, .bool p.mf, .int .i64 p.off, .string p.src, .string p.dst, .string p.opt, .slice A n c] 32)).heap.size = w.heap.size + 1 by simp] at this
    exact this)
  have EA := fun d os => Calls.regrown_of (end_c p A n c (grow (redrawn ((w.alloc (.cells #[.int .i64 p.tos, .int .i64 p.id, .int .i64 p.ttl, .int .i64 p.proto, .bool p.df, .bool p.mf, .int .i64 p.off, .string p.src, .string p.dst, .string p.opt, .slice A n c] 32)).alloc (.cells #[.int .i64 q.tos, .int .i64 q.id, .int .i64 q.ttl, .int .i64 q.proto, .bool q.df, .bool q.mf, .int .i64 q.off, .string q.src, .string q.dst, .string q.opt, .slice A' n' c'] 32)) d) os) a0 a1 an)
  have EB := fun d os => Calls.regrown_of (end_c q A' n' c' (grow (redrawn ((w.alloc (.cells #[.int .i64 p.tos, .int .i64 p.id, .int .i64 p.ttl, .int .i64 p.proto, .bool p.df, .bool p.mf, .int .i64 p.off, .string p.src, .string p.dst, .string p.opt, .slice A n c] 32)).alloc (.cells #[.int .i64 q.tos, .int .i64 q.id, .int .i64 q.ttl, .int .i64 q.proto, .bool q.df, .bool q.mf, .int .i64 q.off, .string q.src, .string q.dst, .string q.opt, .slice A' n' c'] 32)) d) os) b0 b1 bn)
  have g1 : decide (p.off < q.off + (n' : Int)) = false := decide_eq_false h1
  clear h1
  unfold val at EA EB
  skip
  clear a0 a1 an b0 b1 bn
  go_enter Tryd.func74, Tryd.ntmps74
  go_wp2_with fail
  generalize ((w.alloc (.cells #[.int .i64 p.tos, .int .i64 p.id, .int .i64 p.ttl, .int .i64 p.proto, .bool p.df, .bool p.mf, .int .i64 p.off, .string p.src, .string p.dst, .string p.opt, .slice A n c] 32)).alloc (.cells #[.int .i64 q.tos, .int .i64 q.id, .int .i64 q.ttl, .int .i64 q.proto, .bool q.df, .bool q.mf, .int .i64 q.off, .string q.src, .string q.dst, .string q.opt, .slice A' n' c'] 32)) = w1 at *
  have p0 := fun d os => cell_regrown (K1.out.cell 0) d os
  have q0 := fun d os => cell_regrown (K2.out.cell 0) d os
  have p1 := fun d os => cell_regrown (K1.out.cell 1) d os
  have q1 := fun d os => cell_regrown (K2.out.cell 1) d os
  have p2 := fun d os => cell_regrown (K1.out.cell 2) d os
  have q2 := fun d os => cell_regrown (K2.out.cell 2) d os
  have p3 := fun d os => cell_regrown (K1.out.cell 3) d os
  have q3 := fun d os => cell_regrown (K2.out.cell 3) d os
  have p4 := fun d os => cell_regrown (K1.out.cell 4) d os
  have q4 := fun d os => cell_regrown (K2.out.cell 4) d os
  have p5 := fun d os => cell_regrown (K1.out.cell 5) d os
  have q5 := fun d os => cell_regrown (K2.out.cell 5) d os
  have p6 := fun d os => cell_regrown (K1.out.cell 6) d os
  have q6 := fun d os => cell_regrown (K2.out.cell 6) d os
  have p7 := fun d os => cell_regrown (K1.out.cell 7) d os
  have q7 := fun d os => cell_regrown (K2.out.cell 7) d os
  have p8 := fun d os => cell_regrown (K1.out.cell 8) d os
  have q8 := fun d os => cell_regrown (K2.out.cell 8) d os
  have p9 := fun d os => cell_regrown (K1.out.cell 9) d os
  have q9 := fun d os => cell_regrown (K2.out.cell 9) d os
  have p10 := fun d os => cell_regrown (K1.out.cell 10) d os
  have q10 := fun d os => cell_regrown (K2.out.cell 10) d os
  refine wp_region_quiet_below (by kernel_rfl) (by kernel_rfl) ?_
  repeat (quiet_step (first | (with_reducible exact EA _ _) | (with_reducible exact EB _ _)))
  refine wpQuiet_nil ?_
  intro _ hw'
  obtain ⟨⟨dq, osq⟩, hw''⟩ := hw'
  subst hw''
  clear EA EB p0 q0 p1 q1 p2 q2 p3 q3 p4 q4 p5 q5 p6 q6 p7 q7 p8 q8 p9 q9 p10 q10
  go_wp2_with fail
  go_ret
  exact ⟨rfl, B0.out.trans ((below_regrown w1 dq osq).mono B0.out.size)⟩
set_option maxHeartbeats 2000000 in
theorem over_yes (p q : Pkt) (A A' : Option Addr) (n c n' c' : Nat) (w : World) (a0 : -1099511627776 ≤ p.off) (a1 : p.off ≤ 1099511627776) (an : n ≤ 1099511627776) (b0 : -1099511627776 ≤ q.off) (b1 : q.off ≤ 1099511627776) (bn : n' ≤ 1099511627776) (u : Bool) (h1 : p.off < q.off + (n' : Int)) (h2 : decide (q.off < p.off + (n : Int)) = u) :
    Calls Tryd.prog 74 #[.agg #[.int .i64 p.tos, .int .i64 p.id, .int .i64 p.ttl, .int .i64 p.proto, .bool p.df, .bool p.mf, .int .i64 p.off, .string p.src, .string p.dst, .string p.opt, .slice A n c], .agg #[.int .i64 q.tos, .int .i64 q.id, .int .i64 q.ttl, .int .i64 q.proto, .bool q.df, .bool q.mf, .int .i64 q.off, .string q.src, .string q.dst, .string q.opt, .slice A' n' c']] w fun e w' => e = .returned (.bool u) ∧ Below w.heap.size w w' := by
  have B0 := Lib.hid (((Below.refl w.heap.size w).alloc (Nat.le_refl _) (.cells #[.int .i64 p.tos, .int .i64 p.id, .int .i64 p.ttl, .int .i64 p.proto, .bool p.df, .bool p.mf, .int .i64 p.off, .string p.src, .string p.dst, .string p.opt, .slice A n c] 32)).alloc (by simp) (.cells #[.int .i64 q.tos, .int .i64 q.id, .int .i64 q.ttl, .int .i64 q.proto, .bool q.df, .bool q.mf, .int .i64 q.off, .string q.src, .string q.dst, .string q.opt, .slice A' n' c'] 32))
  have K1 : Hid (Blk ((w.alloc (.cells #[.int .i64 p.tos, .int .i64 p.id, .int .i64 p.ttl, .int .i64 p.proto, .bool p.df, .bool p.mf, .int .i64 p.off, .string p.src, .string p.dst, .string p.opt, .slice A n c] 32)).alloc (.cells #[.int .i64 q.tos, .int .i64 q.id, .int .i64 q.ttl, .int .i64 q.proto, .bool q.df, .bool q.mf, .int .i64 q.off, .string q.src, .string q.dst, .string q.opt, .slice A' n' c'] 32)) w.heap.size 32 #[.int .i64 p.tos, .int .i64 p.id, .int .i64 p.ttl, .int .i64 p.proto, .bool p.df, .bool p.mf, .int .i64 p.off, .string p.src, .string p.dst, .string p.opt, .slice A n c]) := Lib.hid (Blk.alloc (Blk.new w 32 #[.int .i64 p.tos, .int .i64 p.id, .int .i64 p.ttl, .int .i64 p.proto, .bool p.df, .bool p.mf, .int .i64 p.off, .string p.src, .string p.dst, .string p.opt, .slice A n c]) _)
  have K2 : Hid (Blk ((w.alloc (.cells #[.int .i64 p.tos, .int .i64 p.id, .int .i64 p.ttl, .int .i64 p.proto, .bool p.df, .bool p.mf, .int .i64 p.off, .string p.src, .string p.dst, .string p.opt, .slice A n c] 32)).alloc (.cells #[.int .i64 q.tos, .int .i64 q.id, .int .i64 q.ttl, .int .i64 q.proto, .bool q.df, .bool q.mf, .int .i64 q.off, .string q.src, .string q.dst, .string q.opt, .slice A' n' c'] 32)) (w.heap.size + 1) 32 #[.int .i64 q.tos, .int .i64 q.id, .int .i64 q.ttl, .int .i64 q.proto, .bool q.df, .bool q.mf, .int .i64 q.off, .string q.src, .string q.dst, .string q.opt, .slice A' n' c']) := Lib.hid (by
    have := Blk.new (w.alloc (.cells #[.int .i64 p.tos, .int .i64 p.id, .int .i64 p.ttl, .int .i64 p.proto, .bool p.df, .bool p.mf, .int .i64 p.off, .string p.src, .string p.dst, .string p.opt, .slice A n c] 32)) 32 #[.int .i64 q.tos, .int .i64 q.id, .int .i64 q.ttl, .int .i64 q.proto, .bool q.df, .bool q.mf, .int .i64 q.off, .string q.src, .string q.dst, .string q.opt, .slice A' n' c']
    rw [show (w.alloc (.cells #[.int .i64 p.tos, .int .i64 p.id, .int .i64 p.ttl, .int .i64 p.proto, .bool p.df, .bool p.mf, .int .i64 p.off, .string p.src, .string p.dst, .string p.opt, .slice A n c] 32)).heap.size = w.heap.size + 1 by simp] at this
    exact this)
  have EA := fun d os => Calls.regrown_of (end_c p A n c (grow (redrawn ((w.alloc (.cells #[.int .i64 p.tos, .int .i64 p.id, .int .i64 p.ttl, .int .i64 p.proto, .bool p.df, .bool p.mf, .int .i64 p.off, .string p.src, .string p.dst, .string p.opt, .slice A n c] 32)).alloc (.cells #[.int .i64 q.tos, .int .i64 q.id, .int .i64 q.ttl, .int .i64 q.proto, .bool q.df, .bool q.mf, .int .i64 q.off, .string q.src, .string q.dst, .string q.opt, .slice A' n' c'] 32)) d) os) a0 a1 an)
  have EB := fun d os => Calls.regrown_of (end_c q A' n' c' (grow (redrawn ((w.alloc (.cells #[.int .i64 p.tos, .int .i64 p.id, .int .i64 p.ttl, .int .i64 p.proto, .bool p.df, .bool p.mf, .int .i64 p.off, .string p.src, .string p.dst, .string p.opt, .slice A n c] 32)).alloc (.cells #[.int .i64 q.tos, .int .i64 q.id, .int .i64 q.ttl, .int .i64 q.proto, .bool q.df, .bool q.mf, .int .i64 q.off, .string q.src, .string q.dst, .string q.opt, .slice A' n' c'] 32)) d) os) b0 b1 bn)
  have g1 : decide (p.off < q.off + (n' : Int)) = true := decide_eq_true h1
  clear h1
  unfold val at EA EB
  skip
  clear a0 a1 an b0 b1 bn
  go_enter Tryd.func74, Tryd.ntmps74
  go_wp2_with fail
  generalize ((w.alloc (.cells #[.int .i64 p.tos, .int .i64 p.id, .int .i64 p.ttl, .int .i64 p.proto, .bool p.df, .bool p.mf, .int .i64 p.off, .string p.src, .string p.dst, .string p.opt, .slice A n c] 32)).alloc (.cells #[.int .i64 q.tos, .int .i64 q.id, .int .i64 q.ttl, .int .i64 q.proto, .bool q.df, .bool q.mf, .int .i64 q.off, .string q.src, .string q.dst, .string q.opt, .slice A' n' c'] 32)) = w1 at *
  have p0 := fun d os => cell_regrown (K1.out.cell 0) d os
  have q0 := fun d os => cell_regrown (K2.out.cell 0) d os
  have p1 := fun d os => cell_regrown (K1.out.cell 1) d os
  have q1 := fun d os => cell_regrown (K2.out.cell 1) d os
  have p2 := fun d os => cell_regrown (K1.out.cell 2) d os
  have q2 := fun d os => cell_regrown (K2.out.cell 2) d os
  have p3 := fun d os => cell_regrown (K1.out.cell 3) d os
  have q3 := fun d os => cell_regrown (K2.out.cell 3) d os
  have p4 := fun d os => cell_regrown (K1.out.cell 4) d os
  have q4 := fun d os => cell_regrown (K2.out.cell 4) d os
  have p5 := fun d os => cell_regrown (K1.out.cell 5) d os
  have q5 := fun d os => cell_regrown (K2.out.cell 5) d os
  have p6 := fun d os => cell_regrown (K1.out.cell 6) d os
  have q6 := fun d os => cell_regrown (K2.out.cell 6) d os
  have p7 := fun d os => cell_regrown (K1.out.cell 7) d os
  have q7 := fun d os => cell_regrown (K2.out.cell 7) d os
  have p8 := fun d os => cell_regrown (K1.out.cell 8) d os
  have q8 := fun d os => cell_regrown (K2.out.cell 8) d os
  have p9 := fun d os => cell_regrown (K1.out.cell 9) d os
  have q9 := fun d os => cell_regrown (K2.out.cell 9) d os
  have p10 := fun d os => cell_regrown (K1.out.cell 10) d os
  have q10 := fun d os => cell_regrown (K2.out.cell 10) d os
  refine wp_region_quiet_below (by kernel_rfl) (by kernel_rfl) ?_
  repeat (quiet_step (first | (with_reducible exact EA _ _) | (with_reducible exact EB _ _)))
  refine wpQuiet_nil ?_
  intro _ hw'
  obtain ⟨⟨dq, osq⟩, hw''⟩ := hw'
  subst hw''
  clear EA EB p0 q0 p1 q1 p2 q2 p3 q3 p4 q4 p5 q5 p6 q6 p7 q7 p8 q8 p9 q9 p10 q10
  go_wp2_with fail
  go_ret
  exact ⟨rfl, B0.out.trans ((below_regrown w1 dq osq).mono B0.out.size)⟩
set_option maxHeartbeats 2000000 in
theorem bef_no (p q : Pkt) (A A' : Option Addr) (n c n' c' : Nat) (w : World) (a0 : -1099511627776 ≤ p.off) (a1 : p.off ≤ 1099511627776) (an : n ≤ 1099511627776) (b0 : -1099511627776 ≤ q.off) (b1 : q.off ≤ 1099511627776) (bn : n' ≤ 1099511627776) (hm : p.mf = true) :
    Calls Tryd.prog 75 #[.agg #[.int .i64 p.tos, .int .i64 p.id, .int .i64 p.ttl, .int .i64 p.proto, .bool p.df, .bool true, .int .i64 p.off, .string p.src, .string p.dst, .string p.opt, .slice A n c], .agg #[.int .i64 q.tos, .int .i64 q.id, .int .i64 q.ttl, .int .i64 q.proto, .bool q.df, .bool q.mf, .int .i64 q.off, .string q.src, .string q.dst, .string q.opt, .slice A' n' c']] w fun e w' => e = .returned (.bool false) ∧ Below w.heap.size w w' := by
  have B0 := Lib.hid (((Below.refl w.heap.size w).alloc (Nat.le_refl _) (.cells #[.int .i64 p.tos, .int .i64 p.id, .int .i64 p.ttl, .int .i64 p.proto, .bool p.df, .bool true, .int .i64 p.off, .string p.src, .string p.dst, .string p.opt, .slice A n c] 32)).alloc (by simp) (.cells #[.int .i64 q.tos, .int .i64 q.id, .int .i64 q.ttl, .int .i64 q.proto, .bool q.df, .bool q.mf, .int .i64 q.off, .string q.src, .string q.dst, .string q.opt, .slice A' n' c'] 32))
  have K1 : Hid (Blk ((w.alloc (.cells #[.int .i64 p.tos, .int .i64 p.id, .int .i64 p.ttl, .int .i64 p.proto, .bool p.df, .bool true, .int .i64 p.off, .string p.src, .string p.dst, .string p.opt, .slice A n c] 32)).alloc (.cells #[.int .i64 q.tos, .int .i64 q.id, .int .i64 q.ttl, .int .i64 q.proto, .bool q.df, .bool q.mf, .int .i64 q.off, .string q.src, .string q.dst, .string q.opt, .slice A' n' c'] 32)) w.heap.size 32 #[.int .i64 p.tos, .int .i64 p.id, .int .i64 p.ttl, .int .i64 p.proto, .bool p.df, .bool true, .int .i64 p.off, .string p.src, .string p.dst, .string p.opt, .slice A n c]) := Lib.hid (Blk.alloc (Blk.new w 32 #[.int .i64 p.tos, .int .i64 p.id, .int .i64 p.ttl, .int .i64 p.proto, .bool p.df, .bool true, .int .i64 p.off, .string p.src, .string p.dst, .string p.opt, .slice A n c]) _)
  have K2 : Hid (Blk ((w.alloc (.cells #[.int .i64 p.tos, .int .i64 p.id, .int .i64 p.ttl, .int .i64 p.proto, .bool p.df, .bool true, .int .i64 p.off, .string p.src, .string p.dst, .string p.opt, .slice A n c] 32)).alloc (.cells #[.int .i64 q.tos, .int .i64 q.id, .int .i64 q.ttl, .int .i64 q.proto, .bool q.df, .bool q.mf, .int .i64 q.off, .string q.src, .string q.dst, .string q.opt, .slice A' n' c'] 32)) (w.heap.size + 1) 32 #[.int .i64 q.tos, .int .i64 q.id, .int .i64 q.ttl, .int .i64 q.proto, .bool q.df, .bool q.mf, .int .i64 q.off, .string q.src, .string q.dst, .string q.opt, .slice A' n' c']) := Lib.hid (by
    have := Blk.new (w.alloc (.cells #[.int .i64 p.tos, .int .i64 p.id, .int .i64 p.ttl, .int .i64 p.proto, .bool p.df, .bool true, .int .i64 p.off, .string p.src, .string p.dst, .string p.opt, .slice A n c] 32)) 32 #[.int .i64 q.tos, .int .i64 q.id, .int .i64 q.ttl, .int .i64 q.proto, .bool q.df, .bool q.mf, .int .i64 q.off, .string q.src, .string q.dst, .string q.opt, .slice A' n' c']
    rw [show (w.alloc (.cells #[.int .i64 p.tos, .int .i64 p.id, .int .i64 p.ttl, .int .i64 p.proto, .bool p.df, .bool true, .int .i64 p.off, .string p.src, .string p.dst, .string p.opt, .slice A n c] 32)).heap.size = w.heap.size + 1 by simp] at this
    exact this)
  have EA := fun d os => Calls.regrown_of (end_c p A n c (grow (redrawn ((w.alloc (.cells #[.int .i64 p.tos, .int .i64 p.id, .int .i64 p.ttl, .int .i64 p.proto, .bool p.df, .bool true, .int .i64 p.off, .string p.src, .string p.dst, .string p.opt, .slice A n c] 32)).alloc (.cells #[.int .i64 q.tos, .int .i64 q.id, .int .i64 q.ttl, .int .i64 q.proto, .bool q.df, .bool q.mf, .int .i64 q.off, .string q.src, .string q.dst, .string q.opt, .slice A' n' c'] 32)) d) os) a0 a1 an)
  have EB := fun d os => Calls.regrown_of (end_c q A' n' c' (grow (redrawn ((w.alloc (.cells #[.int .i64 p.tos, .int .i64 p.id, .int .i64 p.ttl, .int .i64 p.proto, .bool p.df, .bool true, .int .i64 p.off, .string p.src, .string p.dst, .string p.opt, .slice A n c] 32)).alloc (.cells #[.int .i64 q.tos, .int .i64 q.id, .int .i64 q.ttl, .int .i64 q.proto, .bool q.df, .bool q.mf, .int .i64 q.off, .string q.src, .string q.dst, .string q.opt, .slice A' n' c'] 32)) d) os) b0 b1 bn)
  unfold val at EA EB
  rw [hm] at EA
  clear a0 a1 an b0 b1 bn
  go_enter Tryd.func75, Tryd.ntmps75
  go_wp2_with fail
  generalize ((w.alloc (.cells #[.int .i64 p.tos, .int .i64 p.id, .int .i64 p.ttl, .int .i64 p.proto, .bool p.df, .bool true, .int .i64 p.off, .string p.src, .string p.dst, .string p.opt, .slice A n c] 32)).alloc (.cells #[.int .i64 q.tos, .int .i64 q.id, .int .i64 q.ttl, .int .i64 q.proto, .bool q.df, .bool q.mf, .int .i64 q.off, .string q.src, .string q.dst, .string q.opt, .slice A' n' c'] 32)) = w1 at *
  have p0 := fun d os => cell_regrown (K1.out.cell 0) d os
  have q0 := fun d os => cell_regrown (K2.out.cell 0) d os
  have p1 := fun d os => cell_regrown (K1.out.cell 1) d os
  have q1 := fun d os => cell_regrown (K2.out.cell 1) d os
  have p2 := fun d os => cell_regrown (K1.out.cell 2) d os
  have q2 := fun d os => cell_regrown (K2.out.cell 2) d os
  have p3 := fun d os => cell_regrown (K1.out.cell 3) d os
  have q3 := fun d os => cell_regrown (K2.out.cell 3) d os
  have p4 := fun d os => cell_regrown (K1.out.cell 4) d os
  have q4 := fun d os => cell_regrown (K2.out.cell 4) d os
  have p5 := fun d os => cell_regrown (K1.out.cell 5) d os
  have q5 := fun d os => cell_regrown (K2.out.cell 5) d os
  have p6 := fun d os => cell_regrown (K1.out.cell 6) d os
  have q6 := fun d os => cell_regrown (K2.out.cell 6) d os
  have p7 := fun d os => cell_regrown (K1.out.cell 7) d os
  have q7 := fun d os => cell_regrown (K2.out.cell 7) d os
  have p8 := fun d os => cell_regrown (K1.out.cell 8) d os
  have q8 := fun d os => cell_regrown (K2.out.cell 8) d os
  have p9 := fun d os => cell_regrown (K1.out.cell 9) d os
  have q9 := fun d os => cell_regrown (K2.out.cell 9) d os
  have p10 := fun d os => cell_regrown (K1.out.cell 10) d os
  have q10 := fun d os => cell_regrown (K2.out.cell 10) d os
  refine wp_region_quiet_below (by kernel_rfl) (by kernel_rfl) ?_
  repeat (quiet_step (first | (with_reducible exact EA _ _) | (with_reducible exact EB _ _)))
  refine wpQuiet_nil ?_
  intro _ hw'
  obtain ⟨⟨dq, osq⟩, hw''⟩ := hw'
  subst hw''
  clear EA EB p0 q0 p1 q1 p2 q2 p3 q3 p4 q4 p5 q5 p6 q6 p7 q7 p8 q8 p9 q9 p10 q10
  go_wp2_with fail
  go_ret
  exact ⟨rfl, B0.out.trans ((below_regrown w1 dq osq).mono B0.out.size)⟩
set_option maxHeartbeats 2000000 in
theorem bef_yes (p q : Pkt) (A A' : Option Addr) (n c n' c' : Nat) (w : World) (a0 : -1099511627776 ≤ p.off) (a1 : p.off ≤ 1099511627776) (an : n ≤ 1099511627776) (b0 : -1099511627776 ≤ q.off) (b1 : q.off ≤ 1099511627776) (bn : n' ≤ 1099511627776) (hm : p.mf = false) (u : Bool) (h2 : decide (p.off + (n : Int) < q.off + (n' : Int)) = u) :
    Calls Tryd.prog 75 #[.agg #[.int .i64 p.tos, .int .i64 p.id, .int .i64 p.ttl, .int .i64 p.proto, .bool p.df, .bool false, .int .i64 p.off, .string p.src, .string p.dst, .string p.opt, .slice A n c], .agg #[.int .i64 q.tos, .int .i64 q.id, .int .i64 q.ttl, .int .i64 q.proto, .bool q.df, .bool q.mf, .int .i64 q.off, .string q.src, .string q.dst, .string q.opt, .slice A' n' c']] w fun e w' => e = .returned (.bool u) ∧ Below w.heap.size w w' := by
  have B0 := Lib.hid (((Below.refl w.heap.size w).alloc (Nat.le_refl _) (.cells #[.int .i64 p.tos, .int .i64 p.id, .int .i64 p.ttl, .int .i64 p.proto, .bool p.df, .bool false, .int .i64 p.off, .string p.src, .string p.dst, .string p.opt, .slice A n c] 32)).alloc (by simp) (.cells #[.int .i64 q.tos, .int .i64 q.id, .int .i64 q.ttl, .int .i64 q.proto, .bool q.df, .bool q.mf, .int .i64 q.off, .string q.src, .string q.dst, .string q.opt, .slice A' n' c'] 32))
  have K1 : Hid (Blk ((w.alloc (.cells #[.int .i64 p.tos, .int .i64 p.id, .int .i64 p.ttl, .int .i64 p.proto, .bool p.df, .bool false, .int .i64 p.off, .string p.src, .string p.dst, .string p.opt, .slice A n c] 32)).alloc (.cells #[.int .i64 q.tos, .int .i64 q.id, .int .i64 q.ttl, .int .i64 q.proto, .bool q.df, .bool q.mf, .int .i64 q.off, .string q.src, .string q.dst, .string q.opt, .slice A' n' c'] 32)) w.heap.size 32 #[.int .i64 p.tos, .int .i64 p.id, .int .i64 p.ttl, .int .i64 p.proto, .bool p.df, .bool false, .int .i64 p.off, .string p.src, .string p.dst, .string p.opt, .slice A n c]) := Lib.hid (Blk.alloc (Blk.new w 32 #[.int .i64 p.tos, .int .i64 p.id, .int .i64 p.ttl, .int .i64 p.proto, .bool p.df, .bool false, .int .i64 p.off, .string p.src, .string p.dst, .string p.opt, .slice A n c]) _)
  have K2 : Hid (Blk ((w.alloc (.cells #[.int .i64 p.tos, .int .i64 p.id, .int .i64 p.ttl, .int .i64 p.proto, .bool p.df, .bool false, .int .i64 p.off, .string p.src, .string p.dst, .string p.opt, .slice A n c] 32)).alloc (.cells #[.int .i64 q.tos, .int .i64 q.id, .int .i64 q.ttl, .int .i64 q.proto, .bool q.df, .bool q.mf, .int .i64 q.off, .string q.src, .string q.dst, .string q.opt, .slice A' n' c'] 32)) (w.heap.size + 1) 32 #[.int .i64 q.tos, .int .i64 q.id, .int .i64 q.ttl, .int .i64 q.proto, .bool q.df, .bool q.mf, .int .i64 q.off, .string q.src, .string q.dst, .string q.opt, .slice A' n' c']) := Lib.hid (by
    have := Blk.new (w.alloc (.cells #[.int .i64 p.tos, .int .i64 p.id, .int .i64 p.ttl, .int .i64 p.proto, .bool p.df, .bool false, .int .i64 p.off, .string p.src, .string p.dst, .string p.opt, .slice A n c] 32)) 32 #[.int .i64 q.tos, .int .i64 q.id, .int .i64 q.ttl, .int .i64 q.proto, .bool q.df, .bool q.mf, .int .i64 q.off, .string q.src, .string q.dst, .string q.opt, .slice A' n' c']
    rw [show (w.alloc (.cells #[.int .i64 p.tos, .int .i64 p.id, .int .i64 p.ttl, .int .i64 p.proto, .bool p.df, .bool false, .int .i64 p.off, .string p.src, .string p.dst, .string p.opt, .slice A n c] 32)).heap.size = w.heap.size + 1 by simp] at this
    exact this)
  have EA := fun d os => Calls.regrown_of (end_c p A n c (grow (redrawn ((w.alloc (.cells #[.int .i64 p.tos, .int .i64 p.id, .int .i64 p.ttl, .int .i64 p.proto, .bool p.df, .bool false, .int .i64 p.off, .string p.src, .string p.dst, .string p.opt, .slice A n c] 32)).alloc (.cells #[.int .i64 q.tos, .int .i64 q.id, .int .i64 q.ttl, .int .i64 q.proto, .bool q.df, .bool q.mf, .int .i64 q.off, .string q.src, .string q.dst, .string q.opt, .slice A' n' c'] 32)) d) os) a0 a1 an)
  have EB := fun d os => Calls.regrown_of (end_c q A' n' c' (grow (redrawn ((w.alloc (.cells #[.int .i64 p.tos, .int .i64 p.id, .int .i64 p.ttl, .int .i64 p.proto, .bool p.df, .bool false, .int .i64 p.off, .string p.src, .string p.dst, .string p.opt, .slice A n c] 32)).alloc (.cells #[.int .i64 q.tos, .int .i64 q.id, .int .i64 q.ttl, .int .i64 q.proto, .bool q.df, .bool q.mf, .int .i64 q.off, .string q.src, .string q.dst, .string q.opt, .slice A' n' c'] 32)) d) os) b0 b1 bn)
  unfold val at EA EB
  rw [hm] at EA
  clear a0 a1 an b0 b1 bn
  go_enter Tryd.func75, Tryd.ntmps75
  go_wp2_with fail
  generalize ((w.alloc (.cells #[.int .i64 p.tos, .int .i64 p.id, .int .i64 p.ttl, .int .i64 p.proto, .bool p.df, .bool false, .int .i64 p.off, .string p.src, .string p.dst, .string p.opt, .slice A n c] 32)).alloc (.cells #[.int .i64 q.tos, .int .i64 q.id, .int .i64 q.ttl, .int .i64 q.proto, .bool q.df, .bool q.mf, .int .i64 q.off, .string q.src, .string q.dst, .string q.opt, .slice A' n' c'] 32)) = w1 at *
  have p0 := fun d os => cell_regrown (K1.out.cell 0) d os
  have q0 := fun d os => cell_regrown (K2.out.cell 0) d os
  have p1 := fun d os => cell_regrown (K1.out.cell 1) d os
  have q1 := fun d os => cell_regrown (K2.out.cell 1) d os
  have p2 := fun d os => cell_regrown (K1.out.cell 2) d os
  have q2 := fun d os => cell_regrown (K2.out.cell 2) d os
  have p3 := fun d os => cell_regrown (K1.out.cell 3) d os
  have q3 := fun d os => cell_regrown (K2.out.cell 3) d os
  have p4 := fun d os => cell_regrown (K1.out.cell 4) d os
  have q4 := fun d os => cell_regrown (K2.out.cell 4) d os
  have p5 := fun d os => cell_regrown (K1.out.cell 5) d os
  have q5 := fun d os => cell_regrown (K2.out.cell 5) d os
  have p6 := fun d os => cell_regrown (K1.out.cell 6) d os
  have q6 := fun d os => cell_regrown (K2.out.cell 6) d os
  have p7 := fun d os => cell_regrown (K1.out.cell 7) d os
  have q7 := fun d os => cell_regrown (K2.out.cell 7) d os
  have p8 := fun d os => cell_regrown (K1.out.cell 8) d os
  have q8 := fun d os => cell_regrown (K2.out.cell 8) d os
  have p9 := fun d os => cell_regrown (K1.out.cell 9) d os
  have q9 := fun d os => cell_regrown (K2.out.cell 9) d os
  have p10 := fun d os => cell_regrown (K1.out.cell 10) d os
  have q10 := fun d os => cell_regrown (K2.out.cell 10) d os
  refine wp_region_quiet_below (by kernel_rfl) (by kernel_rfl) ?_
  repeat (quiet_step (first | (with_reducible exact EA _ _) | (with_reducible exact EB _ _)))
  refine wpQuiet_nil ?_
  intro _ hw'
  obtain ⟨⟨dq, osq⟩, hw''⟩ := hw'
  subst hw''
  clear EA EB p0 q0 p1 q1 p2 q2 p3 q3 p4 q4 p5 q5 p6 q6 p7 q7 p8 q8 p9 q9 p10 q10
  go_wp2_with fail
  go_ret
  exact ⟨rfl, B0.out.trans ((below_regrown w1 dq osq).mono B0.out.size)⟩
theorem over_c (p q : Pkt) (A A' : Option Addr) (n c n' c' : Nat) (l l' : List Int) (w : World) (a0 : -1099511627776 ≤ p.off) (a1 : p.off ≤ 1099511627776) (an : n ≤ 1099511627776) (b0 : -1099511627776 ≤ q.off) (b1 : q.off ≤ 1099511627776) (bn : n' ≤ 1099511627776) (hl : l.length = n) (hl' : l'.length = n') : Calls Tryd.prog 74 #[val p (.slice A n c), val q (.slice A' n' c')] w fun e w' => e = .returned (.bool (overB (p, l) (q, l'))) ∧ Below w.heap.size w w' := by
  have e : overB (p, l) (q, l') = (decide (p.off < q.off + (n' : Int)) && decide (q.off < p.off + (n : Int))) := by unfold overB endF; rw [hl, hl']
  rw [e]
  by_cases h1 : p.off < q.off + (n' : Int)
  · rw [decide_eq_true h1, Bool.true_and]
    exact over_yes p q A A' n c n' c' w a0 a1 an b0 b1 bn _ h1 rfl
  · rw [decide_eq_false h1, Bool.false_and]
    exact over_no p q A A' n c n' c' w a0 a1 an b0 b1 bn h1
theorem bef_c (p q : Pkt) (A A' : Option Addr) (n c n' c' : Nat) (l l' : List Int) (w : World) (a0 : -1099511627776 ≤ p.off) (a1 : p.off ≤ 1099511627776) (an : n ≤ 1099511627776) (b0 : -1099511627776 ≤ q.off) (b1 : q.off ≤ 1099511627776) (bn : n' ≤ 1099511627776) (hl : l.length = n) (hl' : l'.length = n') : Calls Tryd.prog 75 #[val p (.slice A n c), val q (.slice A' n' c')] w fun e w' => e = .returned (.bool (befB (p, l) (q, l'))) ∧ Below w.heap.size w w' := by
  have e : befB (p, l) (q, l') = (!p.mf && decide (p.off + (n : Int) < q.off + (n' : Int))) := by unfold befB endF; rw [hl, hl']
  rw [e]
  unfold val
  cases m : p.mf with
  | true => exact bef_no p q A A' n c n' c' w a0 a1 an b0 b1 bn m
  | false =>
    have := bef_yes p q A A' n c n' c' w a0 a1 an b0 b1 bn m _ rfl
    simpa using this
end Go.Proofs.YtnpggkpcadefjaaDoor.Jc1

/- The code's clash, same, and what hangs on them. -/
set_option linter.unusedVariables false
set_option maxRecDepth 100000
namespace Go.Proofs.YtnpggkpcadefjaaDoor.Jc2
open Go.RowKit Go.Proofs.YtnpggkpcadefjaaDoor.Sums Go.Proofs.YtnpggkpcadefjaaDoor.Mem Go.Proofs.YtnpggkpcadefjaaDoor.Blk Go.Proofs.YtnpggkpcadefjaaDoor.Pkt Go.Proofs.YtnpggkpcadefjaaDoor.Check Go.Proofs.YtnpggkpcadefjaaDoor.JoiM Go.Proofs.YtnpggkpcadefjaaDoor.JoiC Go.Proofs.YtnpggkpcadefjaaDoor.MapL Go.Proofs.YtnpggkpcadefjaaDoor.Jc1

set_option maxHeartbeats 2000000 in
theorem clash_1 (p q : Pkt) (A A' : Option Addr) (n c n' c' : Nat) (w : World) (u2 u3 : Bool)
    (OC : ∀ W, Calls Tryd.prog 74 #[val p (.slice A n c), val q (.slice A' n' c')] W fun e w' => e = .returned (.bool true) ∧ Below W.heap.size W w')
    (C1 : ∀ W, Calls Tryd.prog 75 #[val p (.slice A n c), val q (.slice A' n' c')] W fun e w' => e = .returned (.bool u2) ∧ Below W.heap.size W w')
    (C2 : ∀ W, Calls Tryd.prog 75 #[val q (.slice A' n' c'), val p (.slice A n c)] W fun e w' => e = .returned (.bool u3) ∧ Below W.heap.size W w') :
    Calls Tryd.prog 64 #[val p (.slice A n c), val q (.slice A' n' c')] w fun e w' => e = .returned (.bool true) ∧ Below w.heap.size w w' := by
  have B0 := Lib.hid (((Below.refl w.heap.size w).alloc (Nat.le_refl _) (.cells #[.int .i64 p.tos, .int .i64 p.id, .int .i64 p.ttl, .int .i64 p.proto, .bool p.df, .bool p.mf, .int .i64 p.off, .string p.src, .string p.dst, .string p.opt, .slice A n c] 32)).alloc (by simp) (.cells #[.int .i64 q.tos, .int .i64 q.id, .int .i64 q.ttl, .int .i64 q.proto, .bool q.df, .bool q.mf, .int .i64 q.off, .string q.src, .string q.dst, .string q.opt, .slice A' n' c'] 32))
  have K1 : Hid (Blk ((w.alloc (.cells #[.int .i64 p.tos, .int .i64 p.id, .int .i64 p.ttl, .int .i64 p.proto, .bool p.df, .bool p.mf, .int .i64 p.off, .string p.src, .string p.dst, .string p.opt, .slice A n c] 32)).alloc (.cells #[.int .i64 q.tos, .int .i64 q.id, .int .i64 q.ttl, .int .i64 q.proto, .bool q.df, .bool q.mf, .int .i64 q.off, .string q.src, .string q.dst, .string q.opt, .slice A' n' c'] 32)) w.heap.size 32 #[.int .i64 p.tos, .int .i64 p.id, .int .i64 p.ttl, .int .i64 p.proto, .bool p.df, .bool p.mf, .int .i64 p.off, .string p.src, .string p.dst, .string p.opt, .slice A n c]) := Lib.hid (Blk.alloc (Blk.new w 32 #[.int .i64 p.tos, .int .i64 p.id, .int .i64 p.ttl, .int .i64 p.proto, .bool p.df, .bool p.mf, .int .i64 p.off, .string p.src, .string p.dst, .string p.opt, .slice A n c]) _)
  have K2 : Hid (Blk ((w.alloc (.cells #[.int .i64 p.tos, .int .i64 p.id, .int .i64 p.ttl, .int .i64 p.proto, .bool p.df, .bool p.mf, .int .i64 p.off, .string p.src, .string p.dst, .string p.opt, .slice A n c] 32)).alloc (.cells #[.int .i64 q.tos, .int .i64 q.id, .int .i64 q.ttl, .int .i64 q.proto, .bool q.df, .bool q.mf, .int .i64 q.off, .string q.src, .string q.dst, .string q.opt, .slice A' n' c'] 32)) (w.heap.size + 1) 32 #[.int .i64 q.tos, .int .i64 q.id, .int .i64 q.ttl, .int .i64 q.proto, .bool q.df, .bool q.mf, .int .i64 q.off, .string q.src, .string q.dst, .string q.opt, .slice A' n' c']) := Lib.hid (by
    have := Blk.new (w.alloc (.cells #[.int .i64 p.tos, .int .i64 p.id, .int .i64 p.ttl, .int .i64 p.proto, .bool p.df, .bool p.mf, .int .i64 p.off, .string p.src, .string p.dst, .string p.opt, .slice A n c] 32)) 32 #[.int .i64 q.tos, .int .i64 q.id, .int .i64 q.ttl, .int .i64 q.proto, .bool q.df, .bool q.mf, .int .i64 q.off, .string q.src, .string q.dst, .string q.opt, .slice A' n' c']
    rw [show (w.alloc (.cells #[.int .i64 p.tos, .int .i64 p.id, .int .i64 p.ttl, .int .i64 p.proto, .bool p.df, .bool p.mf, .int .i64 p.off, .string p.src, .string p.dst, .string p.opt, .slice A n c] 32)).heap.size = w.heap.size + 1 by simp] at this
    exact this)
  have OC := Lib.hid OC
  have C1 := Lib.hid C1
  have C2 := Lib.hid C2
  unfold val at OC C1 C2
  unfold val
  go_enter Tryd.func64, Tryd.ntmps64
  go_wp2_with (first | (refine Store.at_load 32 (.tmp 2) ?_ ?_; exact rfl; refine Loads.wpList_load_w rfl 32 (.tmp 2) rfl w.heap.size rfl 32 #[.int .i64 p.tos, .int .i64 p.id, .int .i64 p.ttl, .int .i64 p.proto, .bool p.df, .bool p.mf, .int .i64 p.off, .string p.src, .string p.dst, .string p.opt, .slice A n c] (0, 0) _ (K1.out) Tryd.underlying32 rfl (by kernel_rfl) ?_) | (refine Store.at_load 32 (.tmp 3) ?_ ?_; exact rfl; refine Loads.wpList_load_w rfl 32 (.tmp 3) rfl (w.heap.size + 1) rfl 32 #[.int .i64 q.tos, .int .i64 q.id, .int .i64 q.ttl, .int .i64 q.proto, .bool q.df, .bool q.mf, .int .i64 q.off, .string q.src, .string q.dst, .string q.opt, .slice A' n' c'] (0, 0) _ (K2.out) Tryd.underlying32 rfl (by kernel_rfl) ?_))
  generalize ((w.alloc (.cells #[.int .i64 p.tos, .int .i64 p.id, .int .i64 p.ttl, .int .i64 p.proto, .bool p.df, .bool p.mf, .int .i64 p.off, .string p.src, .string p.dst, .string p.opt, .slice A n c] 32)).alloc (.cells #[.int .i64 q.tos, .int .i64 q.id, .int .i64 q.ttl, .int .i64 q.proto, .bool q.df, .bool q.mf, .int .i64 q.off, .string q.src, .string q.dst, .string q.opt, .slice A' n' c'] 32)) = w1 at *
  skip
  refine (OC.out _).mono ?_
  rintro e w2 ⟨rfl, hb1⟩
  have B1 := Lib.hid (B0.out.trans (hb1.mono B0.out.size))
  have K1_1 := Lib.hid (K1.out.below hb1 K1.out.lt)
  have K2_1 := Lib.hid (K2.out.below hb1 K2.out.lt)
  go_wp2_with fail
  go_ret
  exact ⟨rfl, B1.out⟩
set_option maxHeartbeats 2000000 in
theorem clash_2 (p q : Pkt) (A A' : Option Addr) (n c n' c' : Nat) (w : World) (u3 : Bool)
    (OC : ∀ W, Calls Tryd.prog 74 #[val p (.slice A n c), val q (.slice A' n' c')] W fun e w' => e = .returned (.bool false) ∧ Below W.heap.size W w')
    (C1 : ∀ W, Calls Tryd.prog 75 #[val p (.slice A n c), val q (.slice A' n' c')] W fun e w' => e = .returned (.bool true) ∧ Below W.heap.size W w')
    (C2 : ∀ W, Calls Tryd.prog 75 #[val q (.slice A' n' c'), val p (.slice A n c)] W fun e w' => e = .returned (.bool u3) ∧ Below W.heap.size W w') :
    Calls Tryd.prog 64 #[val p (.slice A n c), val q (.slice A' n' c')] w fun e w' => e = .returned (.bool true) ∧ Below w.heap.size w w' := by
  have B0 := Lib.hid (((Below.refl w.heap.size w).alloc (Nat.le_refl _) (.cells #[.int .i64 p.tos, .int .i64 p.id, .int .i64 p.ttl, .int .i64 p.proto, .bool p.df, .bool p.mf, .int .i64 p.off, .string p.src, .string p.dst, .string p.opt, .slice A n c] 32)).alloc (by simp) (.cells #[.int .i64 q.tos, .int .i64 q.id, .int .i64 q.ttl, .int .i64 q.proto, .bool q.df, .bool q.mf, .int .i64 q.off, .string q.src, .string q.dst, .string q.opt, .slice A' n' c'] 32))
  have K1 : Hid (Blk ((w.alloc (.cells #[.int .i64 p.tos, .int .i64 p.id, .int .i64 p.ttl, .int .i64 p.proto, .bool p.df, .bool p.mf, .int .i64 p.off, .string p.src, .string p.dst, .string p.opt, .slice A n c] 32)).alloc (.cells #[.int .i64 q.tos, .int .i64 q.id, .int .i64 q.ttl, .int .i64 q.proto, .bool q.df, .bool q.mf, .int .i64 q.off, .string q.src, .string q.dst, .string q.opt, .slice A' n' c'] 32)) w.heap.size 32 #[.int .i64 p.tos, .int .i64 p.id, .int .i64 p.ttl, .int .i64 p.proto, .bool p.df, .bool p.mf, .int .i64 p.off, .string p.src, .string p.dst, .string p.opt, .slice A n c]) := Lib.hid (Blk.alloc (Blk.new w 32 #[.int .i64 p.tos, .int .i64 p.id, .int .i64 p.ttl, .int .i64 p.proto, .bool p.df, .bool p.mf, .int .i64 p.off, .string p.src, .string p.dst, .string p.opt, .slice A n c]) _)
  have K2 : Hid (Blk ((w.alloc (.cells #[.int .i64 p.tos, .int .i64 p.id, .int .i64 p.ttl, .int .i64 p.proto, .bool p.df, .bool p.mf, .int .i64 p.off, .string p.src, .string p.dst, .string p.opt, .slice A n c] 32)).alloc (.cells #[.int .i64 q.tos, .int .i64 q.id, .int .i64 q.ttl, .int .i64 q.proto, .bool q.df, .bool q.mf, .int .i64 q.off, .string q.src, .string q.dst, .string q.opt, .slice A' n' c'] 32)) (w.heap.size + 1) 32 #[.int .i64 q.tos, .int .i64 q.id, .int .i64 q.ttl, .int .i64 q.proto, .bool q.df, .bool q.mf, .int .i64 q.off, .string q.src, .string q.dst, .string q.opt, .slice A' n' c']) := Lib.hid (by
    have := Blk.new (w.alloc (.cells #[.int .i64 p.tos, .int .i64 p.id, .int .i64 p.ttl, .int .i64 p.proto, .bool p.df, .bool p.mf, .int .i64 p.off, .string p.src, .string p.dst, .string p.opt, .slice A n c] 32)) 32 #[.int .i64 q.tos, .int .i64 q.id, .int .i64 q.ttl, .int .i64 q.proto, .bool q.df, .bool q.mf, .int .i64 q.off, .string q.src, .string q.dst, .string q.opt, .slice A' n' c']
    rw [show (w.alloc (.cells #[.int .i64 p.tos, .int .i64 p.id, .int .i64 p.ttl, .int .i64 p.proto, .bool p.df, .bool p.mf, .int .i64 p.off, .string p.src, .string p.dst, .string p.opt, .slice A n c] 32)).heap.size = w.heap.size + 1 by simp] at this
    exact this)
  have OC := Lib.hid OC
  have C1 := Lib.hid C1
  have C2 := Lib.hid C2
  unfold val at OC C1 C2
  unfold val
  go_enter Tryd.func64, Tryd.ntmps64
  go_wp2_with (first | (refine Store.at_load 32 (.tmp 2) ?_ ?_; exact rfl; refine Loads.wpList_load_w rfl 32 (.tmp 2) rfl w.heap.size rfl 32 #[.int .i64 p.tos, .int .i64 p.id, .int .i64 p.ttl, .int .i64 p.proto, .bool p.df, .bool p.mf, .int .i64 p.off, .string p.src, .string p.dst, .string p.opt, .slice A n c] (0, 0) _ (K1.out) Tryd.underlying32 rfl (by kernel_rfl) ?_) | (refine Store.at_load 32 (.tmp 3) ?_ ?_; exact rfl; refine Loads.wpList_load_w rfl 32 (.tmp 3) rfl (w.heap.size + 1) rfl 32 #[.int .i64 q.tos, .int .i64 q.id, .int .i64 q.ttl, .int .i64 q.proto, .bool q.df, .bool q.mf, .int .i64 q.off, .string q.src, .string q.dst, .string q.opt, .slice A' n' c'] (0, 0) _ (K2.out) Tryd.underlying32 rfl (by kernel_rfl) ?_))
  generalize ((w.alloc (.cells #[.int .i64 p.tos, .int .i64 p.id, .int .i64 p.ttl, .int .i64 p.proto, .bool p.df, .bool p.mf, .int .i64 p.off, .string p.src, .string p.dst, .string p.opt, .slice A n c] 32)).alloc (.cells #[.int .i64 q.tos, .int .i64 q.id, .int .i64 q.ttl, .int .i64 q.proto, .bool q.df, .bool q.mf, .int .i64 q.off, .string q.src, .string q.dst, .string q.opt, .slice A' n' c'] 32)) = w1 at *
  skip
  refine (OC.out _).mono ?_
  rintro e w2 ⟨rfl, hb1⟩
  have B1 := Lib.hid (B0.out.trans (hb1.mono B0.out.size))
  have K1_1 := Lib.hid (K1.out.below hb1 K1.out.lt)
  have K2_1 := Lib.hid (K2.out.below hb1 K2.out.lt)
  go_wp2_with (first | (refine Store.at_load 32 (.tmp 2) ?_ ?_; exact rfl; refine Loads.wpList_load_w rfl 32 (.tmp 2) rfl w.heap.size rfl 32 #[.int .i64 p.tos, .int .i64 p.id, .int .i64 p.ttl, .int .i64 p.proto, .bool p.df, .bool p.mf, .int .i64 p.off, .string p.src, .string p.dst, .string p.opt, .slice A n c] (0, 0) _ (K1_1.out) Tryd.underlying32 rfl (by kernel_rfl) ?_) | (refine Store.at_load 32 (.tmp 3) ?_ ?_; exact rfl; refine Loads.wpList_load_w rfl 32 (.tmp 3) rfl (w.heap.size + 1) rfl 32 #[.int .i64 q.tos, .int .i64 q.id, .int .i64 q.ttl, .int .i64 q.proto, .bool q.df, .bool q.mf, .int .i64 q.off, .string q.src, .string q.dst, .string q.opt, .slice A' n' c'] (0, 0) _ (K2_1.out) Tryd.underlying32 rfl (by kernel_rfl) ?_))
  refine (C1.out _).mono ?_
  rintro e w3 ⟨rfl, hb2⟩
  have B2 := Lib.hid (B1.out.trans (hb2.mono B1.out.size))
  have K1_2 := Lib.hid (K1_1.out.below hb2 K1_1.out.lt)
  have K2_2 := Lib.hid (K2_1.out.below hb2 K2_1.out.lt)
  go_wp2_with fail
  go_ret
  exact ⟨rfl, B2.out⟩
set_option maxHeartbeats 2000000 in
theorem clash_3 (p q : Pkt) (A A' : Option Addr) (n c n' c' : Nat) (w : World) (u3 : Bool)
    (OC : ∀ W, Calls Tryd.prog 74 #[val p (.slice A n c), val q (.slice A' n' c')] W fun e w' => e = .returned (.bool false) ∧ Below W.heap.size W w')
    (C1 : ∀ W, Calls Tryd.prog 75 #[val p (.slice A n c), val q (.slice A' n' c')] W fun e w' => e = .returned (.bool false) ∧ Below W.heap.size W w')
    (C2 : ∀ W, Calls Tryd.prog 75 #[val q (.slice A' n' c'), val p (.slice A n c)] W fun e w' => e = .returned (.bool u3) ∧ Below W.heap.size W w') :
    Calls Tryd.prog 64 #[val p (.slice A n c), val q (.slice A' n' c')] w fun e w' => e = .returned (.bool u3) ∧ Below w.heap.size w w' := by
  have B0 := Lib.hid (((Below.refl w.heap.size w).alloc (Nat.le_refl _) (.cells #[.int .i64 p.tos, .int .i64 p.id, .int .i64 p.ttl, .int .i64 p.proto, .bool p.df, .bool p.mf, .int .i64 p.off, .string p.src, .string p.dst, .string p.opt, .slice A n c] 32)).alloc (by simp) (.cells #[.int .i64 q.tos, .int .i64 q.id, .int .i64 q.ttl, .int .i64 q.proto, .bool q.df, .bool q.mf, .int .i64 q.off, .string q.src, .string q.dst, .string q.opt, .slice A' n' c'] 32))
  have K1 : Hid (Blk ((w.alloc (.cells #[.int .i64 p.tos, .int .i64 p.id, .int .i64 p.ttl, .int .i64 p.proto, .bool p.df, .bool p.mf, .int .i64 p.off, .string p.src, .string p.dst, .string p.opt, .slice A n c] 32)).alloc (.cells #[.int .i64 q.tos, .int .i64 q.id, .int .i64 q.ttl, .int .i64 q.proto, .bool q.df, .bool q.mf, .int .i64 q.off, .string q.src, .string q.dst, .string q.opt, .slice A' n' c'] 32)) w.heap.size 32 #[.int .i64 p.tos, .int .i64 p.id, .int .i64 p.ttl, .int .i64 p.proto, .bool p.df, .bool p.mf, .int .i64 p.off, .string p.src, .string p.dst, .string p.opt, .slice A n c]) := Lib.hid (Blk.alloc (Blk.new w 32 #[.int .i64 p.tos, .int .i64 p.id, .int .i64 p.ttl, .int .i64 p.proto, .bool p.df, .bool p.mf, .int .i64 p.off, .string p.src, .string p.dst, .string p.opt, .slice A n c]) _)
  have K2 : Hid (Blk ((w.alloc (.cells #[.int .i64 p.tos, .int .i64 p.id, .int .i64 p.ttl, .int .i64 p.proto, .bool p.df, .bool p.mf, .int .i64 p.off, .string p.src, .string p.dst, .string p.opt, .slice A n c] 32)).alloc (.cells #[.int .i64 q.tos, .int .i64 q.id, .int .i64 q.ttl, .int .i64 q.proto, .bool q.df, .bool q.mf, .int .i64 q.off, .string q.src, .string q.dst, .string q.opt, .slice A' n' c'] 32)) (w.heap.size + 1) 32 #[.int .i64 q.tos, .int .i64 q.id, .int .i64 q.ttl, .int .i64 q.proto, .bool q.df, .bool q.mf, .int .i64 q.off, .string q.src, .string q.dst, .string q.opt, .slice A' n' c']) := Lib.hid (by
    have := Blk.new (w.alloc (.cells #[.int .i64 p.tos, .int .i64 p.id, .int .i64 p.ttl, .int .i64 p.proto, .bool p.df, .bool p.mf, .int .i64 p.off, .string p.src, .string p.dst, .string p.opt, .slice A n c] 32)) 32 #[.int .i64 q.tos, .int .i64 q.id, .int .i64 q.ttl, .int .i64 q.proto, .bool q.df, .bool q.mf, .int .i64 q.off, .string q.src, .string q.dst, .string q.opt, .slice A' n' c']
    rw [show (w.alloc (.cells #[.int .i64 p.tos, .int .i64 p.id, .int .i64 p.ttl, .int .i64 p.proto, .bool p.df, .bool p.mf, .int .i64 p.off, .string p.src, .string p.dst, .string p.opt, .slice A n c] 32)).heap.size = w.heap.size + 1 by simp] at this
    exact this)
  have OC := Lib.hid OC
  have C1 := Lib.hid C1
  have C2 := Lib.hid C2
  unfold val at OC C1 C2
  unfold val
  go_enter Tryd.func64, Tryd.ntmps64
  go_wp2_with (first | (refine Store.at_load 32 (.tmp 2) ?_ ?_; exact rfl; refine Loads.wpList_load_w rfl 32 (.tmp 2) rfl w.heap.size rfl 32 #[.int .i64 p.tos, .int .i64 p.id, .int .i64 p.ttl, .int .i64 p.proto, .bool p.df, .bool p.mf, .int .i64 p.off, .string p.src, .string p.dst, .string p.opt, .slice A n c] (0, 0) _ (K1.out) Tryd.underlying32 rfl (by kernel_rfl) ?_) | (refine Store.at_load 32 (.tmp 3) ?_ ?_; exact rfl; refine Loads.wpList_load_w rfl 32 (.tmp 3) rfl (w.heap.size + 1) rfl 32 #[.int .i64 q.tos, .int .i64 q.id, .int .i64 q.ttl, .int .i64 q.proto, .bool q.df, .bool q.mf, .int .i64 q.off, .string q.src, .string q.dst, .string q.opt, .slice A' n' c'] (0, 0) _ (K2.out) Tryd.underlying32 rfl (by kernel_rfl) ?_))
  generalize ((w.alloc (.cells #[.int .i64 p.tos, .int .i64 p.id, .int .i64 p.ttl, .int .i64 p.proto, .bool p.df, .bool p.mf, .int .i64 p.off, .string p.src, .string p.dst, .string p.opt, .slice A n c] 32)).alloc (.cells #[.int .i64 q.tos, .int .i64 q.id, .int .i64 q.ttl, .int .i64 q.proto, .bool q.df, .bool q.mf, .int .i64 q.off, .string q.src, .string q.dst, .string q.opt, .slice A' n' c'] 32)) = w1 at *
  skip
  refine (OC.out _).mono ?_
  rintro e w2 ⟨rfl, hb1⟩
  have B1 := Lib.hid (B0.out.trans (hb1.mono B0.out.size))
  have K1_1 := Lib.hid (K1.out.below hb1 K1.out.lt)
  have K2_1 := Lib.hid (K2.out.below hb1 K2.out.lt)
  go_wp2_with (first | (refine Store.at_load 32 (.tmp 2) ?_ ?_; exact rfl; refine Loads.wpList_load_w rfl 32 (.tmp 2) rfl w.heap.size rfl 32 #[.int .i64 p.tos, .int .i64 p.id, .int .i64 p.ttl, .int .i64 p.proto, .bool p.df, .bool p.mf, .int .i64 p.off, .string p.src, .string p.dst, .string p.opt, .slice A n c] (0, 0) _ (K1_1.out) Tryd.underlying32 rfl (by kernel_rfl) ?_) | (refine Store.at_load 32 (.tmp 3) ?_ ?_; exact rfl; refine Loads.wpList_load_w rfl 32 (.tmp 3) rfl (w.heap.size + 1) rfl 32 #[.int .i64 q.tos, .int .i64 q.id, .int .i64 q.ttl, .int .i64 q.proto, .bool q.df, .bool q.mf, .int .i64 q.off, .string q.src, .string q.dst, .string q.opt, .slice A' n' c'] (0, 0) _ (K2_1.out) Tryd.underlying32 rfl (by kernel_rfl) ?_))
  refine (C1.out _).mono ?_
  rintro e w3 ⟨rfl, hb2⟩
  have B2 := Lib.hid (B1.out.trans (hb2.mono B1.out.size))
  have K1_2 := Lib.hid (K1_1.out.below hb2 K1_1.out.lt)
  have K2_2 := Lib.hid (K2_1.out.below hb2 K2_1.out.lt)
  go_wp2_with (first | (refine Store.at_load 32 (.tmp 2) ?_ ?_; exact rfl; refine Loads.wpList_load_w rfl 32 (.tmp 2) rfl w.heap.size rfl 32 #[.int .i64 p.tos, .int .i64 p.id, .int .i64 p.ttl, .int .i64 p.proto, .bool p.df, .bool p.mf, .int .i64 p.off, .string p.src, .string p.dst, .string p.opt, .slice A n c] (0, 0) _ (K1_2.out) Tryd.underlying32 rfl (by kernel_rfl) ?_) | (refine Store.at_load 32 (.tmp 3) ?_ ?_; exact rfl; refine Loads.wpList_load_w rfl 32 (.tmp 3) rfl (w.heap.size + 1) rfl 32 #[.int .i64 q.tos, .int .i64 q.id, .int .i64 q.ttl, .int .i64 q.proto, .bool q.df, .bool q.mf, .int .i64 q.off, .string q.src, .string q.dst, .string q.opt, .slice A' n' c'] (0, 0) _ (K2_2.out) Tryd.underlying32 rfl (by kernel_rfl) ?_))
  refine (C2.out _).mono ?_
  rintro e w4 ⟨rfl, hb3⟩
  have B3 := Lib.hid (B2.out.trans (hb3.mono B2.out.size))
  have K1_3 := Lib.hid (K1_2.out.below hb3 K1_2.out.lt)
  have K2_3 := Lib.hid (K2_2.out.below hb3 K2_2.out.lt)
  go_wp2_with fail
  go_ret
  exact ⟨rfl, B3.out⟩
theorem clash_c (p q : Pkt) (A A' : Option Addr) (n c n' c' : Nat) (l l' : List Int) (w : World) (a0 : -1099511627776 ≤ p.off) (a1 : p.off ≤ 1099511627776) (an : n ≤ 1048576) (b0 : -1099511627776 ≤ q.off) (b1 : q.off ≤ 1099511627776) (bn : n' ≤ 1048576) (hl : l.length = n) (hl' : l'.length = n') : Calls Tryd.prog 64 #[val p (.slice A n c), val q (.slice A' n' c')] w fun e w' => e = .returned (.bool (badB (q, l') (p, l))) ∧ Below w.heap.size w w' := by
  rw [← clash_is]
  have OC := fun W => over_c p q A A' n c n' c' l l' W a0 a1 (by omega) b0 b1 (by omega) hl hl'
  have C1 := fun W => bef_c p q A A' n c n' c' l l' W a0 a1 (by omega) b0 b1 (by omega) hl hl'
  have C2 := fun W => bef_c q p A' A n' c' n c l' l W b0 b1 (by omega) a0 a1 (by omega) hl' hl
  cases e1 : overB (p, l) (q, l') with
  | true =>
    rw [e1] at OC
    exact clash_1 p q A A' n c n' c' w _ _ OC C1 C2
  | false =>
    rw [e1] at OC
    cases e2 : befB (p, l) (q, l') with
    | true =>
      rw [e2] at C1
      exact clash_2 p q A A' n c n' c' w _ OC C1 C2
    | false =>
      rw [e2] at C1
      exact clash_3 p q A A' n c n' c' w _ OC C1 C2
theorem same_1 (p q : Pkt) (A A' : Option Addr) (n c n' c' : Nat) (w : World) (h : ¬ p.off = q.off) :
    Calls Tryd.prog 62 #[.agg #[.int .i64 p.tos, .int .i64 p.id, .int .i64 p.ttl, .int .i64 p.proto, .bool p.df, .bool p.mf, .int .i64 p.off, .string p.src, .string p.dst, .string p.opt, .slice A n c], .agg #[.int .i64 q.tos, .int .i64 q.id, .int .i64 q.ttl, .int .i64 q.proto, .bool q.df, .bool q.mf, .int .i64 q.off, .string q.src, .string q.dst, .string q.opt, .slice A' n' c']] w fun e w' => e = .returned (.bool false) ∧ Below w.heap.size w w' := by
  have B0 := Lib.hid (((Below.refl w.heap.size w).alloc (Nat.le_refl _) (.cells #[.int .i64 p.tos, .int .i64 p.id, .int .i64 p.ttl, .int .i64 p.proto, .bool p.df, .bool p.mf, .int .i64 p.off, .string p.src, .string p.dst, .string p.opt, .slice A n c] 32)).alloc (by simp) (.cells #[.int .i64 q.tos, .int .i64 q.id, .int .i64 q.ttl, .int .i64 q.proto, .bool q.df, .bool q.mf, .int .i64 q.off, .string q.src, .string q.dst, .string q.opt, .slice A' n' c'] 32))
  have g : (p.off == q.off) = false := by simpa using h
  clear h
  go_enter Tryd.func62, Tryd.ntmps62
  go_wp2_with fail
  go_ret
  exact ⟨rfl, B0.out⟩
theorem same_2t (p q : Pkt) (A A' : Option Addr) (n c n' c' : Nat) (w : World) (h : p.off = q.off) :
    Calls Tryd.prog 62 #[.agg #[.int .i64 p.tos, .int .i64 p.id, .int .i64 p.ttl, .int .i64 p.proto, .bool p.df, .bool true, .int .i64 p.off, .string p.src, .string p.dst, .string p.opt, .slice A n c], .agg #[.int .i64 q.tos, .int .i64 q.id, .int .i64 q.ttl, .int .i64 q.proto, .bool q.df, .bool false, .int .i64 q.off, .string q.src, .string q.dst, .string q.opt, .slice A' n' c']] w fun e w' => e = .returned (.bool false) ∧ Below w.heap.size w w' := by
  have B0 := Lib.hid (((Below.refl w.heap.size w).alloc (Nat.le_refl _) (.cells #[.int .i64 p.tos, .int .i64 p.id, .int .i64 p.ttl, .int .i64 p.proto, .bool p.df, .bool true, .int .i64 p.off, .string p.src, .string p.dst, .string p.opt, .slice A n c] 32)).alloc (by simp) (.cells #[.int .i64 q.tos, .int .i64 q.id, .int .i64 q.ttl, .int .i64 q.proto, .bool q.df, .bool false, .int .i64 q.off, .string q.src, .string q.dst, .string q.opt, .slice A' n' c'] 32))
  have g : (p.off == q.off) = true := by simpa using h
  clear h
  go_enter Tryd.func62, Tryd.ntmps62
  go_wp2_with fail
  go_ret
  exact ⟨rfl, B0.out⟩
theorem same_3t (p q : Pkt) (A A' : Option Addr) (n c n' c' : Nat) (w : World) (h : p.off = q.off) (u : Bool) (EQ : ∀ W, Below w.heap.size w W → Calls Tryd.prog 73 #[.slice A n c, .slice A' n' c'] W fun e w' => e = .returned (.bool u) ∧ W = w') :
    Calls Tryd.prog 62 #[.agg #[.int .i64 p.tos, .int .i64 p.id, .int .i64 p.ttl, .int .i64 p.proto, .bool p.df, .bool true, .int .i64 p.off, .string p.src, .string p.dst, .string p.opt, .slice A n c], .agg #[.int .i64 q.tos, .int .i64 q.id, .int .i64 q.ttl, .int .i64 q.proto, .bool q.df, .bool true, .int .i64 q.off, .string q.src, .string q.dst, .string q.opt, .slice A' n' c']] w fun e w' => e = .returned (.bool u) ∧ Below w.heap.size w w' := by
  have B0 := Lib.hid (((Below.refl w.heap.size w).alloc (Nat.le_refl _) (.cells #[.int .i64 p.tos, .int .i64 p.id, .int .i64 p.ttl, .int .i64 p.proto, .bool p.df, .bool true, .int .i64 p.off, .string p.src, .string p.dst, .string p.opt, .slice A n c] 32)).alloc (by simp) (.cells #[.int .i64 q.tos, .int .i64 q.id, .int .i64 q.ttl, .int .i64 q.proto, .bool q.df, .bool true, .int .i64 q.off, .string q.src, .string q.dst, .string q.opt, .slice A' n' c'] 32))
  have g : (p.off == q.off) = true := by simpa using h
  have EQ := Lib.hid EQ
  clear h
  go_enter Tryd.func62, Tryd.ntmps62
  go_wp2_with fail
  refine (EQ.out _ B0.out).mono ?_
  rintro e w2 ⟨rfl, rfl⟩
  go_wp2_with fail
  go_ret
  exact ⟨rfl, B0.out⟩
theorem same_2f (p q : Pkt) (A A' : Option Addr) (n c n' c' : Nat) (w : World) (h : p.off = q.off) :
    Calls Tryd.prog 62 #[.agg #[.int .i64 p.tos, .int .i64 p.id, .int .i64 p.ttl, .int .i64 p.proto, .bool p.df, .bool false, .int .i64 p.off, .string p.src, .string p.dst, .string p.opt, .slice A n c], .agg #[.int .i64 q.tos, .int .i64 q.id, .int .i64 q.ttl, .int .i64 q.proto, .bool q.df, .bool true, .int .i64 q.off, .string q.src, .string q.dst, .string q.opt, .slice A' n' c']] w fun e w' => e = .returned (.bool false) ∧ Below w.heap.size w w' := by
  have B0 := Lib.hid (((Below.refl w.heap.size w).alloc (Nat.le_refl _) (.cells #[.int .i64 p.tos, .int .i64 p.id, .int .i64 p.ttl, .int .i64 p.proto, .bool p.df, .bool false, .int .i64 p.off, .string p.src, .string p.dst, .string p.opt, .slice A n c] 32)).alloc (by simp) (.cells #[.int .i64 q.tos, .int .i64 q.id, .int .i64 q.ttl, .int .i64 q.proto, .bool q.df, .bool true, .int .i64 q.off, .string q.src, .string q.dst, .string q.opt, .slice A' n' c'] 32))
  have g : (p.off == q.off) = true := by simpa using h
  clear h
  go_enter Tryd.func62, Tryd.ntmps62
  go_wp2_with fail
  go_ret
  exact ⟨rfl, B0.out⟩
theorem same_3f (p q : Pkt) (A A' : Option Addr) (n c n' c' : Nat) (w : World) (h : p.off = q.off) (u : Bool) (EQ : ∀ W, Below w.heap.size w W → Calls Tryd.prog 73 #[.slice A n c, .slice A' n' c'] W fun e w' => e = .returned (.bool u) ∧ W = w') :
    Calls Tryd.prog 62 #[.agg #[.int .i64 p.tos, .int .i64 p.id, .int .i64 p.ttl, .int .i64 p.proto, .bool p.df, .bool false, .int .i64 p.off, .string p.src, .string p.dst, .string p.opt, .slice A n c], .agg #[.int .i64 q.tos, .int .i64 q.id, .int .i64 q.ttl, .int .i64 q.proto, .bool q.df, .bool false, .int .i64 q.off, .string q.src, .string q.dst, .string q.opt, .slice A' n' c']] w fun e w' => e = .returned (.bool u) ∧ Below w.heap.size w w' := by
  have B0 := Lib.hid (((Below.refl w.heap.size w).alloc (Nat.le_refl _) (.cells #[.int .i64 p.tos, .int .i64 p.id, .int .i64 p.ttl, .int .i64 p.proto, .bool p.df, .bool false, .int .i64 p.off, .string p.src, .string p.dst, .string p.opt, .slice A n c] 32)).alloc (by simp) (.cells #[.int .i64 q.tos, .int .i64 q.id, .int .i64 q.ttl, .int .i64 q.proto, .bool q.df, .bool false, .int .i64 q.off, .string q.src, .string q.dst, .string q.opt, .slice A' n' c'] 32))
  have g : (p.off == q.off) = true := by simpa using h
  have EQ := Lib.hid EQ
  clear h
  go_enter Tryd.func62, Tryd.ntmps62
  go_wp2_with fail
  refine (EQ.out _ B0.out).mono ?_
  rintro e w2 ⟨rfl, rfl⟩
  go_wp2_with fail
  go_ret
  exact ⟨rfl, B0.out⟩
theorem same_c (p q : Pkt) (A A' : Option Addr) (n c n' c' : Nat) (l l' : List Int) (w : World) (h : Holds w w.heap.size A n c l) (h' : Holds w w.heap.size A' n' c' l') : Calls Tryd.prog 62 #[val p (.slice A n c), val q (.slice A' n' c')] w fun e w' => e = .returned (.bool (twinB (q, l') (p, l))) ∧ Below w.heap.size w w' := by
  have EQ : ∀ W, Below w.heap.size w W → Calls Tryd.prog 73 #[.slice A n c, .slice A' n' c'] W fun e w' => e = .returned (.bool (decide (l = l'))) ∧ W = w' := fun W hW => equal_c A n c l _ A' n' c' l' _ W (h.below hW) (h'.below hW)
  by_cases o : p.off = q.off
  · cases m : p.mf <;> cases k : q.mf
    · have e : twinB (q, l') (p, l) = decide (l = l') := by simp [twinB, o, m, k, eq_comm]
      rw [e]
      unfold val
      rw [m, k]
      exact same_3f p q A A' n c n' c' w o _ EQ
    · have e : twinB (q, l') (p, l) = false := by simp [twinB, o, m, k]
      rw [e]
      unfold val
      rw [m, k]
      exact same_2f p q A A' n c n' c' w o
    · have e : twinB (q, l') (p, l) = false := by simp [twinB, o, m, k]
      rw [e]
      unfold val
      rw [m, k]
      exact same_2t p q A A' n c n' c' w o
    · have e : twinB (q, l') (p, l) = decide (l = l') := by simp [twinB, o, m, k, eq_comm]
      rw [e]
      unfold val
      rw [m, k]
      exact same_3t p q A A' n c n' c' w o _ EQ
  · have e : twinB (q, l') (p, l) = false := by
      unfold twinB
      rw [decide_eq_false fun z => o z.symm]
      rfl
    rw [e]
    exact same_1 p q A A' n c n' c' w o
theorem has1_c (p q : Pkt) (A A' : Option Addr) (n c n' c' : Nat) (g : Nat) (w : World) (u : Bool) (hg : Blk w g 32 #[.int .i64 p.tos, .int .i64 p.id, .int .i64 p.ttl, .int .i64 p.proto, .bool p.df, .bool p.mf, .int .i64 p.off, .string p.src, .string p.dst, .string p.opt, .slice A n c])
    (SC : ∀ W, Below w.heap.size w W → Calls Tryd.prog 62 #[val p (.slice A n c), val q (.slice A' n' c')] W fun e w' => e = .returned (.bool u) ∧ Below W.heap.size W w') :
    Calls Tryd.prog 61 #[val q (.slice A' n' c'), .pointer (some ⟨g, 0, none⟩)] w fun e w' => e = .returned (.bool u) ∧ Below w.heap.size w w' := by
  have B0 := Lib.hid ((Below.refl w.heap.size w).alloc (Nat.le_refl _) (.cells #[.int .i64 q.tos, .int .i64 q.id, .int .i64 q.ttl, .int .i64 q.proto, .bool q.df, .bool q.mf, .int .i64 q.off, .string q.src, .string q.dst, .string q.opt, .slice A' n' c'] 32))
  have K1 := Lib.hid (Blk.alloc hg (.cells #[.int .i64 q.tos, .int .i64 q.id, .int .i64 q.ttl, .int .i64 q.proto, .bool q.df, .bool q.mf, .int .i64 q.off, .string q.src, .string q.dst, .string q.opt, .slice A' n' c'] 32))
  have K2 := Lib.hid (Blk.new w 32 #[.int .i64 q.tos, .int .i64 q.id, .int .i64 q.ttl, .int .i64 q.proto, .bool q.df, .bool q.mf, .int .i64 q.off, .string q.src, .string q.dst, .string q.opt, .slice A' n' c'])
  have SC := Lib.hid SC
  unfold val at SC
  unfold val
  clear hg
  go_enter Tryd.func61, Tryd.ntmps61
  go_wp2_with (first | (refine Store.at_load 32 (.tmp 1) ?_ ?_; exact rfl; refine Loads.wpList_load_w rfl 32 (.tmp 1) rfl g rfl 32 #[.int .i64 p.tos, .int .i64 p.id, .int .i64 p.ttl, .int .i64 p.proto, .bool p.df, .bool p.mf, .int .i64 p.off, .string p.src, .string p.dst, .string p.opt, .slice A n c] (0, 0) _ (K1.out) Tryd.underlying32 rfl (by kernel_rfl) ?_) | (refine Store.at_load 32 (.tmp 2) ?_ ?_; exact rfl; refine Loads.wpList_load_w rfl 32 (.tmp 2) rfl w.heap.size rfl 32 #[.int .i64 q.tos, .int .i64 q.id, .int .i64 q.ttl, .int .i64 q.proto, .bool q.df, .bool q.mf, .int .i64 q.off, .string q.src, .string q.dst, .string q.opt, .slice A' n' c'] (0, 0) _ (K2.out) Tryd.underlying32 rfl (by kernel_rfl) ?_))
  refine (SC.out _ B0.out).mono ?_
  rintro e w2 ⟨rfl, hb⟩
  have B1 := Lib.hid (B0.out.trans (hb.mono B0.out.size))
  clear hb
  go_wp2_with fail
  go_ret
  exact ⟨rfl, B1.out⟩
theorem ref1_c (p q : Pkt) (A A' : Option Addr) (n c n' c' : Nat) (g : Nat) (w : World) (u : Bool) (hg : Blk w g 32 #[.int .i64 p.tos, .int .i64 p.id, .int .i64 p.ttl, .int .i64 p.proto, .bool p.df, .bool p.mf, .int .i64 p.off, .string p.src, .string p.dst, .string p.opt, .slice A n c])
    (SC : ∀ W, Below w.heap.size w W → Calls Tryd.prog 64 #[val p (.slice A n c), val q (.slice A' n' c')] W fun e w' => e = .returned (.bool u) ∧ Below W.heap.size W w') :
    Calls Tryd.prog 63 #[val q (.slice A' n' c'), .pointer (some ⟨g, 0, none⟩)] w fun e w' => e = .returned (.bool u) ∧ Below w.heap.size w w' := by
  have B0 := Lib.hid ((Below.refl w.heap.size w).alloc (Nat.le_refl _) (.cells #[.int .i64 q.tos, .int .i64 q.id, .int .i64 q.ttl, .int .i64 q.proto, .bool q.df, .bool q.mf, .int .i64 q.off, .string q.src, .string q.dst, .string q.opt, .slice A' n' c'] 32))
  have K1 := Lib.hid (Blk.alloc hg (.cells #[.int .i64 q.tos, .int .i64 q.id, .int .i64 q.ttl, .int .i64 q.proto, .bool q.df, .bool q.mf, .int .i64 q.off, .string q.src, .string q.dst, .string q.opt, .slice A' n' c'] 32))
  have K2 := Lib.hid (Blk.new w 32 #[.int .i64 q.tos, .int .i64 q.id, .int .i64 q.ttl, .int .i64 q.proto, .bool q.df, .bool q.mf, .int .i64 q.off, .string q.src, .string q.dst, .string q.opt, .slice A' n' c'])
  have SC := Lib.hid SC
  unfold val at SC
  unfold val
  clear hg
  go_enter Tryd.func63, Tryd.ntmps63
  go_wp2_with (first | (refine Store.at_load 32 (.tmp 1) ?_ ?_; exact rfl; refine Loads.wpList_load_w rfl 32 (.tmp 1) rfl g rfl 32 #[.int .i64 p.tos, .int .i64 p.id, .int .i64 p.ttl, .int .i64 p.proto, .bool p.df, .bool p.mf, .int .i64 p.off, .string p.src, .string p.dst, .string p.opt, .slice A n c] (0, 0) _ (K1.out) Tryd.underlying32 rfl (by kernel_rfl) ?_) | (refine Store.at_load 32 (.tmp 2) ?_ ?_; exact rfl; refine Loads.wpList_load_w rfl 32 (.tmp 2) rfl w.heap.size rfl 32 #[.int .i64 q.tos, .int .i64 q.id, .int .i64 q.ttl, .int .i64 q.proto, .bool q.df, .bool q.mf, .int .i64 q.off, .string q.src, .string q.dst, .string q.opt, .slice A' n' c'] (0, 0) _ (K2.out) Tryd.underlying32 rfl (by kernel_rfl) ?_))
  refine (SC.out _ B0.out).mono ?_
  rintro e w2 ⟨rfl, hb⟩
  have B1 := Lib.hid (B0.out.trans (hb.mono B0.out.size))
  clear hb
  go_wp2_with fail
  go_ret
  exact ⟨rfl, B1.out⟩
theorem compl_1 (p : Pkt) (Dv : Value) (w : World) (h : ¬ p.off = 0) : Calls Tryd.prog 25 #[.agg #[.int .i64 p.tos, .int .i64 p.id, .int .i64 p.ttl, .int .i64 p.proto, .bool p.df, .bool p.mf, .int .i64 p.off, .string p.src, .string p.dst, .string p.opt, Dv]] w fun e w' => e = .returned (.bool false) ∧ Below w.heap.size w w' := by
  have B0 := Lib.hid ((Below.refl w.heap.size w).alloc (Nat.le_refl _) (.cells #[.int .i64 p.tos, .int .i64 p.id, .int .i64 p.ttl, .int .i64 p.proto, .bool p.df, .bool p.mf, .int .i64 p.off, .string p.src, .string p.dst, .string p.opt, Dv] 32))
  have g : (p.off == 0) = false := by simpa using h
  clear h
  go_enter Tryd.func25, Tryd.ntmps25
  go_wp2_with fail
  go_ret
  exact ⟨rfl, B0.out⟩
theorem compl_2 (p : Pkt) (Dv : Value) (w : World) (h : p.off = 0) : Calls Tryd.prog 25 #[.agg #[.int .i64 p.tos, .int .i64 p.id, .int .i64 p.ttl, .int .i64 p.proto, .bool p.df, .bool false, .int .i64 p.off, .string p.src, .string p.dst, .string p.opt, Dv]] w fun e w' => e = .returned (.bool true) ∧ Below w.heap.size w w' := by
  have B0 := Lib.hid ((Below.refl w.heap.size w).alloc (Nat.le_refl _) (.cells #[.int .i64 p.tos, .int .i64 p.id, .int .i64 p.ttl, .int .i64 p.proto, .bool p.df, .bool false, .int .i64 p.off, .string p.src, .string p.dst, .string p.opt, Dv] 32))
  have g : (p.off == 0) = true := by simpa using h
  clear h
  go_enter Tryd.func25, Tryd.ntmps25
  go_wp2_with fail
  go_ret
  exact ⟨rfl, B0.out⟩
theorem compl_3 (p : Pkt) (Dv : Value) (w : World) (h : p.off = 0) : Calls Tryd.prog 25 #[.agg #[.int .i64 p.tos, .int .i64 p.id, .int .i64 p.ttl, .int .i64 p.proto, .bool p.df, .bool true, .int .i64 p.off, .string p.src, .string p.dst, .string p.opt, Dv]] w fun e w' => e = .returned (.bool false) ∧ Below w.heap.size w w' := by
  have B0 := Lib.hid ((Below.refl w.heap.size w).alloc (Nat.le_refl _) (.cells #[.int .i64 p.tos, .int .i64 p.id, .int .i64 p.ttl, .int .i64 p.proto, .bool p.df, .bool true, .int .i64 p.off, .string p.src, .string p.dst, .string p.opt, Dv] 32))
  have g : (p.off == 0) = true := by simpa using h
  clear h
  go_enter Tryd.func25, Tryd.ntmps25
  go_wp2_with fail
  go_ret
  exact ⟨rfl, B0.out⟩
theorem compl_c (p : Pkt) (Dv : Value) (w : World) : Calls Tryd.prog 25 #[val p Dv] w fun e w' => e = .returned (.bool (decide (p.off = 0 ∧ p.mf = false))) ∧ Below w.heap.size w w' := by
  by_cases o : p.off = 0
  · unfold val
    cases m : p.mf
    · rw [decide_eq_true ⟨o, rfl⟩]
      exact compl_2 p Dv w o
    · rw [decide_eq_false (fun z => by cases z.2)]
      exact compl_3 p Dv w o
  · rw [decide_eq_false (fun z => o z.1)]
    exact compl_1 p Dv w o
end Go.Proofs.YtnpggkpcadefjaaDoor.Jc2

/- The code's ownPacket: a packet with memory of its own. -/
set_option linter.unusedVariables false
set_option maxRecDepth 100000
namespace Go.Proofs.YtnpggkpcadefjaaDoor.JcP
open Go.RowKit Go.Proofs.YtnpggkpcadefjaaDoor.Sums Go.Proofs.YtnpggkpcadefjaaDoor.Mem Go.Proofs.YtnpggkpcadefjaaDoor.Blk Go.Proofs.YtnpggkpcadefjaaDoor.Pkt Go.Proofs.YtnpggkpcadefjaaDoor.Check Go.Proofs.YtnpggkpcadefjaaDoor.Free Go.Proofs.YtnpggkpcadefjaaDoor.Steps Go.Proofs.YtnpggkpcadefjaaDoor.Spl1

theorem set_same {cs : Array Value} {p : Nat} {u : Value} (hu : cs[p]? = some u) : cs.setIfInBounds p u = cs := by
  apply Array.ext (by simp)
  intro j hj hj'
  rw [Array.getElem_setIfInBounds]
  split
  · rename_i e
    subst e
    exact ((Array.getElem?_eq_some_iff.1 hu).2).symm
  · rfl
theorem same_one {w : World} {g p : Nat} {t ty : TypeId} {cs : Array Value} {u : Value} (h : Blk w g t cs) (hi : (Tryd.prog.info? ty).map (·.size) = some 1) (hu : cs[p]? = some u) (h1 : u.oneCell' = true) (hc : u.cells = #[u]) : (storeVar ty ⟨g, p, none⟩ u).run Tryd.prog w = .ok () w := by
  have hp : p < cs.size := (Array.getElem?_eq_some_iff.1 hu).1
  have := Store.run_store_one h hp hi h1 cs (set_same hu) hc
  rwa [setRow_self w g cs t (0, 0) h] at this
theorem st_same {o : Oper} {a : Act} {w : World} {K : Act → World → Prop} {Q : Exit → Act → World → Prop} (ty : TypeId) (x y : Operand) (ho : o.op = .store ty x y) (ad : Addr) (hx : a.eval x = .pointer (some ad)) (v : Value) (hy : a.eval y = v)
    (hr : (storeVar ty ad v).run Tryd.prog w = .ok () w) (hK : K (a.put o.dst undef) w) : Step Tryd.prog o a w K Q := by
  constructor
  unfold Oper.wp execOp
  simp only [ho, hx, hy, Instr.storeAt, Instr.sureAddr, Sem.run_bind, Sem.run_pure, Result.andThen_ok, hr]
  exact hK
/-- A store whose run is known. -/
theorem wpList_store_run {ops : Array Oper} {rest : List Oper} {o : Oper} {a : Act} {w w' : World} {Q : Exit → Act → World → Prop} (hgd : o.guard = none) (ty : TypeId) (x y : Operand) (ho : o.op = .store ty x y) (ad : Addr) (v : Value) (hx : a.eval x = .pointer (some ad)) (hy : a.eval y = v)
    (hr : (storeVar ty ad v).run Tryd.prog w = .ok () w') (h : wpList Tryd.prog ops Q rest (a.put o.dst undef) w') : wpList Tryd.prog ops Q (o :: rest) a w :=
  wpList_plain hgd fun _ hK => by
    unfold Oper.wp execOp
    simp only [ho, hx, hy, Instr.storeAt, Instr.sureAddr, Sem.run_bind, Sem.run_pure, Result.andThen_ok, hr]
    exact hK _ _ h
def pcA (p : Pkt) (D : Value) : Array Value := #[.int .i64 p.tos, .int .i64 p.id, .int .i64 p.ttl, .int .i64 p.proto, .bool p.df, .bool p.mf, .int .i64 p.off, .string p.src, .string p.dst, .string p.opt, D]
theorem oneP (p : Pkt) (A : Option Addr) (n c : Nat) : (pcA p (.slice A n c)).all (·.oneCell') = true := by simp [pcA, Value.oneCell']
structure Texts (p : Pkt) : Prop where
  s : p.src.size ≤ maxT
  d : p.dst.size ≤ maxT
  o : p.opt.size ≤ maxT
set_option maxHeartbeats 1000000 in
theorem own_any (p : Pkt) (A : Option Addr) (n c B : Nat) (l : List Int) (w : World) (h : Holds w B A n c l) (hB : B ≤ w.heap.size) (hn : n ≤ 1048576) (ht : Texts p) : Calls Tryd.prog 26 #[val p (.slice A n c)] w fun e w' => ∃ A' c', e = .returned (val p (.slice A' n c')) ∧ Owns w' w.heap.size (.slice A' n c') n l ∧ Below w.heap.size w w' := by
  have K0 := Lib.hid (Blk.alloc (Blk.new w 32 #[.int .i64 p.tos, .int .i64 p.id, .int .i64 p.ttl, .int .i64 p.proto, .bool p.df, .bool p.mf, .int .i64 p.off, .string p.src, .string p.dst, .string p.opt, .slice A n c]) (.cells #[.int .i64 0, .int .i64 0, .int .i64 0, .int .i64 0, .bool false, .bool false, .int .i64 0, .string ⟨#[]⟩, .string ⟨#[]⟩, .string ⟨#[]⟩, .slice none 0 0] 32))
  have J0 : Hid (Blk ((w.alloc (.cells #[.int .i64 p.tos, .int .i64 p.id, .int .i64 p.ttl, .int .i64 p.proto, .bool p.df, .bool p.mf, .int .i64 p.off, .string p.src, .string p.dst, .string p.opt, .slice A n c] 32)).alloc (.cells #[.int .i64 0, .int .i64 0, .int .i64 0, .int .i64 0, .bool false, .bool false, .int .i64 0, .string ⟨#[]⟩, .string ⟨#[]⟩, .string ⟨#[]⟩, .slice none 0 0] 32)) (w.heap.size + 1) 32 #[.int .i64 0, .int .i64 0, .int .i64 0, .int .i64 0, .bool false, .bool false, .int .i64 0, .string ⟨#[]⟩, .string ⟨#[]⟩, .string ⟨#[]⟩, .slice none 0 0]) := Lib.hid (by
    have := Blk.new (w.alloc (.cells #[.int .i64 p.tos, .int .i64 p.id, .int .i64 p.ttl, .int .i64 p.proto, .bool p.df, .bool p.mf, .int .i64 p.off, .string p.src, .string p.dst, .string p.opt, .slice A n c] 32)) 32 #[.int .i64 0, .int .i64 0, .int .i64 0, .int .i64 0, .bool false, .bool false, .int .i64 0, .string ⟨#[]⟩, .string ⟨#[]⟩, .string ⟨#[]⟩, .slice none 0 0]
    simpa using this)
  have B0 := Lib.hid (((Below.refl w.heap.size w).alloc (Nat.le_refl _) (.cells #[.int .i64 p.tos, .int .i64 p.id, .int .i64 p.ttl, .int .i64 p.proto, .bool p.df, .bool p.mf, .int .i64 p.off, .string p.src, .string p.dst, .string p.opt, .slice A n c] 32)).alloc (by simp) (.cells #[.int .i64 0, .int .i64 0, .int .i64 0, .int .i64 0, .bool false, .bool false, .int .i64 0, .string ⟨#[]⟩, .string ⟨#[]⟩, .string ⟨#[]⟩, .slice none 0 0] 32))
  have C1 := Lib.hid (fun W => clone_text p.src W ht.s)
  have C2 := Lib.hid (fun W => clone_text p.dst W ht.d)
  have C3 := Lib.hid (fun W => clone_text p.opt W ht.o)
  have HH := Lib.hid h
  have HB := Lib.hid hB
  have HN := Lib.hid hn
  clear ht h hB hn
  unfold val
  go_enter Tryd.func26, Tryd.ntmps26
  go_wp2_with fail
  generalize (w.alloc (.cells #[.int .i64 p.tos, .int .i64 p.id, .int .i64 p.ttl, .int .i64 p.proto, .bool p.df, .bool p.mf, .int .i64 p.off, .string p.src, .string p.dst, .string p.opt, .slice A n c] 32)).alloc (.cells #[.int .i64 0, .int .i64 0, .int .i64 0, .int .i64 0, .bool false, .bool false, .int .i64 0, .string ⟨#[]⟩, .string ⟨#[]⟩, .string ⟨#[]⟩, .slice none 0 0] 32) = w1 at *
  have X : Hid (∀ V, Below w1.drew.heap.size w1.drew V → Blk V w.heap.size 32 #[.int .i64 p.tos, .int .i64 p.id, .int .i64 p.ttl, .int .i64 p.proto, .bool p.df, .bool p.mf, .int .i64 p.off, .string p.src, .string p.dst, .string p.opt, .slice A n c]) := Lib.hid fun V hV => Blk.below (show Blk w1.drew w.heap.size 32 #[.int .i64 p.tos, .int .i64 p.id, .int .i64 p.ttl, .int .i64 p.proto, .bool p.df, .bool p.mf, .int .i64 p.off, .string p.src, .string p.dst, .string p.opt, .slice A n c] from K0.out) hV (Blk.lt K0.out)
  refine wp_region_free [0, 1, 2, 3, 4, 5, 6, 7, 8] 9 [] (fun w1 w2 => Below w1.heap.size w1 w2) (fun k' w' v => match k' with
    | 0 => v = .pointer (some ⟨w.heap.size, 7, none⟩)
    | 1 => v = .string p.src
    | 2 => v = .string p.src
    | 3 => v = .pointer (some ⟨w.heap.size, 8, none⟩)
    | 4 => v = .string p.dst
    | 5 => v = .string p.dst
    | 6 => v = .pointer (some ⟨w.heap.size, 7, none⟩)
    | 7 => True
    | _ => v = .pointer (some ⟨w.heap.size, 8, none⟩)) (by kernel_rfl) (by kernel_rfl) (Below.refl _ _) (fun _ _ _ h k => h.trans (k.mono h.size)) (fun k' w1 w2 v h => match k' with
    | 0 => fun x => x
    | 1 => fun x => x
    | 2 => fun x => x
    | 3 => fun x => x
    | 4 => fun x => x
    | 5 => fun x => x
    | 6 => fun x => x
    | 7 => fun _ => trivial
    | _ + 8 => fun x => x) (fun _ _ _ _ _ h => h) ?_ _ (by rfl) ?_
  · refine obs_cons (by rfl) (fun vals w' hgr hdep K hK => ?_) (obs_cons (by rfl) (fun vals w' hgr hdep K hK => ?_) (obs_cons (by rfl) (fun vals w' hgr hdep K hK => ?_) (obs_cons (by rfl) (fun vals w' hgr hdep K hK => ?_) (obs_cons (by rfl) (fun vals w' hgr hdep K hK => ?_) (obs_cons (by rfl) (fun vals w' hgr hdep K hK => ?_) (obs_cons (by rfl) (fun vals w' hgr hdep K hK => ?_) (obs_cons (by rfl) (fun vals w' hgr hdep K hK => ?_) (obs_cons (by rfl) (fun vals w' hgr hdep K hK => ?_) (obs_nil)))))))))
    · exact wp_field (.tmp 1) rfl _ _ (at_out _ (by kernel_rfl) rfl) (by kernel_rfl) (hK _ _ (Below.refl _ _) rfl)
    · exact wp_load1 (.tmp 3) rfl ⟨w.heap.size, 7, none⟩ ((at_dst 0 (by kernel_rfl)).trans (hdep 0 (by simp) (by kernel_rfl))) Tryd.underlying9 rfl _ ((X.out w' hgr).cell 7) (hK _ _ (Below.refl _ _) rfl)
    · exact wp_call 44 [.tmp 4] _ rfl ent_clone [.string p.src] (Draw.list1 ((at_dst 1 (by kernel_rfl)).trans (hdep 1 (by simp) (by kernel_rfl)))) (fun v w'' => v = .string p.src ∧ Below w'.heap.size w' w'') (((C1.out w')).mono fun e w'' ⟨h1, h2⟩ => ⟨_, h1, rfl, h2⟩) (fun v w'' ⟨h1, h2⟩ => hK _ _ h2 h1)
    · exact wp_field (.tmp 1) rfl _ _ (at_out _ (by kernel_rfl) rfl) (by kernel_rfl) (hK _ _ (Below.refl _ _) rfl)
    · exact wp_load1 (.tmp 6) rfl ⟨w.heap.size, 8, none⟩ ((at_dst 3 (by kernel_rfl)).trans (hdep 3 (by simp) (by kernel_rfl))) Tryd.underlying9 rfl _ ((X.out w' hgr).cell 8) (hK _ _ (Below.refl _ _) rfl)
    · exact wp_call 44 [.tmp 7] _ rfl ent_clone [.string p.dst] (Draw.list1 ((at_dst 4 (by kernel_rfl)).trans (hdep 4 (by simp) (by kernel_rfl)))) (fun v w'' => v = .string p.dst ∧ Below w'.heap.size w' w'') (((C2.out w')).mono fun e w'' ⟨h1, h2⟩ => ⟨_, h1, rfl, h2⟩) (fun v w'' ⟨h1, h2⟩ => hK _ _ h2 h1)
    · exact wp_field (.tmp 1) rfl _ _ (at_out _ (by kernel_rfl) rfl) (by kernel_rfl) (hK _ _ (Below.refl _ _) rfl)
    · exact st_same 9 (.tmp 9) (.tmp 5) rfl ⟨w.heap.size, 7, none⟩ ((at_dst 6 (by kernel_rfl)).trans (hdep 6 (by simp) (by kernel_rfl))) (.string p.src) ((at_dst 2 (by kernel_rfl)).trans (hdep 2 (by simp) (by kernel_rfl))) (same_one (X.out w' hgr) (by kernel_rfl) rfl rfl rfl) (hK _ _ (Below.refl _ _) trivial)
    · exact wp_field (.tmp 1) rfl _ _ (at_out _ (by kernel_rfl) rfl) (by kernel_rfl) (hK _ _ (Below.refl _ _) rfl)
  · intro vals w' hgr hG
    refine st_same 9 (.tmp 10) (.tmp 8) rfl ⟨w.heap.size, 8, none⟩ ((at_dst 8 (by kernel_rfl)).trans (hG 8 (by simp))) (.string p.dst) ((at_dst 5 (by kernel_rfl)).trans (hG 5 (by simp))) (same_one (X.out w' hgr) (by kernel_rfl) rfl rfl rfl) (wpAnyH_done (by kernel_rfl) ?_ _)
    have hU := hgr
    have K1 := Lib.hid (X.out _ hU)
    have J1 := Lib.hid (Blk.below (show Blk w1.drew (w.heap.size + 1) 32 #[.int .i64 0, .int .i64 0, .int .i64 0, .int .i64 0, .bool false, .bool false, .int .i64 0, .string ⟨#[]⟩, .string ⟨#[]⟩, .string ⟨#[]⟩, .slice none 0 0] from J0.out) hU (Blk.lt J0.out))
    have B1 := Lib.hid (B0.out.trans ((Draw.below_1 hU).mono B0.out.size))
    clear hU hG hgr X K0 J0 B0 C1 C2
    simp only [fill, dstAt, List.getElem?_cons_zero, List.getElem?_cons_succ, Option.bind_some, Act.put, List.setIfInBounds_toArray, List.set_cons_zero, List.set_cons_succ]
    generalize vals 0 = y0, vals 1 = y1, vals 2 = y2, vals 3 = y3, vals 4 = y4, vals 5 = y5, vals 6 = y6, vals 7 = y7, vals 8 = y8 at *
    generalize w' = w2 at *
    have c9 : w2.cell? ⟨w.heap.size, 9, none⟩ = some (.string p.opt) := K1.out.cell 9
    go_wp2_with fail
    refine (C3.out _).mono ?_
    rintro e w3 ⟨rfl, hb⟩
    have K3 := Lib.hid (Blk.below K1.out hb (Blk.lt K1.out))
    have J3 := Lib.hid (Blk.below J1.out hb (Blk.lt J1.out))
    have B3 := Lib.hid (B1.out.trans (hb.mono B1.out.size))
    clear hb K1 J1 B1 C3 c9
    have c10 : w3.cell? ⟨w.heap.size, 10, none⟩ = some (.slice A n c) := K3.out.cell 10
    have C4 := Lib.hid (clone_all A n c l w3 B (HH.out.below (B3.out.mono HB.out)) (Nat.le_trans HB.out B3.out.size) HN.out)
    go_wp2_with (refine wpList_store_run rfl 9 (.tmp 14) (.tmp 13) rfl ⟨w.heap.size, 9, none⟩ (.string p.opt) rfl rfl (same_one K3.out (by kernel_rfl) rfl rfl rfl) ?_)
    refine C4.out.mono ?_
    rintro e w4 ⟨A', c', rfl, ho, hb⟩
    have O4 := Lib.hid ho
    have K4 := Lib.hid (Blk.below K3.out hb (Blk.lt K3.out))
    have J4 := Lib.hid (Blk.below J3.out hb (Blk.lt J3.out))
    have B4 := Lib.hid (B3.out.trans (hb.mono B3.out.size))
    have S3 := Lib.hid (show w.heap.size + 1 < w3.heap.size from Blk.lt J3.out)
    clear ho hb K3 J3 B3 C4 c10
    have R := Lib.hid (setRow_heap w4 w.heap.size _ (pcA p (.slice A' n c')) _ _ K4.out)
    have J5 := Lib.hid (show Blk (w4.setRow w.heap.size (pcA p (.slice A' n c'))) (w.heap.size + 1) 32 #[.int .i64 0, .int .i64 0, .int .i64 0, .int .i64 0, .bool false, .bool false, .int .i64 0, .string ⟨#[]⟩, .string ⟨#[]⟩, .string ⟨#[]⟩, .slice none 0 0] from (setRow_other w4 w.heap.size (w.heap.size + 1) _ (by omega)).trans J4.out)
    have K5 := Lib.hid (show Blk (w4.setRow w.heap.size (pcA p (.slice A' n c'))) w.heap.size 32 (pcA p (.slice A' n c')) from R.out)
    have B5 := Lib.hid (Com.setRow_bel B4.out (Nat.le_refl _) (pcA p (.slice A' n c')))
    have one := Lib.hid (oneP p A' n c')
    have O5 := Lib.hid (show Owns (w4.setRow w.heap.size (pcA p (.slice A' n c'))) w.heap.size (.slice A' n c') n l from by
      refine ⟨O4.out.1, O4.out.2.1, O4.out.2.2.imp id ?_⟩
      rintro ⟨g, cap, cur, fz, e, hg, hh, r⟩
      have := S3.out
      exact ⟨g, cap, cur, fz, e, by omega, (setRow_other w4 w.heap.size g _ (by omega)).trans hh, r⟩)
    clear O4 B4 R
    go_wp2_with (first | (refine Store.at_store 30 (.tmp 18) (.tmp 17) ?_ ?_; exact rfl; refine wpList_store_run rfl 30 (.tmp 18) (.tmp 17) rfl ⟨w.heap.size, 10, none⟩ (.slice A' n c') rfl rfl (Store.run_store_one K4.out (by simp) (by kernel_rfl) rfl (pcA p (.slice A' n c')) rfl rfl) ?_) | (refine Store.at_load 32 (.tmp 1) ?_ ?_; exact rfl; refine Loads.wpList_load_w rfl 32 (.tmp 1) rfl w.heap.size rfl 32 (pcA p (.slice A' n c')) (0, 0) _ (K5.out) Tryd.underlying32 rfl (by kernel_rfl) ?_) | (refine wpList_store_row rfl 32 (.tmp 2) (.tmp 19) rfl (w.heap.size + 1) (pcA p (.slice A' n c')) rfl rfl 32 _ J5.out (by kernel_rfl) rfl one.out ?_))
    exact bodyPost_ret (results_cell_row rfl _ _ (w.heap.size + 1) 32 (pcA p (.slice A' n c')) (0, 0) _ rfl (setRow_heap _ _ _ _ _ _ J5.out) Tryd.underlying32 rfl (by kernel_rfl)) rfl ⟨A', c', rfl, by
      refine ⟨O5.out.1, O5.out.2.1, O5.out.2.2.imp id ?_⟩
      rintro ⟨g, cap, cur, fz, e, hg, hh, r⟩
      refine ⟨g, cap, cur, fz, e, hg, (setRow_other _ (w.heap.size + 1) g _ ?_).trans hh, r⟩
      intro q
      subst q
      have := hh.symm.trans J5.out
      simp at this, Com.setRow_bel B5.out (by omega) _⟩
end Go.Proofs.YtnpggkpcadefjaaDoor.JcP

/- The code's check, late, ownName, ownPiece. -/
set_option linter.unusedVariables false
set_option maxRecDepth 100000
namespace Go.Proofs.YtnpggkpcadefjaaDoor.Jc3
open Go.RowKit Go.Proofs.YtnpggkpcadefjaaDoor.Sums Go.Proofs.YtnpggkpcadefjaaDoor.Mem Go.Proofs.YtnpggkpcadefjaaDoor.Blk Go.Proofs.YtnpggkpcadefjaaDoor.Pkt Go.Proofs.YtnpggkpcadefjaaDoor.Check Go.Proofs.YtnpggkpcadefjaaDoor.JoiM Go.Proofs.YtnpggkpcadefjaaDoor.JoiC Go.Proofs.YtnpggkpcadefjaaDoor.MapL Go.Proofs.YtnpggkpcadefjaaDoor.Jc1 Go.Proofs.YtnpggkpcadefjaaDoor.Jc2 Go.Proofs.YtnpggkpcadefjaaDoor.Free Go.Proofs.YtnpggkpcadefjaaDoor.Steps Go.Proofs.YtnpggkpcadefjaaDoor.Spl1 Go.Proofs.YtnpggkpcadefjaaDoor.JcP Go.Proofs.YtnpggkpcadefjaaDoor.Errno

set_option maxHeartbeats 1000000 in
theorem check_1 (p : Pkt) (A : Option Addr) (n c : Nat) (w : World) (hn : n ≤ 1048576) (k : Int) (CK : ∀ W, Below w.heap.size w W → Calls Tryd.prog 36 #[val p (.slice A n c)] W fun e w' => e = .returned (.int .i64 k) ∧ Below W.heap.size W w') (hk : k ≠ 0) :
    Calls Tryd.prog 24 #[.agg #[.int .i64 p.tos, .int .i64 p.id, .int .i64 p.ttl, .int .i64 p.proto, .bool p.df, .bool p.mf, .int .i64 p.off, .string p.src, .string p.dst, .string p.opt, .slice A n c]] w fun e w' => e = .returned (.int .i64 k) ∧ Below w.heap.size w w' := by
  have B0 := Lib.hid ((Below.refl w.heap.size w).alloc (Nat.le_refl _) (.cells #[.int .i64 p.tos, .int .i64 p.id, .int .i64 p.ttl, .int .i64 p.proto, .bool p.df, .bool p.mf, .int .i64 p.off, .string p.src, .string p.dst, .string p.opt, .slice A n c] 32))
  have K0 := Lib.hid (Blk.new w 32 #[.int .i64 p.tos, .int .i64 p.id, .int .i64 p.ttl, .int .i64 p.proto, .bool p.df, .bool p.mf, .int .i64 p.off, .string p.src, .string p.dst, .string p.opt, .slice A n c])
  have CK := Lib.hid CK
  unfold val at CK
  have g : (k != 0) = true := by simpa using hk
  clear hk
  go_enter Tryd.func24, Tryd.ntmps24
  go_wp2_with (refine Store.at_load 32 (.tmp 1) ?_ ?_; exact rfl; refine Loads.wpList_load_w rfl 32 (.tmp 1) rfl w.heap.size rfl 32 #[.int .i64 p.tos, .int .i64 p.id, .int .i64 p.ttl, .int .i64 p.proto, .bool p.df, .bool p.mf, .int .i64 p.off, .string p.src, .string p.dst, .string p.opt, .slice A n c] (0, 0) _ (K0.out) Tryd.underlying32 rfl (by kernel_rfl) ?_)
  refine (CK.out _ B0.out).mono ?_
  rintro e w1 ⟨rfl, hb⟩
  have B1 := Lib.hid (B0.out.trans (hb.mono B0.out.size))
  have K1 := Lib.hid (K0.out.below hb K0.out.lt)
  clear hb CK
  go_wp2_with fail
  go_ret
  exact ⟨rfl, B1.out⟩
set_option maxHeartbeats 1000000 in
theorem check_2 (p : Pkt) (A : Option Addr) (n c : Nat) (w : World) (hn : n ≤ 1048576) (CK : ∀ W, Below w.heap.size w W → Calls Tryd.prog 36 #[val p (.slice A n c)] W fun e w' => e = .returned (.int .i64 0) ∧ Below W.heap.size W w') (hm : p.mf = true) (h : n = 0) :
    Calls Tryd.prog 24 #[.agg #[.int .i64 p.tos, .int .i64 p.id, .int .i64 p.ttl, .int .i64 p.proto, .bool p.df, .bool true, .int .i64 p.off, .string p.src, .string p.dst, .string p.opt, .slice A n c]] w fun e w' => e = .returned (.int .i64 4) ∧ Below w.heap.size w w' := by
  have B0 := Lib.hid ((Below.refl w.heap.size w).alloc (Nat.le_refl _) (.cells #[.int .i64 p.tos, .int .i64 p.id, .int .i64 p.ttl, .int .i64 p.proto, .bool p.df, .bool true, .int .i64 p.off, .string p.src, .string p.dst, .string p.opt, .slice A n c] 32))
  have K0 := Lib.hid (Blk.new w 32 #[.int .i64 p.tos, .int .i64 p.id, .int .i64 p.ttl, .int .i64 p.proto, .bool p.df, .bool true, .int .i64 p.off, .string p.src, .string p.dst, .string p.opt, .slice A n c])
  have CK := Lib.hid CK
  unfold val at CK
  subst h
  have g1 : ((0 : Int) == 0) = true := rfl
  rw [hm] at CK
  go_enter Tryd.func24, Tryd.ntmps24
  go_wp2_with (refine Store.at_load 32 (.tmp 1) ?_ ?_; exact rfl; refine Loads.wpList_load_w rfl 32 (.tmp 1) rfl w.heap.size rfl 32 #[.int .i64 p.tos, .int .i64 p.id, .int .i64 p.ttl, .int .i64 p.proto, .bool p.df, .bool true, .int .i64 p.off, .string p.src, .string p.dst, .string p.opt, .slice A n c] (0, 0) _ (K0.out) Tryd.underlying32 rfl (by kernel_rfl) ?_)
  refine (CK.out _ B0.out).mono ?_
  rintro e w1 ⟨rfl, hb⟩
  have B1 := Lib.hid (B0.out.trans (hb.mono B0.out.size))
  have K1 := Lib.hid (K0.out.below hb K0.out.lt)
  clear hb CK
  have c5 := K1.out.cell 5
  have c10 := K1.out.cell 10
  go_wp2_with (refine Store.at_load 32 (.tmp 1) ?_ ?_; exact rfl; refine Loads.wpList_load_w rfl 32 (.tmp 1) rfl w.heap.size rfl 32 #[.int .i64 p.tos, .int .i64 p.id, .int .i64 p.ttl, .int .i64 p.proto, .bool p.df, .bool true, .int .i64 p.off, .string p.src, .string p.dst, .string p.opt, .slice A n c] (0, 0) _ (K1.out) Tryd.underlying32 rfl (by kernel_rfl) ?_)
  go_ret
  exact ⟨rfl, B1.out⟩
set_option maxHeartbeats 1000000 in
theorem check_3 (p : Pkt) (A : Option Addr) (n c : Nat) (w : World) (hn : n ≤ 1048576) (CK : ∀ W, Below w.heap.size w W → Calls Tryd.prog 36 #[val p (.slice A n c)] W fun e w' => e = .returned (.int .i64 0) ∧ Below W.heap.size W w') (hm : p.mf = true) (h : ¬ n = 0) (h8 : n % 8 ≠ 0) :
    Calls Tryd.prog 24 #[.agg #[.int .i64 p.tos, .int .i64 p.id, .int .i64 p.ttl, .int .i64 p.proto, .bool p.df, .bool true, .int .i64 p.off, .string p.src, .string p.dst, .string p.opt, .slice A n c]] w fun e w' => e = .returned (.int .i64 4) ∧ Below w.heap.size w w' := by
  have B0 := Lib.hid ((Below.refl w.heap.size w).alloc (Nat.le_refl _) (.cells #[.int .i64 p.tos, .int .i64 p.id, .int .i64 p.ttl, .int .i64 p.proto, .bool p.df, .bool true, .int .i64 p.off, .string p.src, .string p.dst, .string p.opt, .slice A n c] 32))
  have K0 := Lib.hid (Blk.new w 32 #[.int .i64 p.tos, .int .i64 p.id, .int .i64 p.ttl, .int .i64 p.proto, .bool p.df, .bool true, .int .i64 p.off, .string p.src, .string p.dst, .string p.opt, .slice A n c])
  have CK := Lib.hid CK
  unfold val at CK
  have g1 : ((n : Int) == 0) = false := by simp [h]
  have g2 : (n == 0) = false := by simp [h]
  have r : ((n : Int)).tmod 8 = (n : Int) % 8 := Int.tmod_eq_emod_of_nonneg (by omega)
  have g3 : (((n : Int)).tmod 8 != 0) = true := by
    rw [r]
    simp
    omega
  have g4 : ((n : Int) % 8 != 0) = true := by
    rw [← r]
    exact g3
  clear h h8 r
  rw [hm] at CK
  go_enter Tryd.func24, Tryd.ntmps24
  go_wp2_with (refine Store.at_load 32 (.tmp 1) ?_ ?_; exact rfl; refine Loads.wpList_load_w rfl 32 (.tmp 1) rfl w.heap.size rfl 32 #[.int .i64 p.tos, .int .i64 p.id, .int .i64 p.ttl, .int .i64 p.proto, .bool p.df, .bool true, .int .i64 p.off, .string p.src, .string p.dst, .string p.opt, .slice A n c] (0, 0) _ (K0.out) Tryd.underlying32 rfl (by kernel_rfl) ?_)
  refine (CK.out _ B0.out).mono ?_
  rintro e w1 ⟨rfl, hb⟩
  have B1 := Lib.hid (B0.out.trans (hb.mono B0.out.size))
  have K1 := Lib.hid (K0.out.below hb K0.out.lt)
  clear hb CK
  have c5 := K1.out.cell 5
  have c10 := K1.out.cell 10
  go_wp2_with (refine Store.at_load 32 (.tmp 1) ?_ ?_; exact rfl; refine Loads.wpList_load_w rfl 32 (.tmp 1) rfl w.heap.size rfl 32 #[.int .i64 p.tos, .int .i64 p.id, .int .i64 p.ttl, .int .i64 p.proto, .bool p.df, .bool true, .int .i64 p.off, .string p.src, .string p.dst, .string p.opt, .slice A n c] (0, 0) _ (K1.out) Tryd.underlying32 rfl (by kernel_rfl) ?_)
  go_ret
  exact ⟨rfl, B1.out⟩
set_option maxHeartbeats 1000000 in
theorem check_4t (p : Pkt) (A : Option Addr) (n c : Nat) (w : World) (hn : n ≤ 1048576) (CK : ∀ W, Below w.heap.size w W → Calls Tryd.prog 36 #[val p (.slice A n c)] W fun e w' => e = .returned (.int .i64 0) ∧ Below W.heap.size W w') (f0 : -1099511627776 ≤ p.off) (f1 : p.off ≤ 1099511627776) (hm : p.mf = true) (h : ¬ n = 0) (h8 : ¬ n % 8 ≠ 0) (he : 65515 < p.off + (n : Int)) :
    Calls Tryd.prog 24 #[.agg #[.int .i64 p.tos, .int .i64 p.id, .int .i64 p.ttl, .int .i64 p.proto, .bool p.df, .bool true, .int .i64 p.off, .string p.src, .string p.dst, .string p.opt, .slice A n c]] w fun e w' => e = .returned (.int .i64 2) ∧ Below w.heap.size w w' := by
  have B0 := Lib.hid ((Below.refl w.heap.size w).alloc (Nat.le_refl _) (.cells #[.int .i64 p.tos, .int .i64 p.id, .int .i64 p.ttl, .int .i64 p.proto, .bool p.df, .bool true, .int .i64 p.off, .string p.src, .string p.dst, .string p.opt, .slice A n c] 32))
  have K0 := Lib.hid (Blk.new w 32 #[.int .i64 p.tos, .int .i64 p.id, .int .i64 p.ttl, .int .i64 p.proto, .bool p.df, .bool true, .int .i64 p.off, .string p.src, .string p.dst, .string p.opt, .slice A n c])
  have EC := Lib.hid (fun W => end_c p A n c W f0 f1 (by omega))
  have CK := Lib.hid CK
  unfold val at CK EC
  have g1 : ((n : Int) == 0) = false := by simp [h]
  have g2 : (n == 0) = false := by simp [h]
  have r : ((n : Int)).tmod 8 = (n : Int) % 8 := Int.tmod_eq_emod_of_nonneg (by omega)
  have g3 : (((n : Int)).tmod 8 != 0) = false := by
    rw [r]
    simp
    omega
  have g4 : ((n : Int) % 8 != 0) = false := by
    rw [← r]
    exact g3
  clear h h8 r
  have ge : decide ((65515 : Int) < p.off + (n : Int)) = true := decide_eq_true he
  clear he
  rw [hm] at CK EC
  go_enter Tryd.func24, Tryd.ntmps24
  go_wp2_with (refine Store.at_load 32 (.tmp 1) ?_ ?_; exact rfl; refine Loads.wpList_load_w rfl 32 (.tmp 1) rfl w.heap.size rfl 32 #[.int .i64 p.tos, .int .i64 p.id, .int .i64 p.ttl, .int .i64 p.proto, .bool p.df, .bool true, .int .i64 p.off, .string p.src, .string p.dst, .string p.opt, .slice A n c] (0, 0) _ (K0.out) Tryd.underlying32 rfl (by kernel_rfl) ?_)
  refine (CK.out _ B0.out).mono ?_
  rintro e w1 ⟨rfl, hb⟩
  have B1 := Lib.hid (B0.out.trans (hb.mono B0.out.size))
  have K1 := Lib.hid (K0.out.below hb K0.out.lt)
  clear hb CK
  have c5 := K1.out.cell 5
  have c10 := K1.out.cell 10
  go_wp2_with (refine Store.at_load 32 (.tmp 1) ?_ ?_; exact rfl; refine Loads.wpList_load_w rfl 32 (.tmp 1) rfl w.heap.size rfl 32 #[.int .i64 p.tos, .int .i64 p.id, .int .i64 p.ttl, .int .i64 p.proto, .bool p.df, .bool true, .int .i64 p.off, .string p.src, .string p.dst, .string p.opt, .slice A n c] (0, 0) _ (K1.out) Tryd.underlying32 rfl (by kernel_rfl) ?_)
  refine (EC.out _).mono ?_
  rintro e w2 ⟨rfl, hb⟩
  have B2 := Lib.hid (B1.out.trans (hb.mono B1.out.size))
  clear hb EC c5 c10
  go_wp2_with fail
  go_ret
  exact ⟨rfl, B2.out⟩
section
attribute [local irreducible] wpList
set_option maxHeartbeats 1000000 in
theorem check_5t (p : Pkt) (A : Option Addr) (n c : Nat) (w : World) (hn : n ≤ 1048576) (CK : ∀ W, Below w.heap.size w W → Calls Tryd.prog 36 #[val p (.slice A n c)] W fun e w' => e = .returned (.int .i64 0) ∧ Below W.heap.size W w') (f0 : -1099511627776 ≤ p.off) (f1 : p.off ≤ 1099511627776) (hm : p.mf = false) (he : 65515 < p.off + (n : Int)) :
    Calls Tryd.prog 24 #[.agg #[.int .i64 p.tos, .int .i64 p.id, .int .i64 p.ttl, .int .i64 p.proto, .bool p.df, .bool false, .int .i64 p.off, .string p.src, .string p.dst, .string p.opt, .slice A n c]] w fun e w' => e = .returned (.int .i64 2) ∧ Below w.heap.size w w' := by
  have B0 := Lib.hid ((Below.refl w.heap.size w).alloc (Nat.le_refl _) (.cells #[.int .i64 p.tos, .int .i64 p.id, .int .i64 p.ttl, .int .i64 p.proto, .bool p.df, .bool false, .int .i64 p.off, .string p.src, .string p.dst, .string p.opt, .slice A n c] 32))
  have K0 := Lib.hid (Blk.new w 32 #[.int .i64 p.tos, .int .i64 p.id, .int .i64 p.ttl, .int .i64 p.proto, .bool p.df, .bool false, .int .i64 p.off, .string p.src, .string p.dst, .string p.opt, .slice A n c])
  have EC := Lib.hid (fun W => end_c p A n c W f0 f1 (by omega))
  have CK := Lib.hid CK
  unfold val at CK EC
  have ge : decide ((65515 : Int) < p.off + (n : Int)) = true := decide_eq_true he
  clear he
  rw [hm] at CK EC
  go_enter Tryd.func24, Tryd.ntmps24
  go_wp2_with (refine Store.at_load 32 (.tmp 1) ?_ ?_; exact rfl; refine Loads.wpList_load_w rfl 32 (.tmp 1) rfl w.heap.size rfl 32 #[.int .i64 p.tos, .int .i64 p.id, .int .i64 p.ttl, .int .i64 p.proto, .bool p.df, .bool false, .int .i64 p.off, .string p.src, .string p.dst, .string p.opt, .slice A n c] (0, 0) _ (K0.out) Tryd.underlying32 rfl (by kernel_rfl) ?_)
  refine (CK.out _ B0.out).mono ?_
  rintro e w1 ⟨rfl, hb⟩
  have B1 := Lib.hid (B0.out.trans (hb.mono B0.out.size))
  have K1 := Lib.hid (K0.out.below hb K0.out.lt)
  clear hb CK
  have c5 := K1.out.cell 5
  have c10 := K1.out.cell 10
  go_wp2_with (refine Store.at_load 32 (.tmp 1) ?_ ?_; exact rfl; refine Loads.wpList_load_w rfl 32 (.tmp 1) rfl w.heap.size rfl 32 #[.int .i64 p.tos, .int .i64 p.id, .int .i64 p.ttl, .int .i64 p.proto, .bool p.df, .bool false, .int .i64 p.off, .string p.src, .string p.dst, .string p.opt, .slice A n c] (0, 0) _ (K1.out) Tryd.underlying32 rfl (by kernel_rfl) ?_)
  refine (EC.out _).mono ?_
  rintro e w2 ⟨rfl, hb⟩
  have B2 := Lib.hid (B1.out.trans (hb.mono B1.out.size))
  clear hb EC c5 c10
  go_wp2_with fail
  go_ret
  exact ⟨rfl, B2.out⟩
end
set_option maxHeartbeats 1000000 in
theorem check_4f (p : Pkt) (A : Option Addr) (n c : Nat) (w : World) (hn : n ≤ 1048576) (CK : ∀ W, Below w.heap.size w W → Calls Tryd.prog 36 #[val p (.slice A n c)] W fun e w' => e = .returned (.int .i64 0) ∧ Below W.heap.size W w') (f0 : -1099511627776 ≤ p.off) (f1 : p.off ≤ 1099511627776) (hm : p.mf = true) (h : ¬ n = 0) (h8 : ¬ n % 8 ≠ 0) (he : ¬ 65515 < p.off + (n : Int)) :
    Calls Tryd.prog 24 #[.agg #[.int .i64 p.tos, .int .i64 p.id, .int .i64 p.ttl, .int .i64 p.proto, .bool p.df, .bool true, .int .i64 p.off, .string p.src, .string p.dst, .string p.opt, .slice A n c]] w fun e w' => e = .returned (.int .i64 0) ∧ Below w.heap.size w w' := by
  have B0 := Lib.hid ((Below.refl w.heap.size w).alloc (Nat.le_refl _) (.cells #[.int .i64 p.tos, .int .i64 p.id, .int .i64 p.ttl, .int .i64 p.proto, .bool p.df, .bool true, .int .i64 p.off, .string p.src, .string p.dst, .string p.opt, .slice A n c] 32))
  have K0 := Lib.hid (Blk.new w 32 #[.int .i64 p.tos, .int .i64 p.id, .int .i64 p.ttl, .int .i64 p.proto, .bool p.df, .bool true, .int .i64 p.off, .string p.src, .string p.dst, .string p.opt, .slice A n c])
  have EC := Lib.hid (fun W => end_c p A n c W f0 f1 (by omega))
  have CK := Lib.hid CK
  unfold val at CK EC
  have g1 : ((n : Int) == 0) = false := by simp [h]
  have g2 : (n == 0) = false := by simp [h]
  have r : ((n : Int)).tmod 8 = (n : Int) % 8 := Int.tmod_eq_emod_of_nonneg (by omega)
  have g3 : (((n : Int)).tmod 8 != 0) = false := by
    rw [r]
    simp
    omega
  have g4 : ((n : Int) % 8 != 0) = false := by
    rw [← r]
    exact g3
  clear h h8 r
  have ge : decide ((65515 : Int) < p.off + (n : Int)) = false := decide_eq_false he
  clear he
  rw [hm] at CK EC
  go_enter Tryd.func24, Tryd.ntmps24
  go_wp2_with (refine Store.at_load 32 (.tmp 1) ?_ ?_; exact rfl; refine Loads.wpList_load_w rfl 32 (.tmp 1) rfl w.heap.size rfl 32 #[.int .i64 p.tos, .int .i64 p.id, .int .i64 p.ttl, .int .i64 p.proto, .bool p.df, .bool true, .int .i64 p.off, .string p.src, .string p.dst, .string p.opt, .slice A n c] (0, 0) _ (K0.out) Tryd.underlying32 rfl (by kernel_rfl) ?_)
  refine (CK.out _ B0.out).mono ?_
  rintro e w1 ⟨rfl, hb⟩
  have B1 := Lib.hid (B0.out.trans (hb.mono B0.out.size))
  have K1 := Lib.hid (K0.out.below hb K0.out.lt)
  clear hb CK
  have c5 := K1.out.cell 5
  have c10 := K1.out.cell 10
  go_wp2_with (refine Store.at_load 32 (.tmp 1) ?_ ?_; exact rfl; refine Loads.wpList_load_w rfl 32 (.tmp 1) rfl w.heap.size rfl 32 #[.int .i64 p.tos, .int .i64 p.id, .int .i64 p.ttl, .int .i64 p.proto, .bool p.df, .bool true, .int .i64 p.off, .string p.src, .string p.dst, .string p.opt, .slice A n c] (0, 0) _ (K1.out) Tryd.underlying32 rfl (by kernel_rfl) ?_)
  refine (EC.out _).mono ?_
  rintro e w2 ⟨rfl, hb⟩
  have B2 := Lib.hid (B1.out.trans (hb.mono B1.out.size))
  clear hb EC c5 c10
  go_wp2_with fail
  go_ret
  exact ⟨rfl, B2.out⟩
section
attribute [local irreducible] wpList
set_option maxHeartbeats 1000000 in
theorem check_5f (p : Pkt) (A : Option Addr) (n c : Nat) (w : World) (hn : n ≤ 1048576) (CK : ∀ W, Below w.heap.size w W → Calls Tryd.prog 36 #[val p (.slice A n c)] W fun e w' => e = .returned (.int .i64 0) ∧ Below W.heap.size W w') (f0 : -1099511627776 ≤ p.off) (f1 : p.off ≤ 1099511627776) (hm : p.mf = false) (he : ¬ 65515 < p.off + (n : Int)) :
    Calls Tryd.prog 24 #[.agg #[.int .i64 p.tos, .int .i64 p.id, .int .i64 p.ttl, .int .i64 p.proto, .bool p.df, .bool false, .int .i64 p.off, .string p.src, .string p.dst, .string p.opt, .slice A n c]] w fun e w' => e = .returned (.int .i64 0) ∧ Below w.heap.size w w' := by
  have B0 := Lib.hid ((Below.refl w.heap.size w).alloc (Nat.le_refl _) (.cells #[.int .i64 p.tos, .int .i64 p.id, .int .i64 p.ttl, .int .i64 p.proto, .bool p.df, .bool false, .int .i64 p.off, .string p.src, .string p.dst, .string p.opt, .slice A n c] 32))
  have K0 := Lib.hid (Blk.new w 32 #[.int .i64 p.tos, .int .i64 p.id, .int .i64 p.ttl, .int .i64 p.proto, .bool p.df, .bool false, .int .i64 p.off, .string p.src, .string p.dst, .string p.opt, .slice A n c])
  have EC := Lib.hid (fun W => end_c p A n c W f0 f1 (by omega))
  have CK := Lib.hid CK
  unfold val at CK EC
  have ge : decide ((65515 : Int) < p.off + (n : Int)) = false := decide_eq_false he
  clear he
  rw [hm] at CK EC
  go_enter Tryd.func24, Tryd.ntmps24
  go_wp2_with (refine Store.at_load 32 (.tmp 1) ?_ ?_; exact rfl; refine Loads.wpList_load_w rfl 32 (.tmp 1) rfl w.heap.size rfl 32 #[.int .i64 p.tos, .int .i64 p.id, .int .i64 p.ttl, .int .i64 p.proto, .bool p.df, .bool false, .int .i64 p.off, .string p.src, .string p.dst, .string p.opt, .slice A n c] (0, 0) _ (K0.out) Tryd.underlying32 rfl (by kernel_rfl) ?_)
  refine (CK.out _ B0.out).mono ?_
  rintro e w1 ⟨rfl, hb⟩
  have B1 := Lib.hid (B0.out.trans (hb.mono B0.out.size))
  have K1 := Lib.hid (K0.out.below hb K0.out.lt)
  clear hb CK
  have c5 := K1.out.cell 5
  have c10 := K1.out.cell 10
  go_wp2_with (refine Store.at_load 32 (.tmp 1) ?_ ?_; exact rfl; refine Loads.wpList_load_w rfl 32 (.tmp 1) rfl w.heap.size rfl 32 #[.int .i64 p.tos, .int .i64 p.id, .int .i64 p.ttl, .int .i64 p.proto, .bool p.df, .bool false, .int .i64 p.off, .string p.src, .string p.dst, .string p.opt, .slice A n c] (0, 0) _ (K1.out) Tryd.underlying32 rfl (by kernel_rfl) ?_)
  refine (EC.out _).mono ?_
  rintro e w2 ⟨rfl, hb⟩
  have B2 := Lib.hid (B1.out.trans (hb.mono B1.out.size))
  clear hb EC c5 c10
  go_wp2_with fail
  go_ret
  exact ⟨rfl, B2.out⟩
end
def chkC (p : Pkt) (n : Nat) : Int := if p.chk n ≠ 0 then p.chk n else if p.mf = true ∧ (n = 0 ∨ n % 8 ≠ 0) then 4 else if 65515 < p.off + (n : Int) then 2 else 0
theorem check_c (p : Pkt) (A : Option Addr) (n c : Nat) (w : World) (hg : Handle w) (hz : p.opt.size ≤ 1048576) (hn : n ≤ 1048576) : Calls Tryd.prog 24 #[val p (.slice A n c)] w fun e w' => e = .returned (.int .i64 (chkC p n)) ∧ Below w.heap.size w w' := by
  have CK : ∀ W, Below w.heap.size w W → Calls Tryd.prog 36 #[val p (.slice A n c)] W fun e w' => e = .returned (.int .i64 (p.chk n)) ∧ Below W.heap.size W w' := fun W hW => check_code p A n c W (hg.keep hW) hz hn
  unfold chkC
  by_cases k : p.chk n ≠ 0
  · rw [if_pos k]
    exact check_1 p A n c w hn _ CK k
  rw [if_neg k]
  have k : p.chk n = 0 := Classical.not_not.1 k
  have V := (chk_zero k).1
  have f0 : -1099511627776 ≤ p.off := by have := V.o0; omega
  have f1 : p.off ≤ 1099511627776 := by have := V.o1; omega
  rw [k] at CK
  unfold val
  cases m : p.mf with
  | false =>
    rw [if_neg (fun z => by cases z.1)]
    by_cases he : 65515 < p.off + (n : Int)
    · rw [if_pos he]
      exact check_5t p A n c w hn CK f0 f1 m he
    · rw [if_neg he]
      exact check_5f p A n c w hn CK f0 f1 m he
  | true =>
    by_cases h : n = 0
    · rw [if_pos ⟨rfl, .inl h⟩]
      exact check_2 p A n c w hn CK m h
    by_cases h8 : n % 8 ≠ 0
    · rw [if_pos ⟨rfl, .inr h8⟩]
      exact check_3 p A n c w hn CK m h h8
    rw [if_neg (fun z => z.2.elim h h8)]
    by_cases he : 65515 < p.off + (n : Int)
    · rw [if_pos he]
      exact check_4t p A n c w hn CK f0 f1 m h h8 he
    · rw [if_neg he]
      exact check_4f p A n c w hn CK f0 f1 m h h8 he
theorem late_c (g : Nat) (b now : Int) (PV : Value) (w : World) (hg : Blk w g 64 #[.int .i64 b, PV]) (h0 : -1099511627776 ≤ now) (h1 : now ≤ 1099511627776) : Calls Tryd.prog 22 #[.pointer (some ⟨g, 0, none⟩), .int .i64 now] w fun e w' => e = .returned (.bool (decide (b ≤ now - 60))) ∧ w = w' := by
  have c0 := hg.cell 0
  have g1 : decide ((-9223372036854775748 : Int) ≤ now) = true := decide_eq_true (by omega)
  have e0 : IntKind.i64.wrap (now - 60) = now - 60 := IntWalk.i64_in _ (by omega)
  obtain ⟨u, hu⟩ : ∃ u, decide (b ≤ now - 60) = u := ⟨_, rfl⟩
  rw [hu]
  clear hg h0 h1
  go_enter Tryd.func22, Tryd.ntmps22
  go_wp2_with fail
  go_ret
  exact ⟨rfl, rfl⟩
set_option maxHeartbeats 1000000 in
theorem ownName_c (m : Nm) (w : World) (h1 : m.src.size ≤ maxT) (h2 : m.dst.size ≤ maxT) : Calls Tryd.prog 58 #[nk m] w fun e w' => e = .returned (nk m) ∧ Below w.heap.size w w' := by
  have K0 := Lib.hid (Blk.alloc (Blk.new w 60 #[.string m.src, .string m.dst, .int .i64 m.proto, .int .i64 m.id]) (.cells #[.string ⟨#[]⟩, .string ⟨#[]⟩, .int .i64 0, .int .i64 0] 60))
  have J0 : Hid (Blk ((w.alloc (.cells #[.string m.src, .string m.dst, .int .i64 m.proto, .int .i64 m.id] 60)).alloc (.cells #[.string ⟨#[]⟩, .string ⟨#[]⟩, .int .i64 0, .int .i64 0] 60)) (w.heap.size + 1) 60 #[.string ⟨#[]⟩, .string ⟨#[]⟩, .int .i64 0, .int .i64 0]) := Lib.hid (by
    have := Blk.new (w.alloc (.cells #[.string m.src, .string m.dst, .int .i64 m.proto, .int .i64 m.id] 60)) 60 #[.string ⟨#[]⟩, .string ⟨#[]⟩, .int .i64 0, .int .i64 0]
    simpa using this)
  have B0 := Lib.hid (((Below.refl w.heap.size w).alloc (Nat.le_refl _) (.cells #[.string m.src, .string m.dst, .int .i64 m.proto, .int .i64 m.id] 60)).alloc (by simp) (.cells #[.string ⟨#[]⟩, .string ⟨#[]⟩, .int .i64 0, .int .i64 0] 60))
  have C1 := Lib.hid (fun W => clone_text m.src W h1)
  have C2 := Lib.hid (fun W => clone_text m.dst W h2)
  unfold nk
  clear h1 h2
  go_enter Tryd.func58, Tryd.ntmps58
  go_wp2_with fail
  generalize ((w.alloc (.cells #[.string m.src, .string m.dst, .int .i64 m.proto, .int .i64 m.id] 60)).alloc (.cells #[.string ⟨#[]⟩, .string ⟨#[]⟩, .int .i64 0, .int .i64 0] 60)) = w1 at *
  have X : Hid (∀ V, Below w1.drew.heap.size w1.drew V → Blk V w.heap.size 60 #[.string m.src, .string m.dst, .int .i64 m.proto, .int .i64 m.id]) := Lib.hid fun V hV => Blk.below (show Blk w1.drew w.heap.size 60 #[.string m.src, .string m.dst, .int .i64 m.proto, .int .i64 m.id] from K0.out) hV (Blk.lt K0.out)
  refine wp_region_free [0, 1, 2, 3, 4, 5, 6, 7, 8] 9 [] (fun w1 w2 => Below w1.heap.size w1 w2) (fun k' w' v => match k' with
      | 0 => v = .pointer (some ⟨w.heap.size, 0, none⟩)
      | 1 => v = .string m.src
      | 2 => v = .string m.src
      | 3 => v = .pointer (some ⟨w.heap.size, 1, none⟩)
      | 4 => v = .string m.dst
      | 5 => v = .string m.dst
      | 6 => v = .pointer (some ⟨w.heap.size, 0, none⟩)
      | 7 => True
      | _ => v = .pointer (some ⟨w.heap.size, 1, none⟩)) (by kernel_rfl) (by kernel_rfl) (Below.refl _ _) (fun _ _ _ h k => h.trans (k.mono h.size)) (fun k' w1 w2 v h => match k' with
      | 0 => fun x => x
      | 1 => fun x => x
      | 2 => fun x => x
      | 3 => fun x => x
      | 4 => fun x => x
      | 5 => fun x => x
      | 6 => fun x => x
      | 7 => fun _ => trivial
      | _ + 8 => fun x => x) (fun _ _ _ _ _ h => h) ?_ _ (by rfl) ?_
  · refine obs_cons (by rfl) (fun vals w' hgr hdep K hK => ?_) (obs_cons (by rfl) (fun vals w' hgr hdep K hK => ?_) (obs_cons (by rfl) (fun vals w' hgr hdep K hK => ?_) (obs_cons (by rfl) (fun vals w' hgr hdep K hK => ?_) (obs_cons (by rfl) (fun vals w' hgr hdep K hK => ?_) (obs_cons (by rfl) (fun vals w' hgr hdep K hK => ?_) (obs_cons (by rfl) (fun vals w' hgr hdep K hK => ?_) (obs_cons (by rfl) (fun vals w' hgr hdep K hK => ?_) (obs_cons (by rfl) (fun vals w' hgr hdep K hK => ?_) (obs_nil)))))))))
    · exact wp_field (.tmp 1) rfl _ _ (at_out _ (by kernel_rfl) rfl) (by kernel_rfl) (hK _ _ (Below.refl _ _) rfl)
    · exact wp_load1 (.tmp 3) rfl ⟨w.heap.size, 0, none⟩ ((at_dst 0 (by kernel_rfl)).trans (hdep 0 (by simp) (by kernel_rfl))) Tryd.underlying9 rfl _ ((X.out w' hgr).cell 0) (hK _ _ (Below.refl _ _) rfl)
    · exact wp_call 44 [.tmp 4] _ rfl ent_clone [.string m.src] (Draw.list1 ((at_dst 1 (by kernel_rfl)).trans (hdep 1 (by simp) (by kernel_rfl)))) (fun v w'' => v = .string m.src ∧ Below w'.heap.size w' w'') (((C1.out w')).mono fun e w'' ⟨h1, h2⟩ => ⟨_, h1, rfl, h2⟩) (fun v w'' ⟨h1, h2⟩ => hK _ _ h2 h1)
    · exact wp_field (.tmp 1) rfl _ _ (at_out _ (by kernel_rfl) rfl) (by kernel_rfl) (hK _ _ (Below.refl _ _) rfl)
    · exact wp_load1 (.tmp 6) rfl ⟨w.heap.size, 1, none⟩ ((at_dst 3 (by kernel_rfl)).trans (hdep 3 (by simp) (by kernel_rfl))) Tryd.underlying9 rfl _ ((X.out w' hgr).cell 1) (hK _ _ (Below.refl _ _) rfl)
    · exact wp_call 44 [.tmp 7] _ rfl ent_clone [.string m.dst] (Draw.list1 ((at_dst 4 (by kernel_rfl)).trans (hdep 4 (by simp) (by kernel_rfl)))) (fun v w'' => v = .string m.dst ∧ Below w'.heap.size w' w'') (((C2.out w')).mono fun e w'' ⟨h1, h2⟩ => ⟨_, h1, rfl, h2⟩) (fun v w'' ⟨h1, h2⟩ => hK _ _ h2 h1)
    · exact wp_field (.tmp 1) rfl _ _ (at_out _ (by kernel_rfl) rfl) (by kernel_rfl) (hK _ _ (Below.refl _ _) rfl)
    · exact st_same 9 (.tmp 9) (.tmp 5) rfl ⟨w.heap.size, 0, none⟩ ((at_dst 6 (by kernel_rfl)).trans (hdep 6 (by simp) (by kernel_rfl))) (.string m.src) ((at_dst 2 (by kernel_rfl)).trans (hdep 2 (by simp) (by kernel_rfl))) (same_one (X.out w' hgr) (by kernel_rfl) rfl rfl rfl) (hK _ _ (Below.refl _ _) trivial)
    · exact wp_field (.tmp 1) rfl _ _ (at_out _ (by kernel_rfl) rfl) (by kernel_rfl) (hK _ _ (Below.refl _ _) rfl)
  · intro vals w' hgr hG
    refine st_same 9 (.tmp 10) (.tmp 8) rfl ⟨w.heap.size, 1, none⟩ ((at_dst 8 (by kernel_rfl)).trans (hG 8 (by simp))) (.string m.dst) ((at_dst 5 (by kernel_rfl)).trans (hG 5 (by simp))) (same_one (X.out w' hgr) (by kernel_rfl) rfl rfl rfl) (wpAnyH_done (by kernel_rfl) ?_ _)
    have K1 := Lib.hid (X.out _ hgr)
    have J1 := Lib.hid (Blk.below (show Blk w1.drew (w.heap.size + 1) 60 #[.string ⟨#[]⟩, .string ⟨#[]⟩, .int .i64 0, .int .i64 0] from J0.out) hgr (Blk.lt J0.out))
    have B1 := Lib.hid (B0.out.trans ((Draw.below_1 hgr).mono B0.out.size))
    clear hG hgr X K0 J0 B0 C1 C2
    simp only [fill, dstAt, List.getElem?_cons_zero, List.getElem?_cons_succ, Option.bind_some, Act.put, List.setIfInBounds_toArray, List.set_cons_zero, List.set_cons_succ]
    generalize vals 0 = y0, vals 1 = y1, vals 2 = y2, vals 3 = y3, vals 4 = y4, vals 5 = y5, vals 6 = y6, vals 7 = y7, vals 8 = y8 at *
    generalize w' = w2 at *
    have one : Hid ((#[.string m.src, .string m.dst, .int .i64 m.proto, .int .i64 m.id] : Array Value).all (·.oneCell') = true) := Lib.hid (by simp [Value.oneCell'])
    go_wp2_with (first | (refine Store.at_load 60 (.tmp 1) ?_ ?_; exact rfl; refine Loads.wpList_load_w rfl 60 (.tmp 1) rfl w.heap.size rfl 60 #[.string m.src, .string m.dst, .int .i64 m.proto, .int .i64 m.id] (0, 0) _ (K1.out) Tryd.underlying60 rfl (by kernel_rfl) ?_) | (refine Store.at_store 60 (.tmp 2) (.tmp 11) ?_ ?_; exact rfl; refine wpList_store_row rfl 60 (.tmp 2) (.tmp 11) rfl (w.heap.size + 1) #[.string m.src, .string m.dst, .int .i64 m.proto, .int .i64 m.id] rfl rfl 60 _ (J1.out) (by kernel_rfl) rfl (one.out) ?_))
    exact bodyPost_ret (results_cell_row rfl _ _ (w.heap.size + 1) 60 #[.string m.src, .string m.dst, .int .i64 m.proto, .int .i64 m.id] (0, 0) _ rfl (setRow_heap _ _ _ _ _ _ J1.out) Tryd.underlying60 rfl (by kernel_rfl)) rfl ⟨rfl, Com.setRow_bel B1.out (by omega) _⟩
theorem ent_bclone : Enters Tryd.prog 45 := enters_of Tryd.func45 (by kernel_rfl) rfl
set_option maxHeartbeats 1000000 in
theorem ownPiece_later (p : Pkt) (A : Option Addr) (n c B : Nat) (l : List Int) (w : World) (h : Holds w B A n c l) (hB : B ≤ w.heap.size) (hn : n ≤ 1048576) (ho : ¬ p.off = 0) : Calls Tryd.prog 59 #[val p (.slice A n c)] w fun e w' => ∃ A' c', e = .returned (val (bareP p) (.slice A' n c')) ∧ Owns w' w.heap.size (.slice A' n c') n l ∧ Below w.heap.size w w' := by
  have K0 := Lib.hid (Blk.alloc (Blk.new w 32 #[.int .i64 p.tos, .int .i64 p.id, .int .i64 p.ttl, .int .i64 p.proto, .bool p.df, .bool p.mf, .int .i64 p.off, .string p.src, .string p.dst, .string p.opt, .slice A n c]) (.cells #[.int .i64 0, .int .i64 0, .int .i64 0, .int .i64 0, .bool false, .bool false, .int .i64 0, .string ⟨#[]⟩, .string ⟨#[]⟩, .string ⟨#[]⟩, .slice none 0 0] 32))
  have J0 : Hid (Blk ((w.alloc (.cells #[.int .i64 p.tos, .int .i64 p.id, .int .i64 p.ttl, .int .i64 p.proto, .bool p.df, .bool p.mf, .int .i64 p.off, .string p.src, .string p.dst, .string p.opt, .slice A n c] 32)).alloc (.cells #[.int .i64 0, .int .i64 0, .int .i64 0, .int .i64 0, .bool false, .bool false, .int .i64 0, .string ⟨#[]⟩, .string ⟨#[]⟩, .string ⟨#[]⟩, .slice none 0 0] 32)) (w.heap.size + 1) 32 #[.int .i64 0, .int .i64 0, .int .i64 0, .int .i64 0, .bool false, .bool false, .int .i64 0, .string ⟨#[]⟩, .string ⟨#[]⟩, .string ⟨#[]⟩, .slice none 0 0]) := Lib.hid (by
    have := Blk.new (w.alloc (.cells #[.int .i64 p.tos, .int .i64 p.id, .int .i64 p.ttl, .int .i64 p.proto, .bool p.df, .bool p.mf, .int .i64 p.off, .string p.src, .string p.dst, .string p.opt, .slice A n c] 32)) 32 #[.int .i64 0, .int .i64 0, .int .i64 0, .int .i64 0, .bool false, .bool false, .int .i64 0, .string ⟨#[]⟩, .string ⟨#[]⟩, .string ⟨#[]⟩, .slice none 0 0]
    simpa using this)
  have B0 := Lib.hid (((Below.refl w.heap.size w).alloc (Nat.le_refl _) (.cells #[.int .i64 p.tos, .int .i64 p.id, .int .i64 p.ttl, .int .i64 p.proto, .bool p.df, .bool p.mf, .int .i64 p.off, .string p.src, .string p.dst, .string p.opt, .slice A n c] 32)).alloc (by simp) (.cells #[.int .i64 0, .int .i64 0, .int .i64 0, .int .i64 0, .bool false, .bool false, .int .i64 0, .string ⟨#[]⟩, .string ⟨#[]⟩, .string ⟨#[]⟩, .slice none 0 0] 32))
  have g : (p.off == 0) = false := by simpa using ho
  have CL : Hid (∀ V, Below ((w.alloc (.cells #[.int .i64 p.tos, .int .i64 p.id, .int .i64 p.ttl, .int .i64 p.proto, .bool p.df, .bool p.mf, .int .i64 p.off, .string p.src, .string p.dst, .string p.opt, .slice A n c] 32)).alloc (.cells #[.int .i64 0, .int .i64 0, .int .i64 0, .int .i64 0, .bool false, .bool false, .int .i64 0, .string ⟨#[]⟩, .string ⟨#[]⟩, .string ⟨#[]⟩, .slice none 0 0] 32)).drew.heap.size ((w.alloc (.cells #[.int .i64 p.tos, .int .i64 p.id, .int .i64 p.ttl, .int .i64 p.proto, .bool p.df, .bool p.mf, .int .i64 p.off, .string p.src, .string p.dst, .string p.opt, .slice A n c] 32)).alloc (.cells #[.int .i64 0, .int .i64 0, .int .i64 0, .int .i64 0, .bool false, .bool false, .int .i64 0, .string ⟨#[]⟩, .string ⟨#[]⟩, .string ⟨#[]⟩, .slice none 0 0] 32)).drew V → Calls Tryd.prog 45 #[.slice A n c] V fun e w' => ∃ A' c', e = .returned (.slice A' n c') ∧ Owns w' V.heap.size (.slice A' n c') n l ∧ Below V.heap.size V w') := Lib.hid fun V hV => by
    have b := B0.out.trans ((Draw.below_1 hV).mono B0.out.size)
    exact clone_all A n c l V B (h.below (b.mono hB)) (Nat.le_trans hB b.size) hn
  unfold val
  clear h hB hn ho
  go_enter Tryd.func59, Tryd.ntmps59
  go_wp2_with fail
  generalize ((w.alloc (.cells #[.int .i64 p.tos, .int .i64 p.id, .int .i64 p.ttl, .int .i64 p.proto, .bool p.df, .bool p.mf, .int .i64 p.off, .string p.src, .string p.dst, .string p.opt, .slice A n c] 32)).alloc (.cells #[.int .i64 0, .int .i64 0, .int .i64 0, .int .i64 0, .bool false, .bool false, .int .i64 0, .string ⟨#[]⟩, .string ⟨#[]⟩, .string ⟨#[]⟩, .slice none 0 0] 32)) = w1 at *
  have X : Hid (∀ V, Below w1.drew.heap.size w1.drew V → Blk V w.heap.size 32 #[.int .i64 p.tos, .int .i64 p.id, .int .i64 p.ttl, .int .i64 p.proto, .bool p.df, .bool p.mf, .int .i64 p.off, .string p.src, .string p.dst, .string p.opt, .slice A n c]) := Lib.hid fun V hV => Blk.below (show Blk w1.drew w.heap.size 32 #[.int .i64 p.tos, .int .i64 p.id, .int .i64 p.ttl, .int .i64 p.proto, .bool p.df, .bool p.mf, .int .i64 p.off, .string p.src, .string p.dst, .string p.opt, .slice A n c] from K0.out) hV (Blk.lt K0.out)
  refine wp_region_free [0, 1, 2, 3, 4, 5, 6, 7] 8 [] (fun w1 w2 => Below w1.heap.size w1 w2) (fun k' w' v => match k' with
      | 0 => v = .pointer (some ⟨w.heap.size, 6, none⟩)
      | 1 => v = .int .i64 p.off
      | 2 => v = .pointer (some ⟨w.heap.size, 5, none⟩)
      | 3 => v = .bool p.mf
      | 4 => v = .pointer (some ⟨w.heap.size, 10, none⟩)
      | 5 => v = .slice A n c
      | 6 => ∃ A' c', v = .slice A' n c' ∧ Owns w' w.heap.size (.slice A' n c') n l
      | _ => ∃ A' c', v = val (bareP p) (.slice A' n c') ∧ Owns w' w.heap.size (.slice A' n c') n l) (by kernel_rfl) (by kernel_rfl) (Below.refl _ _) (fun _ _ _ h k => h.trans (k.mono h.size)) (fun k' w1 w2 v h => match k' with
      | 0 => fun x => x
      | 1 => fun x => x
      | 2 => fun x => x
      | 3 => fun x => x
      | 4 => fun x => x
      | 5 => fun x => x
      | 6 => fun ⟨A', c', e, h'⟩ => ⟨A', c', e, h'.below h (Nat.le_refl _)⟩
      | _ + 7 => fun ⟨A', c', e, h'⟩ => ⟨A', c', e, h'.below h (Nat.le_refl _)⟩) (fun _ _ _ _ _ h => h) ?_ _ (by rfl) ?_
  · refine obs_cons (by rfl) (fun vals w' hgr hdep K hK => ?_) (obs_cons (by rfl) (fun vals w' hgr hdep K hK => ?_) (obs_cons (by rfl) (fun vals w' hgr hdep K hK => ?_) (obs_cons (by rfl) (fun vals w' hgr hdep K hK => ?_) (obs_cons (by rfl) (fun vals w' hgr hdep K hK => ?_) (obs_cons (by rfl) (fun vals w' hgr hdep K hK => ?_) (obs_cons (by rfl) (fun vals w' hgr hdep K hK => ?_) (obs_cons (by rfl) (fun vals w' hgr hdep K hK => ?_) (obs_nil))))))))
    · exact wp_field (.tmp 1) rfl _ _ (at_out _ (by kernel_rfl) rfl) (by kernel_rfl) (hK _ _ (Below.refl _ _) rfl)
    · exact wp_load1 (.tmp 8) rfl ⟨w.heap.size, 6, none⟩ ((at_dst 0 (by kernel_rfl)).trans (hdep 0 (by simp) (by kernel_rfl))) Tryd.underlying3 rfl _ ((X.out w' hgr).cell 6) (hK _ _ (Below.refl _ _) rfl)
    · exact wp_field (.tmp 1) rfl _ _ (at_out _ (by kernel_rfl) rfl) (by kernel_rfl) (hK _ _ (Below.refl _ _) rfl)
    · exact wp_load1 (.tmp 10) rfl ⟨w.heap.size, 5, none⟩ ((at_dst 2 (by kernel_rfl)).trans (hdep 2 (by simp) (by kernel_rfl))) Tryd.underlying4 rfl _ ((X.out w' hgr).cell 5) (hK _ _ (Below.refl _ _) rfl)
    · exact wp_field (.tmp 1) rfl _ _ (at_out _ (by kernel_rfl) rfl) (by kernel_rfl) (hK _ _ (Below.refl _ _) rfl)
    · exact wp_load1 (.tmp 12) rfl ⟨w.heap.size, 10, none⟩ ((at_dst 4 (by kernel_rfl)).trans (hdep 4 (by simp) (by kernel_rfl))) Tryd.underlying30 rfl _ ((X.out w' hgr).cell 10) (hK _ _ (Below.refl _ _) rfl)
    · exact wp_call 45 [.tmp 13] _ rfl ent_bclone [.slice A n c] (Draw.list1 ((at_dst 5 (by kernel_rfl)).trans (hdep 5 (by simp) (by kernel_rfl)))) (fun v w'' => (∃ A' c', v = .slice A' n c' ∧ Owns w'' w.heap.size (.slice A' n c') n l) ∧ Below w'.heap.size w' w'') ((CL.out w' hgr).mono fun e w'' ⟨A', c', h1, h2, h3⟩ => ⟨_, h1, ⟨A', c', rfl, h2.mono (Nat.le_of_lt (X.out w' hgr).lt)⟩, h3⟩) (fun v w'' ⟨h1, h2⟩ => hK _ _ h2 h1)
    · obtain ⟨A', c', e1, e2⟩ := hdep 6 (by simp) (by kernel_rfl)
      exact st_build [(6, .tmp 9), (5, .tmp 11), (10, .tmp 14)] rfl [(6, .int .i64 p.off), (5, .bool p.mf), (10, .slice A' n c')] (by rw [List.map, List.map, List.map, List.map, ((at_dst 1 (by kernel_rfl)).trans (hdep 1 (by simp) (by kernel_rfl))), ((at_dst 3 (by kernel_rfl)).trans (hdep 3 (by simp) (by kernel_rfl))), (at_dst 6 (by kernel_rfl)).trans e1]) (val (bareP p) (.slice A' n c')) (by kernel_rfl) (hK _ _ (Below.refl _ _) ⟨A', c', rfl, e2⟩)
  · intro vals w' hgr hG
    obtain ⟨A', c', e1, e2⟩ := hG 7 (by simp)
    have J1 := Lib.hid (Blk.below (show Blk w1.drew (w.heap.size + 1) 32 #[.int .i64 0, .int .i64 0, .int .i64 0, .int .i64 0, .bool false, .bool false, .int .i64 0, .string ⟨#[]⟩, .string ⟨#[]⟩, .string ⟨#[]⟩, .slice none 0 0] from J0.out) hgr (Blk.lt J0.out))
    have B1 := Lib.hid (B0.out.trans ((Draw.below_1 hgr).mono B0.out.size))
    have one : (#[.int .i64 0, .int .i64 0, .int .i64 0, .int .i64 0, .bool false, .bool p.mf, .int .i64 p.off, .string ⟨#[]⟩, .string ⟨#[]⟩, .string ⟨#[]⟩, .slice A' n c'] : Array Value).all (·.oneCell') = true := by simp [Value.oneCell']
    refine st_store_row 32 (.tmp 2) (.tmp 15) rfl (w.heap.size + 1) #[.int .i64 0, .int .i64 0, .int .i64 0, .int .i64 0, .bool false, .bool p.mf, .int .i64 p.off, .string ⟨#[]⟩, .string ⟨#[]⟩, .string ⟨#[]⟩, .slice A' n c'] (at_out _ (by kernel_rfl) rfl) ((at_dst 7 (by kernel_rfl)).trans e1) 32 _ J1.out (by kernel_rfl) rfl one (wpAnyH_done (by kernel_rfl) ?_ _)
    have O1 : Hid (Owns (w'.setRow (w.heap.size + 1) #[.int .i64 0, .int .i64 0, .int .i64 0, .int .i64 0, .bool false, .bool p.mf, .int .i64 p.off, .string ⟨#[]⟩, .string ⟨#[]⟩, .string ⟨#[]⟩, .slice A' n c']) w.heap.size (.slice A' n c') n l) := Lib.hid (by
      refine ⟨e2.1, e2.2.1, e2.2.2.imp id ?_⟩
      rintro ⟨g, cap, cur, fz, e, hg, hh, r⟩
      refine ⟨g, cap, cur, fz, e, hg, (setRow_other _ (w.heap.size + 1) g _ ?_).trans hh, r⟩
      intro q
      subst q
      have := hh.symm.trans J1.out
      simp at this)
    have R1 := Lib.hid (setRow_heap w' (w.heap.size + 1) _ #[.int .i64 0, .int .i64 0, .int .i64 0, .int .i64 0, .bool false, .bool p.mf, .int .i64 p.off, .string ⟨#[]⟩, .string ⟨#[]⟩, .string ⟨#[]⟩, .slice A' n c'] _ _ J1.out)
    have B2 := Lib.hid (Com.setRow_bel B1.out (show w.heap.size ≤ w.heap.size + 1 by omega) #[.int .i64 0, .int .i64 0, .int .i64 0, .int .i64 0, .bool false, .bool p.mf, .int .i64 p.off, .string ⟨#[]⟩, .string ⟨#[]⟩, .string ⟨#[]⟩, .slice A' n c'])
    clear hG hgr X K0 J0 B0 CL e2 one J1
    simp only [fill, dstAt, List.getElem?_cons_zero, List.getElem?_cons_succ, Option.bind_some, Act.put, List.setIfInBounds_toArray, List.set_cons_zero, List.set_cons_succ]
    generalize w'.setRow (w.heap.size + 1) #[.int .i64 0, .int .i64 0, .int .i64 0, .int .i64 0, .bool false, .bool p.mf, .int .i64 p.off, .string ⟨#[]⟩, .string ⟨#[]⟩, .string ⟨#[]⟩, .slice A' n c'] = w2 at *
    generalize vals 0 = y0, vals 1 = y1, vals 2 = y2, vals 3 = y3, vals 4 = y4, vals 5 = y5, vals 6 = y6, vals 7 = y7 at *
    go_wp2_with fail
    exact bodyPost_ret (results_cell_row rfl _ _ (w.heap.size + 1) 32 #[.int .i64 0, .int .i64 0, .int .i64 0, .int .i64 0, .bool false, .bool p.mf, .int .i64 p.off, .string ⟨#[]⟩, .string ⟨#[]⟩, .string ⟨#[]⟩, .slice A' n c'] (0, 0) _ rfl R1.out Tryd.underlying32 rfl (by kernel_rfl)) rfl ⟨A', c', rfl, O1.out, B2.out⟩
set_option maxHeartbeats 1000000 in
theorem ownPiece_first (p : Pkt) (A : Option Addr) (n c B : Nat) (l : List Int) (w : World) (h : Holds w B A n c l) (hB : B ≤ w.heap.size) (hn : n ≤ 1048576) (ht : Texts p) (ho : p.off = 0) : Calls Tryd.prog 59 #[val p (.slice A n c)] w fun e w' => ∃ A' c', e = .returned (val p (.slice A' n c')) ∧ Owns w' w.heap.size (.slice A' n c') n l ∧ Below w.heap.size w w' := by
  have K0 := Lib.hid (Blk.alloc (Blk.new w 32 #[.int .i64 p.tos, .int .i64 p.id, .int .i64 p.ttl, .int .i64 p.proto, .bool p.df, .bool p.mf, .int .i64 p.off, .string p.src, .string p.dst, .string p.opt, .slice A n c]) (.cells #[.int .i64 0, .int .i64 0, .int .i64 0, .int .i64 0, .bool false, .bool false, .int .i64 0, .string ⟨#[]⟩, .string ⟨#[]⟩, .string ⟨#[]⟩, .slice none 0 0] 32))
  have J0 : Hid (Blk ((w.alloc (.cells #[.int .i64 p.tos, .int .i64 p.id, .int .i64 p.ttl, .int .i64 p.proto, .bool p.df, .bool p.mf, .int .i64 p.off, .string p.src, .string p.dst, .string p.opt, .slice A n c] 32)).alloc (.cells #[.int .i64 0, .int .i64 0, .int .i64 0, .int .i64 0, .bool false, .bool false, .int .i64 0, .string ⟨#[]⟩, .string ⟨#[]⟩, .string ⟨#[]⟩, .slice none 0 0] 32)) (w.heap.size + 1) 32 #[.int .i64 0, .int .i64 0, .int .i64 0, .int .i64 0, .bool false, .bool false, .int .i64 0, .string ⟨#[]⟩, .string ⟨#[]⟩, .string ⟨#[]⟩, .slice none 0 0]) := Lib.hid (by
    have := Blk.new (w.alloc (.cells #[.int .i64 p.tos, .int .i64 p.id, .int .i64 p.ttl, .int .i64 p.proto, .bool p.df, .bool p.mf, .int .i64 p.off, .string p.src, .string p.dst, .string p.opt, .slice A n c] 32)) 32 #[.int .i64 0, .int .i64 0, .int .i64 0, .int .i64 0, .bool false, .bool false, .int .i64 0, .string ⟨#[]⟩, .string ⟨#[]⟩, .string ⟨#[]⟩, .slice none 0 0]
    simpa using this)
  have B0 := Lib.hid (((Below.refl w.heap.size w).alloc (Nat.le_refl _) (.cells #[.int .i64 p.tos, .int .i64 p.id, .int .i64 p.ttl, .int .i64 p.proto, .bool p.df, .bool p.mf, .int .i64 p.off, .string p.src, .string p.dst, .string p.opt, .slice A n c] 32)).alloc (by simp) (.cells #[.int .i64 0, .int .i64 0, .int .i64 0, .int .i64 0, .bool false, .bool false, .int .i64 0, .string ⟨#[]⟩, .string ⟨#[]⟩, .string ⟨#[]⟩, .slice none 0 0] 32))
  have g : (p.off == 0) = true := by simpa using ho
  have OC := Lib.hid (own_any p A n c B l ((w.alloc (.cells #[.int .i64 p.tos, .int .i64 p.id, .int .i64 p.ttl, .int .i64 p.proto, .bool p.df, .bool p.mf, .int .i64 p.off, .string p.src, .string p.dst, .string p.opt, .slice A n c] 32)).alloc (.cells #[.int .i64 0, .int .i64 0, .int .i64 0, .int .i64 0, .bool false, .bool false, .int .i64 0, .string ⟨#[]⟩, .string ⟨#[]⟩, .string ⟨#[]⟩, .slice none 0 0] 32)) (h.below (B0.out.mono hB)) (Nat.le_trans hB B0.out.size) hn ht)
  unfold val at OC
  unfold val
  clear h hB hn ho ht
  go_enter Tryd.func59, Tryd.ntmps59
  go_wp2_with (refine Store.at_load 32 (.tmp 1) ?_ ?_; exact rfl; refine Loads.wpList_load_w rfl 32 (.tmp 1) rfl w.heap.size rfl 32 #[.int .i64 p.tos, .int .i64 p.id, .int .i64 p.ttl, .int .i64 p.proto, .bool p.df, .bool p.mf, .int .i64 p.off, .string p.src, .string p.dst, .string p.opt, .slice A n c] (0, 0) _ (K0.out) Tryd.underlying32 rfl (by kernel_rfl) ?_)
  refine OC.out.mono ?_
  rintro e w2 ⟨A', c', rfl, ho, hb⟩
  have J1 := Lib.hid (J0.out.below hb J0.out.lt)
  have B1 := Lib.hid (B0.out.trans (hb.mono B0.out.size))
  have O1 : Hid (Owns (w2.setRow (w.heap.size + 1) #[.int .i64 p.tos, .int .i64 p.id, .int .i64 p.ttl, .int .i64 p.proto, .bool p.df, .bool p.mf, .int .i64 p.off, .string p.src, .string p.dst, .string p.opt, .slice A' n c']) w.heap.size (.slice A' n c') n l) := Lib.hid (by
    have ho := ho.mono (base' := w.heap.size) B0.out.size
    refine ⟨ho.1, ho.2.1, ho.2.2.imp id ?_⟩
    rintro ⟨g, cap, cur, fz, e, hg, hh, r⟩
    refine ⟨g, cap, cur, fz, e, hg, (setRow_other _ (w.heap.size + 1) g _ ?_).trans hh, r⟩
    intro q
    subst q
    have := hh.symm.trans J1.out
    simp at this)
  have one : Hid ((#[.int .i64 p.tos, .int .i64 p.id, .int .i64 p.ttl, .int .i64 p.proto, .bool p.df, .bool p.mf, .int .i64 p.off, .string p.src, .string p.dst, .string p.opt, .slice A' n c'] : Array Value).all (·.oneCell') = true) := Lib.hid (by simp [Value.oneCell'])
  clear OC hb ho J0 B0 K0
  go_wp2_with (refine Store.at_store 32 (.tmp 2) (.tmp 7) ?_ ?_; exact rfl; refine wpList_store_row rfl 32 (.tmp 2) (.tmp 7) rfl (w.heap.size + 1) #[.int .i64 p.tos, .int .i64 p.id, .int .i64 p.ttl, .int .i64 p.proto, .bool p.df, .bool p.mf, .int .i64 p.off, .string p.src, .string p.dst, .string p.opt, .slice A' n c'] rfl rfl 32 _ (J1.out) (by kernel_rfl) rfl (one.out) ?_)
  exact bodyPost_ret (results_cell_row rfl _ _ (w.heap.size + 1) 32 #[.int .i64 p.tos, .int .i64 p.id, .int .i64 p.ttl, .int .i64 p.proto, .bool p.df, .bool p.mf, .int .i64 p.off, .string p.src, .string p.dst, .string p.opt, .slice A' n c'] (0, 0) _ rfl (setRow_heap _ _ _ _ _ _ J1.out) Tryd.underlying32 rfl (by kernel_rfl)) rfl ⟨A', c', rfl, O1.out, Com.setRow_bel B1.out (by omega) _⟩
theorem ownPiece_c (p : Pkt) (A : Option Addr) (n c B : Nat) (l : List Int) (w : World) (h : Holds w B A n c l) (hB : B ≤ w.heap.size) (hn : n ≤ 1048576) (ht : Texts p) : Calls Tryd.prog 59 #[val p (.slice A n c)] w fun e w' => ∃ A' c', e = .returned (val (bareF (p, l)).1 (.slice A' n c')) ∧ Owns w' w.heap.size (.slice A' n c') n l ∧ Below w.heap.size w w' := by
  by_cases o : p.off = 0
  · have e : (bareF (p, l)).1 = p := by unfold bareF; rw [if_pos o]
    rw [e]
    exact ownPiece_first p A n c B l w h hB hn ht o
  · have e : (bareF (p, l)).1 = bareP p := by unfold bareF; rw [if_neg o]
    rw [e]
    exact ownPiece_later p A n c B l w h hB hn o
theorem add1_c (p : Pkt) (Dv : Value) (x : Int) (w : World) : Calls Tryd.prog 66 #[val p Dv, .int .i64 x] w fun e w' => (∃ z : Int, e = .returned (.int .i64 z) ∧ decide (z < 0) = decide (p.off < x) ∧ decide (z = 0) = decide (p.off = x)) ∧ Below w.heap.size w w' := by
  have B0 := Lib.hid ((Below.refl w.heap.size w).alloc (Nat.le_refl _) (.cells #[.int .i64 p.tos, .int .i64 p.id, .int .i64 p.ttl, .int .i64 p.proto, .bool p.df, .bool p.mf, .int .i64 p.off, .string p.src, .string p.dst, .string p.opt, Dv] 32))
  have CC := Lib.hid (fun W => Tryd.cmp_Compare_int p.off x W)
  unfold val
  go_enter Tryd.func66, Tryd.ntmps66
  go_wp2_with fail
  refine (CC.out _).mono ?_
  rintro e w1 ⟨rfl, hw⟩
  subst hw
  obtain ⟨z, hz⟩ : ∃ z, Lib.compareInt p.off x = z := ⟨_, rfl⟩
  have Z : Hid (decide (z < 0) = decide (p.off < x) ∧ decide (z = 0) = decide (p.off = x)) := Lib.hid (by
    rw [← hz]
    unfold Lib.compareInt
    rcases Int.lt_trichotomy p.off x with q | q | q
    · simp [q]; omega
    · simp [q]
    · have : ¬ p.off < x := by omega
      simp [this, q]; omega)
  rw [hz]
  clear hz CC
  go_wp2_with fail
  go_ret
  exact ⟨⟨z, rfl, Z.out⟩, B0.out⟩
end Go.Proofs.YtnpggkpcadefjaaDoor.Jc3

