/- The code's validSpan, validPorts, inSpan, inPorts. -/
import Derived.Test.YtmomkjgnopcobaaPick1
import Derived.Test.YtmomkjgnopcobaaPickR2
import Derived.Laws.StructEq
import Derived.Test.YtmomkjgnopcobaaEqR
set_option linter.unusedVariables false
namespace Go.Proofs.Ytmomkjgnopcobaa.Pick2
open Go.RowKit Go.Proofs.Ytmomkjgnopcobaa.Mem Go.Proofs.Ytmomkjgnopcobaa.Blk Go.Proofs.Ytmomkjgnopcobaa.Ahead Go.Proofs.Ytmomkjgnopcobaa.PickD Go.Proofs.Ytmomkjgnopcobaa.PickR1 Go.Proofs.Ytmomkjgnopcobaa.PickR2 Go.Proofs.Ytmomkjgnopcobaa.Pick1 Go.Proofs.Ytmomkjgnopcobaa.Steps

theorem spanB_isA (l h : ByteArray) : spanB l h = ((emp l && emp h) || (isA l && (decide (l.size = h.size) && !lt h l))) := by
  unfold spanB
  rw [paired_isA, Bool.and_assoc]
theorem span_code (l h : ByteArray) (w : World) : Calls Try.prog 32 #[.agg #[.string l, .string h]] w fun e w' => e = .returned (.bool (spanB l h)) ∧ Below w.heap.size w w' := by
  obtain ⟨r, hr⟩ : ∃ r, r = spanB l h := ⟨_, rfl⟩
  rw [← hr]
  rw [spanB_isA] at hr
  have AY := Lib.hid (any_code l h)
  have AD := Lib.hid (addr_code l)
  generalize (emp l && emp h) = x at *
  generalize isA l = y at *
  have B0 := Lib.hid ((Below.refl w.heap.size w).alloc (Nat.le_refl _) (.cells #[.string l, .string h] 29))
  have K0 := Lib.hid (Blk.new w 29 #[.string l, .string h])
  cases x
  · cases y
    · have E : Hid (r = false) := Lib.hid (by rw [hr]; simp)
      clear hr 
      go_enter Try.func32, Try.ntmps32
      go_wp2_with (refine Loads.wpList_load_w rfl 29 (.tmp 1) rfl w.heap.size rfl 29 #[.string l, .string h] (0, 0) _ (K0.out) Try.underlying29 rfl (by kernel_rfl) ?_)
      refine (AY.out _).mono ?_
      rintro e w1 ⟨rfl, hb⟩
      have B1 := Lib.hid (B0.out.trans (hb.mono (by simp)))
      have K1 := Lib.hid (Blk.below K0.out hb (Blk.lt K0.out))
      clear hb
      have c0 : w1.cell? ⟨w.heap.size, 0, none⟩ = some (.string l) := K1.out.cell 0
      have c1 : w1.cell? ⟨w.heap.size, 1, none⟩ = some (.string h) := K1.out.cell 1
      go_wp2_with fail
      refine (AD.out _).mono ?_
      rintro e w2 ⟨rfl, rfl⟩
      go_wp2_with fail
      go_ret
      exact ⟨by rw [E.out]; rfl, B1.out⟩
    · by_cases q : l.size = h.size
      · have CC := Lib.hid (compare_code l h q)
        have g1 : ((l.size : Int) == (h.size : Int)) = true := by rw [beq_iff_eq]; omega
        have E := Lib.hid (show r = !lt h l by rw [hr, decide_eq_true q]; simp)
        clear hr q
        go_enter Try.func32, Try.ntmps32
        go_wp2_with (refine Loads.wpList_load_w rfl 29 (.tmp 1) rfl w.heap.size rfl 29 #[.string l, .string h] (0, 0) _ (K0.out) Try.underlying29 rfl (by kernel_rfl) ?_)
        refine (AY.out _).mono ?_
        rintro e w1 ⟨rfl, hb⟩
        have B1 := Lib.hid (B0.out.trans (hb.mono (by simp)))
        have K1 := Lib.hid (Blk.below K0.out hb (Blk.lt K0.out))
        clear hb
        have c0 : w1.cell? ⟨w.heap.size, 0, none⟩ = some (.string l) := K1.out.cell 0
        have c1 : w1.cell? ⟨w.heap.size, 1, none⟩ = some (.string h) := K1.out.cell 1
        go_wp2_with fail
        refine (AD.out _).mono ?_
        rintro e w2 ⟨rfl, rfl⟩
        go_wp2_with fail
        refine (CC.out _).mono ?_
        rintro e w3 ⟨v, rfl, gv, hb⟩
        have B2 := Lib.hid (B1.out.trans (hb.mono B1.out.size))
        have GV := Lib.hid gv
        obtain ⟨t, ht⟩ : ∃ t, decide (v ≤ 0) = t := ⟨_, rfl⟩
        have E2 : Hid (r = t) := Lib.hid (by rw [E.out, ← GV.out, ht])
        clear gv hb
        cases t
        all_goals go_wp2_with fail
        all_goals go_ret
        all_goals exact ⟨by rw [E2.out]; rfl, B2.out⟩
      · have g1 : ((l.size : Int) == (h.size : Int)) = false := by rw [beq_eq_false_iff_ne]; omega
        have E : Hid (r = false) := Lib.hid (by rw [hr]; simp [q])
        clear hr q
        go_enter Try.func32, Try.ntmps32
        go_wp2_with (refine Loads.wpList_load_w rfl 29 (.tmp 1) rfl w.heap.size rfl 29 #[.string l, .string h] (0, 0) _ (K0.out) Try.underlying29 rfl (by kernel_rfl) ?_)
        refine (AY.out _).mono ?_
        rintro e w1 ⟨rfl, hb⟩
        have B1 := Lib.hid (B0.out.trans (hb.mono (by simp)))
        have K1 := Lib.hid (Blk.below K0.out hb (Blk.lt K0.out))
        clear hb
        have c0 : w1.cell? ⟨w.heap.size, 0, none⟩ = some (.string l) := K1.out.cell 0
        have c1 : w1.cell? ⟨w.heap.size, 1, none⟩ = some (.string h) := K1.out.cell 1
        go_wp2_with fail
        refine (AD.out _).mono ?_
        rintro e w2 ⟨rfl, rfl⟩
        go_wp2_with fail
        go_ret
        exact ⟨by rw [E.out]; rfl, B1.out⟩
  · have E : Hid (r = true) := Lib.hid (by rw [hr]; simp)
    clear hr 
    go_enter Try.func32, Try.ntmps32
    go_wp2_with (refine Loads.wpList_load_w rfl 29 (.tmp 1) rfl w.heap.size rfl 29 #[.string l, .string h] (0, 0) _ (K0.out) Try.underlying29 rfl (by kernel_rfl) ?_)
    refine (AY.out _).mono ?_
    rintro e w1 ⟨rfl, hb⟩
    have B1 := Lib.hid (B0.out.trans (hb.mono (by simp)))
    have K1 := Lib.hid (Blk.below K0.out hb (Blk.lt K0.out))
    clear hb
    have c0 : w1.cell? ⟨w.heap.size, 0, none⟩ = some (.string l) := K1.out.cell 0
    have c1 : w1.cell? ⟨w.heap.size, 1, none⟩ = some (.string h) := K1.out.cell 1
    go_wp2_with fail
    go_ret
    exact ⟨by rw [E.out]; rfl, B1.out⟩
theorem ports_code (l h : Int) (w : World) : Calls Try.prog 34 #[.agg #[.int .i64 l, .int .i64 h]] w fun e w' => e = .returned (.bool (portsB l h)) ∧ Below w.heap.size w w' := by
  obtain ⟨r, hr⟩ : ∃ r, r = portsB l h := ⟨_, rfl⟩
  rw [← hr]
  unfold portsB at hr
  rw [← Bool.and_assoc] at hr
  have WI := Lib.hid (within_i l 0 h)
  generalize (decide (0 ≤ l) && decide (l ≤ h)) = x at *
  have B0 := Lib.hid ((Below.refl w.heap.size w).alloc (Nat.le_refl _) (.cells #[.int .i64 l, .int .i64 h] 31))
  have K0 := Lib.hid (Blk.new w 31 #[.int .i64 l, .int .i64 h])
  have k0 := K0.out.cell 0
  have k1 := K0.out.cell 1
  clear K0
  obtain ⟨y, hy⟩ : ∃ y, decide (h ≤ 65535) = y := ⟨_, rfl⟩
  rw [hy] at hr
  have E := Lib.hid hr
  clear hr
  cases x <;> cases y
  all_goals
    go_enter Try.func34, Try.ntmps34
    go_wp2_with fail
    refine (WI.out _).mono ?_
    rintro e w1 ⟨rfl, rfl⟩
    go_wp2_with fail
    go_ret
    exact ⟨by rw [E.out]; rfl, B0.out⟩
def inC (a l h : ByteArray) : Bool := (emp l && emp h) || (decide (a.size = l.size) && (!lt a l && !lt h a))
theorem inC_eq {a l h : ByteArray} (hs : spanB l h = true) : inC a l h = inB a l h := by
  unfold inC inB
  by_cases e : emp l = true
  · have : emp h = true := by
      unfold spanB at hs
      simp only [e, Bool.true_and, Bool.or_eq_true, Bool.and_eq_true] at hs
      rcases hs with k | k
      · exact k
      · have := paired_true k.1
        unfold emp at e
        rw [ByteArray.toList_eq] at e
        have hl : l.size = 0 := by
          have : l.data = #[] := by simpa using e
          show l.data.size = 0
          rw [this]; rfl
        omega
    simp [e, this]
  · have e' : emp l = false := by simpa using e
    simp [e']
theorem in_code (a l h : ByteArray) (w : World) : Calls Try.prog 23 #[.string a, .agg #[.string l, .string h]] w fun e w' => e = .returned (.bool (inC a l h)) ∧ Below w.heap.size w w' := by
  obtain ⟨r, hr⟩ : ∃ r, r = inC a l h := ⟨_, rfl⟩
  rw [← hr]
  unfold inC at hr
  have AY := Lib.hid (any_code l h)
  have WS := Lib.hid (within_s a l h)
  generalize (emp l && emp h) = x at *
  generalize (!lt a l && !lt h a) = z at *
  have B0 := Lib.hid ((Below.refl w.heap.size w).alloc (Nat.le_refl _) (.cells #[.string l, .string h] 29))
  have K0 := Lib.hid (Blk.new w 29 #[.string l, .string h])
  cases x
  · by_cases q : a.size = l.size
    · have g1 : ((a.size : Int) == (l.size : Int)) = true := by rw [beq_iff_eq]; omega
      have E := Lib.hid (show r = z by rw [hr, decide_eq_true q]; simp)
      clear hr q
      cases z
      all_goals
        go_enter Try.func23, Try.ntmps23
        go_wp2_with (refine Loads.wpList_load_w rfl 29 (.tmp 3) rfl w.heap.size rfl 29 #[.string l, .string h] (0, 0) _ (K0.out) Try.underlying29 rfl (by kernel_rfl) ?_)
        refine (AY.out _).mono ?_
        rintro e w1 ⟨rfl, hb⟩
        have B1 := Lib.hid (B0.out.trans (hb.mono (by simp)))
        have K1 := Lib.hid (Blk.below K0.out hb (Blk.lt K0.out))
        clear hb
        have c0 : w1.cell? ⟨w.heap.size, 0, none⟩ = some (.string l) := K1.out.cell 0
        have c1 : w1.cell? ⟨w.heap.size, 1, none⟩ = some (.string h) := K1.out.cell 1
        go_wp2_with fail
        refine (WS.out _).mono ?_
        rintro e w2 ⟨rfl, rfl⟩
        go_wp2_with fail
        go_ret
        exact ⟨by rw [E.out]; rfl, B1.out⟩
    · have g1 : ((a.size : Int) == (l.size : Int)) = false := by rw [beq_eq_false_iff_ne]; omega
      have E : Hid (r = false) := Lib.hid (by rw [hr]; simp [q])
      clear hr q
      go_enter Try.func23, Try.ntmps23
      go_wp2_with (refine Loads.wpList_load_w rfl 29 (.tmp 3) rfl w.heap.size rfl 29 #[.string l, .string h] (0, 0) _ (K0.out) Try.underlying29 rfl (by kernel_rfl) ?_)
      refine (AY.out _).mono ?_
      rintro e w1 ⟨rfl, hb⟩
      have B1 := Lib.hid (B0.out.trans (hb.mono (by simp)))
      have K1 := Lib.hid (Blk.below K0.out hb (Blk.lt K0.out))
      clear hb
      have c0 : w1.cell? ⟨w.heap.size, 0, none⟩ = some (.string l) := K1.out.cell 0
      have c1 : w1.cell? ⟨w.heap.size, 1, none⟩ = some (.string h) := K1.out.cell 1
      go_wp2_with fail
      go_ret
      exact ⟨by rw [E.out]; rfl, B1.out⟩
  · have E : Hid (r = true) := Lib.hid (by rw [hr]; simp)
    clear hr 
    go_enter Try.func23, Try.ntmps23
    go_wp2_with (refine Loads.wpList_load_w rfl 29 (.tmp 3) rfl w.heap.size rfl 29 #[.string l, .string h] (0, 0) _ (K0.out) Try.underlying29 rfl (by kernel_rfl) ?_)
    refine (AY.out _).mono ?_
    rintro e w1 ⟨rfl, hb⟩
    have B1 := Lib.hid (B0.out.trans (hb.mono (by simp)))
    have K1 := Lib.hid (Blk.below K0.out hb (Blk.lt K0.out))
    clear hb
    have c0 : w1.cell? ⟨w.heap.size, 0, none⟩ = some (.string l) := K1.out.cell 0
    have c1 : w1.cell? ⟨w.heap.size, 1, none⟩ = some (.string h) := K1.out.cell 1
    go_wp2_with fail
    go_ret
    exact ⟨by rw [E.out]; rfl, B1.out⟩
theorem b_eqPorts (l h a b : Int) (x y : Operand) (w : World) : (do eqGuard .eql 31 x y (.agg #[.int .i64 l, .int .i64 h]) (.agg #[.int .i64 a, .int .i64 b]); binOp .eql 31 (.agg #[.int .i64 l, .int .i64 h]) (.agg #[.int .i64 a, .int .i64 b]) : Sem Value).run Try.prog w = .ok (.bool (decide (l = a) && decide (h = b))) w := by
  have hg : (eqGuard .eql 31 x y (.agg #[.int .i64 l, .int .i64 h]) (.agg #[.int .i64 a, .int .i64 b])).run Try.prog w = .ok () w := run_eqGuard_agg w _ _ _ _ _ _ (by kernel_rfl)
  rw [Sem.run_bind, hg, Result.andThen_ok, run_eql_struct, EqR.eq_Ports 9998 l h a b w, Bool.and_true]
  rfl
theorem inp_code (n l h : Int) (w : World) : Calls Try.prog 24 #[.int .i64 n, .agg #[.int .i64 l, .int .i64 h]] w fun e w' => e = .returned (.bool (portB n l h)) ∧ Below w.heap.size w w' := by
  obtain ⟨r, hr⟩ : ∃ r, r = portB n l h := ⟨_, rfl⟩
  rw [← hr]
  unfold portB at hr
  have WI := Lib.hid (within_i n l h)
  have B0 := Lib.hid ((Below.refl w.heap.size w).alloc (Nat.le_refl _) (.cells #[.int .i64 l, .int .i64 h] 31))
  have K0 := Lib.hid (Blk.new w 31 #[.int .i64 l, .int .i64 h])
  have k0 := K0.out.cell 0
  have k1 := K0.out.cell 1
  by_cases a0 : n < 0
  · rw [if_pos a0] at hr
    have g0 : decide (n < 0) = true := decide_eq_true a0
    clear WI
    by_cases q1 : l = 0
    · by_cases q2 : h = 65535
      · have E : Hid (r = true) := Lib.hid (by rw [hr, decide_eq_true q1, decide_eq_true q2]; rfl)
        subst q1 q2
        clear hr
        go_enter Try.func24, Try.ntmps24
        go_wp2_with (refine Loads.wpList_load_w rfl 31 (.tmp 3) rfl w.heap.size rfl 31 #[.int .i64 0, .int .i64 65535] (0, 0) _ (K0.out) Try.underlying31 rfl (by kernel_rfl) ?_)
        go_ret
        exact ⟨by rw [E.out]; rfl, B0.out⟩
      · have E : Hid (r = false) := Lib.hid (by rw [hr, decide_eq_false q2, Bool.and_false])
        have g2 : (h == 65535) = false := by rw [beq_eq_false_iff_ne]; exact q2
        subst q1
        clear hr
        go_enter Try.func24, Try.ntmps24
        go_wp2_with (refine Loads.wpList_load_w rfl 31 (.tmp 3) rfl w.heap.size rfl 31 #[.int .i64 0, .int .i64 h] (0, 0) _ (K0.out) Try.underlying31 rfl (by kernel_rfl) ?_)
        go_ret
        exact ⟨by rw [E.out]; rfl, B0.out⟩
    · have E : Hid (r = false) := Lib.hid (by rw [hr, decide_eq_false q1, Bool.false_and])
      have g1 : (l == 0) = false := by rw [beq_eq_false_iff_ne]; exact q1
      clear hr
      go_enter Try.func24, Try.ntmps24
      go_wp2_with (refine Loads.wpList_load_w rfl 31 (.tmp 3) rfl w.heap.size rfl 31 #[.int .i64 l, .int .i64 h] (0, 0) _ (K0.out) Try.underlying31 rfl (by kernel_rfl) ?_)
      go_ret
      exact ⟨by rw [E.out]; rfl, B0.out⟩
  · rw [if_neg a0] at hr
    have g0 : decide (n < 0) = false := decide_eq_false a0
    have E := Lib.hid hr
    clear hr
    go_enter Try.func24, Try.ntmps24
    go_wp2_with fail
    refine (WI.out _).mono ?_
    rintro e w2 ⟨rfl, rfl⟩
    go_wp2_with fail
    go_ret
    exact ⟨by rw [E.out]; rfl, B0.out⟩
end Go.Proofs.Ytmomkjgnopcobaa.Pick2
