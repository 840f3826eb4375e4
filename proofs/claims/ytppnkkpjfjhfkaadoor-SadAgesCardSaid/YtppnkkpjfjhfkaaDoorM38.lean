/- One call of both: those whose region draws its order. -/
import Derived.Test.YtppnkkpjfjhfkaaDoorM26
import Derived.Test.YtppnkkpjfjhfkaaDoorM17
import Derived.Test.YtppnkkpjfjhfkaaDoorM18
import Derived.Test.YtppnkkpjfjhfkaaDoorM21
import Derived.Test.YtppnkkpjfjhfkaaDoorM37
set_option linter.unusedVariables false
namespace Go.Proofs.YtppnkkpjfjhfkaaDoor.Step17
open Go.RowKit Go.Proofs.YtppnkkpjfjhfkaaDoor.Mem Go.Proofs.YtppnkkpjfjhfkaaDoor.Blk Go.Proofs.YtppnkkpjfjhfkaaDoor.ArgT Go.Proofs.YtppnkkpjfjhfkaaDoor.Part Go.Proofs.YtppnkkpjfjhfkaaDoor.Longs Go.Proofs.YtppnkkpjfjhfkaaDoor.Free Go.Proofs.YtppnkkpjfjhfkaaDoor.Steps Go.Proofs.YtppnkkpjfjhfkaaDoor.SadM Go.Proofs.YtppnkkpjfjhfkaaDoor.SadR3 Go.Proofs.YtppnkkpjfjhfkaaDoor.SadR5 Go.Proofs.YtppnkkpjfjhfkaaDoor.SadR7 Go.Proofs.YtppnkkpjfjhfkaaDoor.SadR8 Go.Proofs.YtppnkkpjfjhfkaaDoor.SadF Go.Proofs.YtppnkkpjfjhfkaaDoor.SadR10 Go.Proofs.YtppnkkpjfjhfkaaDoor.SadP Go.Proofs.YtppnkkpjfjhfkaaDoor.Two17 Go.Proofs.YtppnkkpjfjhfkaaDoor.Few17 Go.Proofs.YtppnkkpjfjhfkaaDoor.CadM Go.Proofs.YtppnkkpjfjhfkaaDoor.Cad11

def lifeOf (o : Op17R) : LifeR := ⟨o.x8, o.x9, o.x10, o.x11, o.x12, o.x13, o.x14, o.x15, o.x16, o.x17, o.x18, o.x19⟩
theorem op_at {w : World} {b : Nat} {o : Op17R} (h : Blk w b 36 (opCs o)) : At w b 0 (opCs o).toList := fun j v hj => by
  rw [Nat.zero_add, h.cell, ← Array.getElem?_toList]
  exact hj
theorem load_lifeO {w : World} {b : Nat} {o : Op17R} (h : Blk w b 36 (opCs o)) : (loadVar 34 ⟨b, 8, none⟩).run Tryd.prog w = .ok (.agg #[.int .i64 o.x8, .string o.x9, .string o.x10, .string o.x11, .bool o.x12, .int .i64 o.x13, .int .i64 o.x14, .bool o.x15, .int .i64 o.x16, .int .i64 o.x17, .int .i64 o.x18, .int .i64 o.x19]) w :=
  run_part w b 8 34 (lifeOf o).cells _ Tryd.underlying34 rfl (by kernel_rfl) ((op_at h).sub 8 12)
theorem b_eqlE (a m : Int) (x y : Operand) (w : World) : (do eqGuard .eql 42 x y (.int .i64 a) (.int .i64 m); binOp .eql 42 (.int .i64 a) (.int .i64 m) : Sem Value).run Tryd.prog w = .ok (.bool (a == m)) w := by
  simp [go_sem, eqGuard]
theorem list3 {f : Operand → Value} {x y z : Operand} {u v t : Value} (h1 : f x = u) (h2 : f y = v) (h3 : f z = t) : [x, y, z].map f = [u, v, t] := by simp [h1, h2, h3]
theorem list5 {f : Operand → Value} {x y z p q : Operand} {u v t r s : Value} (h1 : f x = u) (h2 : f y = v) (h3 : f z = t) (h4 : f p = r) (h5 : f q = s) : [x, y, z, p, q].map f = [u, v, t, r, s] := by simp [h1, h2, h3, h4, h5]
theorem ent_sAdd : Enters Tryd.prog 15 := enters_of Tryd.func15 (by kernel_rfl) rfl
theorem ent_sRemove : Enters Tryd.prog 18 := enters_of Tryd.func18 (by kernel_rfl) rfl
theorem ent_sTake : Enters Tryd.prog 19 := enters_of Tryd.func19 (by kernel_rfl) rfl
theorem ent_xAdd : Enters Tryd.prog 23 := enters_of Tryd.func23 (by kernel_rfl) rfl
theorem ent_xRemove : Enters Tryd.prog 24 := enters_of Tryd.func24 (by kernel_rfl) rfl
theorem ent_xTake : Enters Tryd.prog 29 := enters_of Tryd.func29 (by kernel_rfl) rfl

set_option maxRecDepth 100000 in
set_option maxHeartbeats 4000000 in
theorem step_add (w0 : World) (C0 : Nat → Nat) (gs gx k : Nat) (es : List Ent) (o : Op17R) (w : World) (T : Two CadF SadF w0 C0 gs gx w es es) (hA : IsObj CadF) (hB : IsObj SadF) (G : SadP.Good k es) (hk : k ≤ 1000) (fit : fitsOp o) (n1 : -9223372036854775808 ≤ o.x4) (q0 : 0 ≤ o.x7 ∧ o.x7 ≤ 18446744073709551615) (g0 : (o.x0 == 0) = true) :
    Calls Tryd.prog 10 #[.pointer (some ⟨gs, 0, none⟩), .pointer (some ⟨gx, 0, none⟩), .agg (opCs o)] w fun er w' => er = .returned (.bool true) ∧ Two CadF SadF w0 C0 gs gx w' (addS o.x1 (lifeOf o) es).2 (addS o.x1 (lifeOf o) es).2 := by
  obtain ⟨R, hR⟩ : ∃ R, R = addS o.x1 (lifeOf o) es := ⟨_, rfl⟩
  rw [← hR]
  obtain ⟨C1, hb0, T1, back⟩ := T.start hA hB (.cells (opCs o) 36)
  have f1 := fit.2.2.1
  have f2 := fit.2.2.2
  have f3 := fit.2.1
  have J : Blk (w.alloc (.cells (opCs o) 36)) w.heap.size 36 (opCs o) := Blk.new w _ _
  have c0 : (w.alloc (.cells (opCs o) 36)).cell? ⟨w.heap.size, 0, none⟩ = some (.int .i64 o.x0) := J.cell 0
  have q64 : o.x7.toNat < Q64 := by
    unfold Q64
    omega
  have e7 : ((o.x7.toNat : Nat) : Int) = o.x7 := Int.toNat_of_nonneg q0.1
  have HH := Lib.hid (And.intro T1 (And.intro back J))
  have CB := Lib.hid hb0
  have GG := Lib.hid G
  have FF := Lib.hid (And.intro f1 (And.intro f2 (And.intro f3 (And.intro n1 (And.intro hk (And.intro q64 e7))))))
  have HRR := Lib.hid hR
  clear T G fit f1 f2 f3 n1 q0 hk q64 e7 T1 back J hb0 hR
  go_enter Tryd.func10, Tryd.ntmps10
  go_wp2_with fail
  clear c0
  obtain ⟨T1, back, J⟩ := HH.out
  obtain ⟨f1, f2, f3, n1, hk, q64, e7⟩ := FF.out
  have G := GG.out
  have hR := HRR.out
  have hb0 := CB.out
  obtain ⟨b, hb⟩ : ∃ b, b = w.heap.size := ⟨_, rfl⟩
  rw [← hb] at J hb0
  rw [← hb]
  generalize w.alloc (.cells (opCs o) 36) = w1 at *
  obtain ⟨I, hIe⟩ : ∃ I : (Nat → Bool) → World → Prop, I = fun L V => Two CadF SadF w1 C1 gs gx V (if L 5 = true then R.2 else es) (if L 11 = true then R.2 else es) := ⟨_, rfl⟩
  have BX : Hid (∀ {L : Nat → Bool} V, I L V → Blk V b 36 (opCs o)) := Lib.hid (by
    subst hIe
    exact fun V hV => Two.blk hV J hb0)
  have KP : Hid (∀ L i V, i ≠ 5 → i ≠ 11 → I L V → I (FreeI.mark L i) V) := Lib.hid (by
    subst hIe
    intro L i V hi hj h
    show Two CadF SadF w1 C1 gs gx V (if FreeI.mark L i 5 = true then R.2 else es) (if FreeI.mark L i 11 = true then R.2 else es)
    unfold FreeI.mark
    rw [if_neg (Ne.symm hi), if_neg (Ne.symm hj)]
    exact h)
  refine FreeI.wp_region_freeI [0, 1, 2, 3, 4, 5, 6, 7, 8, 9, 10, 11] 12 [13] [] I (fun k' v => match k' with
    | 0 => v = .pointer (some ⟨gs, 0, none⟩)
    | 1 => v = .pointer (some ⟨b, 1, none⟩)
    | 2 => v = .int .i64 o.x1
    | 3 => v = .pointer (some ⟨b, 8, none⟩)
    | 4 => v = .agg #[.int .i64 o.x8, .string o.x9, .string o.x10, .string o.x11, .bool o.x12, .int .i64 o.x13, .int .i64 o.x14, .bool o.x15, .int .i64 o.x16, .int .i64 o.x17, .int .i64 o.x18, .int .i64 o.x19]
    | 5 => v = .int .i64 ((R.1 : Nat) : Int)
    | 6 => v = .pointer (some ⟨gx, 0, none⟩)
    | 7 => v = .pointer (some ⟨b, 1, none⟩)
    | 8 => v = .int .i64 o.x1
    | 9 => v = .pointer (some ⟨b, 8, none⟩)
    | 10 => v = .agg #[.int .i64 o.x8, .string o.x9, .string o.x10, .string o.x11, .bool o.x12, .int .i64 o.x13, .int .i64 o.x14, .bool o.x15, .int .i64 o.x16, .int .i64 o.x17, .int .i64 o.x18, .int .i64 o.x19]
    | _ => v = .int .i64 ((R.1 : Nat) : Int)) (by kernel_rfl) (by kernel_rfl) (fun q hq => by cases hq) (fun L hL => ?_) (fun _ _ _ _ _ h => h) ?_ _ (by rfl) ?_
  · rw [hIe]
    show Two CadF SadF w1 C1 gs gx w1.drew (if L 5 = true then R.2 else es) (if L 11 = true then R.2 else es)
    rw [hL 5 (by simp), hL 11 (by simp)]
    exact T1.drew hA hB
  · refine (FreeI.obsI_cons (by rfl) (fun vals w' L hI hL hdep K hK => ?_) (FreeI.obsI_cons (by rfl) (fun vals w' L hI hL hdep K hK => ?_) (FreeI.obsI_cons (by rfl) (fun vals w' L hI hL hdep K hK => ?_) (FreeI.obsI_cons (by rfl) (fun vals w' L hI hL hdep K hK => ?_) (FreeI.obsI_cons (by rfl) (fun vals w' L hI hL hdep K hK => ?_) (FreeI.obsI_cons (by rfl) (fun vals w' L hI hL hdep K hK => ?_) (FreeI.obsI_cons (by rfl) (fun vals w' L hI hL hdep K hK => ?_) (FreeI.obsI_cons (by rfl) (fun vals w' L hI hL hdep K hK => ?_) (FreeI.obsI_cons (by rfl) (fun vals w' L hI hL hdep K hK => ?_) (FreeI.obsI_cons (by rfl) (fun vals w' L hI hL hdep K hK => ?_) (FreeI.obsI_cons (by rfl) (fun vals w' L hI hL hdep K hK => ?_) (FreeI.obsI_cons (by rfl) (fun vals w' L hI hL hdep K hK => ?_) FreeI.obsI_nil))))))))))))
    · exact wp_move (.tmp 0) rfl _ (at_out _ (by kernel_rfl) rfl) (hK _ _ (KP.out L 0 _ (by decide) (by decide) hI) rfl)
    · exact wp_field (.tmp 5) rfl _ _ (at_out _ (by kernel_rfl) rfl) (by kernel_rfl) (hK _ _ (KP.out L 1 _ (by decide) (by decide) hI) rfl)
    · exact wp_load1 (.tmp 32) rfl ⟨b, 1, none⟩ ((at_dst 1 (by kernel_rfl)).trans (hdep 1 (by simp) (by kernel_rfl)).2) Tryd.underlying3 rfl _ ((BX.out w' hI).cell 1) (hK _ _ (KP.out L 2 _ (by decide) (by decide) hI) rfl)
    · exact wp_field (.tmp 5) rfl _ _ (at_out _ (by kernel_rfl) rfl) (by kernel_rfl) (hK _ _ (KP.out L 3 _ (by decide) (by decide) hI) rfl)
    · exact st_load_part 34 (.tmp 34) rfl b 8 (lifeOf o).cells ((at_dst 3 (by kernel_rfl)).trans (hdep 3 (by simp) (by kernel_rfl)).2) (load_lifeO (BX.out w' hI)) (hK _ _ (KP.out L 4 _ (by decide) (by decide) hI) rfl)
    · have hT : Two CadF SadF w1 C1 gs gx w' es (if L 11 = true then R.2 else es) := by
        have := hI
        rw [hIe] at this
        simp only [hL, Bool.false_eq_true, if_false] at this
        exact this
      refine wp_call 15 [.tmp 31, .tmp 33, .tmp 35] _ rfl ent_sAdd [.pointer (some ⟨gs, 0, none⟩), .int .i64 o.x1, .agg #[.int .i64 o.x8, .string o.x9, .string o.x10, .string o.x11, .bool o.x12, .int .i64 o.x13, .int .i64 o.x14, .bool o.x15, .int .i64 o.x16, .int .i64 o.x17, .int .i64 o.x18, .int .i64 o.x19]] (list3 ((at_dst 0 (by kernel_rfl)).trans (hdep 0 (by simp) (by kernel_rfl)).2) ((at_dst 2 (by kernel_rfl)).trans (hdep 2 (by simp) (by kernel_rfl)).2) ((at_dst 4 (by kernel_rfl)).trans (hdep 4 (by simp) (by kernel_rfl)).2)) (fun v w'' => v = .int .i64 ((R.1 : Nat) : Int) ∧ I (FreeI.mark L 5) w'') ((Two.fst (e1 := R.2) hA hB hT fun F g hg hF => by rw [hR]; exact cadd_F F gs es o.x1 (lifeOf o) w' g hg hF (by have := G.few; omega)).mono fun er w'' ⟨h1, h2⟩ => ⟨_, h1, rfl, by
      rw [hIe]
      show Two CadF SadF w1 C1 gs gx w'' (if FreeI.mark L 5 5 = true then R.2 else es) (if FreeI.mark L 5 11 = true then R.2 else es)
      simpa [FreeI.mark] using h2⟩) (fun v w'' ⟨h1, h2⟩ => hK _ _ h2 h1)
    · exact wp_move (.tmp 1) rfl _ (at_out _ (by kernel_rfl) rfl) (hK _ _ (KP.out L 6 _ (by decide) (by decide) hI) rfl)
    · exact wp_field (.tmp 5) rfl _ _ (at_out _ (by kernel_rfl) rfl) (by kernel_rfl) (hK _ _ (KP.out L 7 _ (by decide) (by decide) hI) rfl)
    · exact wp_load1 (.tmp 38) rfl ⟨b, 1, none⟩ ((at_dst 7 (by kernel_rfl)).trans (hdep 7 (by simp) (by kernel_rfl)).2) Tryd.underlying3 rfl _ ((BX.out w' hI).cell 1) (hK _ _ (KP.out L 8 _ (by decide) (by decide) hI) rfl)
    · exact wp_field (.tmp 5) rfl _ _ (at_out _ (by kernel_rfl) rfl) (by kernel_rfl) (hK _ _ (KP.out L 9 _ (by decide) (by decide) hI) rfl)
    · exact st_load_part 34 (.tmp 40) rfl b 8 (lifeOf o).cells ((at_dst 9 (by kernel_rfl)).trans (hdep 9 (by simp) (by kernel_rfl)).2) (load_lifeO (BX.out w' hI)) (hK _ _ (KP.out L 10 _ (by decide) (by decide) hI) rfl)
    · have hT : Two CadF SadF w1 C1 gs gx w' (if L 5 = true then R.2 else es) es := by
        have := hI
        rw [hIe] at this
        simp only [hL, Bool.false_eq_true, if_false] at this
        exact this
      refine wp_call 23 [.tmp 37, .tmp 39, .tmp 41] _ rfl ent_xAdd [.pointer (some ⟨gx, 0, none⟩), .int .i64 o.x1, .agg #[.int .i64 o.x8, .string o.x9, .string o.x10, .string o.x11, .bool o.x12, .int .i64 o.x13, .int .i64 o.x14, .bool o.x15, .int .i64 o.x16, .int .i64 o.x17, .int .i64 o.x18, .int .i64 o.x19]] (list3 ((at_dst 6 (by kernel_rfl)).trans (hdep 6 (by simp) (by kernel_rfl)).2) ((at_dst 8 (by kernel_rfl)).trans (hdep 8 (by simp) (by kernel_rfl)).2) ((at_dst 10 (by kernel_rfl)).trans (hdep 10 (by simp) (by kernel_rfl)).2)) (fun v w'' => v = .int .i64 ((R.1 : Nat) : Int) ∧ I (FreeI.mark L 11) w'') ((Two.snd (e1 := R.2) hA hB hT fun F g hF => by rw [hR]; exact add_F F gx es o.x1 (lifeOf o) w' g hF (by have := G.few; omega)).mono fun er w'' ⟨h1, h2⟩ => ⟨_, h1, rfl, by
      rw [hIe]
      show Two CadF SadF w1 C1 gs gx w'' (if FreeI.mark L 11 5 = true then R.2 else es) (if FreeI.mark L 11 11 = true then R.2 else es)
      simpa [FreeI.mark] using h2⟩) (fun v w'' ⟨h1, h2⟩ => hK _ _ h2 h1)
  · intro vals w' L hI hL hV
    have TT : Two CadF SadF w1 C1 gs gx w' R.2 R.2 := by
      have := hI
      rw [hIe] at this
      rw [hL 5 (by simp), hL 11 (by simp)] at this
      exact this
    have BB := Lib.hid (back w' _ _ TT)
    refine wp_bin (.tmp 36) (.tmp 42) rfl _ _ _ ((at_dst 5 (by kernel_rfl)).trans (hV 5 (by simp))) ((at_dst 11 (by kernel_rfl)).trans (hV 11 (by simp))) (b_eqlE _ _ _ _ _) ?_
    refine wpAnyH_next 13 _ rfl rfl (by kernel_rfl) (st_assign (.tmp 43) (.bool (((R.1 : Nat) : Int) == ((R.1 : Nat) : Int))) rfl (put_tmps_eq (fill_size _ _ _) (by kernel_rfl)) ⟨trivial, wpAnyH_done (by kernel_rfl) ?_ _⟩)
    clear hI hL hV TT KP BX hIe
    simp only [fill, dstAt, List.getElem?_cons_zero, List.getElem?_cons_succ, Option.bind_some, Act.put, List.setIfInBounds_toArray, List.set_cons_zero, List.set_cons_succ]
    generalize vals 0 = z0, vals 1 = z1, vals 2 = z2, vals 3 = z3, vals 4 = z4, vals 5 = z5, vals 6 = z6, vals 7 = z7, vals 8 = z8, vals 9 = z9, vals 10 = z10, vals 11 = z11 at *
    generalize w' = w5 at *
    go_wp2_with fail
    go_ret
    exact ⟨by simp, BB.out⟩

set_option maxRecDepth 100000 in
set_option maxHeartbeats 4000000 in
theorem step_remove (w0 : World) (C0 : Nat → Nat) (gs gx k : Nat) (es : List Ent) (o : Op17R) (w : World) (T : Two CadF SadF w0 C0 gs gx w es es) (hA : IsObj CadF) (hB : IsObj SadF) (G : SadP.Good k es) (hk : k ≤ 1000) (fit : fitsOp o) (n1 : -9223372036854775808 ≤ o.x4) (q0 : 0 ≤ o.x7 ∧ o.x7 ≤ 18446744073709551615) (g0 : (o.x0 == 0) = false) (g1 : (o.x0 == 1) = true) :
    Calls Tryd.prog 10 #[.pointer (some ⟨gs, 0, none⟩), .pointer (some ⟨gx, 0, none⟩), .agg (opCs o)] w fun er w' => er = .returned (.bool true) ∧ Two CadF SadF w0 C0 gs gx w' (removeS o.x2 o.x6 es).2 (removeS o.x2 o.x6 es).2 := by
  obtain ⟨R, hR⟩ : ∃ R, R = removeS o.x2 o.x6 es := ⟨_, rfl⟩
  rw [← hR]
  obtain ⟨C1, hb0, T1, back⟩ := T.start hA hB (.cells (opCs o) 36)
  have f1 := fit.2.2.1
  have f2 := fit.2.2.2
  have f3 := fit.2.1
  have J : Blk (w.alloc (.cells (opCs o) 36)) w.heap.size 36 (opCs o) := Blk.new w _ _
  have c0 : (w.alloc (.cells (opCs o) 36)).cell? ⟨w.heap.size, 0, none⟩ = some (.int .i64 o.x0) := J.cell 0
  have q64 : o.x7.toNat < Q64 := by
    unfold Q64
    omega
  have e7 : ((o.x7.toNat : Nat) : Int) = o.x7 := Int.toNat_of_nonneg q0.1
  have HH := Lib.hid (And.intro T1 (And.intro back J))
  have CB := Lib.hid hb0
  have GG := Lib.hid G
  have FF := Lib.hid (And.intro f1 (And.intro f2 (And.intro f3 (And.intro n1 (And.intro hk (And.intro q64 e7))))))
  have HRR := Lib.hid hR
  clear T G fit f1 f2 f3 n1 q0 hk q64 e7 T1 back J hb0 hR
  go_enter Tryd.func10, Tryd.ntmps10
  go_wp2_with fail
  clear c0
  obtain ⟨T1, back, J⟩ := HH.out
  obtain ⟨f1, f2, f3, n1, hk, q64, e7⟩ := FF.out
  have G := GG.out
  have hR := HRR.out
  have hb0 := CB.out
  obtain ⟨b, hb⟩ : ∃ b, b = w.heap.size := ⟨_, rfl⟩
  rw [← hb] at J hb0
  rw [← hb]
  generalize w.alloc (.cells (opCs o) 36) = w1 at *
  obtain ⟨I, hIe⟩ : ∃ I : (Nat → Bool) → World → Prop, I = fun L V => Two CadF SadF w1 C1 gs gx V (if L 5 = true then R.2 else es) (if L 11 = true then R.2 else es) := ⟨_, rfl⟩
  have BX : Hid (∀ {L : Nat → Bool} V, I L V → Blk V b 36 (opCs o)) := Lib.hid (by
    subst hIe
    exact fun V hV => Two.blk hV J hb0)
  have KP : Hid (∀ L i V, i ≠ 5 → i ≠ 11 → I L V → I (FreeI.mark L i) V) := Lib.hid (by
    subst hIe
    intro L i V hi hj h
    show Two CadF SadF w1 C1 gs gx V (if FreeI.mark L i 5 = true then R.2 else es) (if FreeI.mark L i 11 = true then R.2 else es)
    unfold FreeI.mark
    rw [if_neg (Ne.symm hi), if_neg (Ne.symm hj)]
    exact h)
  refine FreeI.wp_region_freeI [0, 1, 2, 3, 4, 5, 6, 7, 8, 9, 10, 11] 12 [13] [] I (fun k' v => match k' with
    | 0 => v = .pointer (some ⟨gs, 0, none⟩)
    | 1 => v = .pointer (some ⟨b, 2, none⟩)
    | 2 => v = .int .i64 o.x2
    | 3 => v = .pointer (some ⟨b, 6, none⟩)
    | 4 => v = .bool o.x6
    | 5 => v = .int .i64 ((R.1 : Nat) : Int)
    | 6 => v = .pointer (some ⟨gx, 0, none⟩)
    | 7 => v = .pointer (some ⟨b, 2, none⟩)
    | 8 => v = .int .i64 o.x2
    | 9 => v = .pointer (some ⟨b, 6, none⟩)
    | 10 => v = .bool o.x6
    | _ => v = .int .i64 ((R.1 : Nat) : Int)) (by kernel_rfl) (by kernel_rfl) (fun q hq => by cases hq) (fun L hL => ?_) (fun _ _ _ _ _ h => h) ?_ _ (by rfl) ?_
  · rw [hIe]
    show Two CadF SadF w1 C1 gs gx w1.drew (if L 5 = true then R.2 else es) (if L 11 = true then R.2 else es)
    rw [hL 5 (by simp), hL 11 (by simp)]
    exact T1.drew hA hB
  · refine (FreeI.obsI_cons (by rfl) (fun vals w' L hI hL hdep K hK => ?_) (FreeI.obsI_cons (by rfl) (fun vals w' L hI hL hdep K hK => ?_) (FreeI.obsI_cons (by rfl) (fun vals w' L hI hL hdep K hK => ?_) (FreeI.obsI_cons (by rfl) (fun vals w' L hI hL hdep K hK => ?_) (FreeI.obsI_cons (by rfl) (fun vals w' L hI hL hdep K hK => ?_) (FreeI.obsI_cons (by rfl) (fun vals w' L hI hL hdep K hK => ?_) (FreeI.obsI_cons (by rfl) (fun vals w' L hI hL hdep K hK => ?_) (FreeI.obsI_cons (by rfl) (fun vals w' L hI hL hdep K hK => ?_) (FreeI.obsI_cons (by rfl) (fun vals w' L hI hL hdep K hK => ?_) (FreeI.obsI_cons (by rfl) (fun vals w' L hI hL hdep K hK => ?_) (FreeI.obsI_cons (by rfl) (fun vals w' L hI hL hdep K hK => ?_) (FreeI.obsI_cons (by rfl) (fun vals w' L hI hL hdep K hK => ?_) FreeI.obsI_nil))))))))))))
    · exact wp_move (.tmp 0) rfl _ (at_out _ (by kernel_rfl) rfl) (hK _ _ (KP.out L 0 _ (by decide) (by decide) hI) rfl)
    · exact wp_field (.tmp 5) rfl _ _ (at_out _ (by kernel_rfl) rfl) (by kernel_rfl) (hK _ _ (KP.out L 1 _ (by decide) (by decide) hI) rfl)
    · exact wp_load1 (.tmp 47) rfl ⟨b, 2, none⟩ ((at_dst 1 (by kernel_rfl)).trans (hdep 1 (by simp) (by kernel_rfl)).2) Tryd.underlying3 rfl _ ((BX.out w' hI).cell 2) (hK _ _ (KP.out L 2 _ (by decide) (by decide) hI) rfl)
    · exact wp_field (.tmp 5) rfl _ _ (at_out _ (by kernel_rfl) rfl) (by kernel_rfl) (hK _ _ (KP.out L 3 _ (by decide) (by decide) hI) rfl)
    · exact wp_load1 (.tmp 49) rfl ⟨b, 6, none⟩ ((at_dst 3 (by kernel_rfl)).trans (hdep 3 (by simp) (by kernel_rfl)).2) Tryd.underlying4 rfl _ ((BX.out w' hI).cell 6) (hK _ _ (KP.out L 4 _ (by decide) (by decide) hI) rfl)
    · have hT : Two CadF SadF w1 C1 gs gx w' es (if L 11 = true then R.2 else es) := by
        have := hI
        rw [hIe] at this
        simp only [hL, Bool.false_eq_true, if_false] at this
        exact this
      refine wp_call 18 [.tmp 46, .tmp 48, .tmp 50] _ rfl ent_sRemove [.pointer (some ⟨gs, 0, none⟩), .int .i64 o.x2, .bool o.x6] (list3 ((at_dst 0 (by kernel_rfl)).trans (hdep 0 (by simp) (by kernel_rfl)).2) ((at_dst 2 (by kernel_rfl)).trans (hdep 2 (by simp) (by kernel_rfl)).2) ((at_dst 4 (by kernel_rfl)).trans (hdep 4 (by simp) (by kernel_rfl)).2)) (fun v w'' => v = .int .i64 ((R.1 : Nat) : Int) ∧ I (FreeI.mark L 5) w'') ((Two.fst (e1 := R.2) hA hB hT fun F g hg hF => by rw [hR]; exact cremove_F F gs es o.x2 o.x6 w' g hg hF (by have := G.few; omega)).mono fun er w'' ⟨h1, h2⟩ => ⟨_, h1, rfl, by
      rw [hIe]
      show Two CadF SadF w1 C1 gs gx w'' (if FreeI.mark L 5 5 = true then R.2 else es) (if FreeI.mark L 5 11 = true then R.2 else es)
      simpa [FreeI.mark] using h2⟩) (fun v w'' ⟨h1, h2⟩ => hK _ _ h2 h1)
    · exact wp_move (.tmp 1) rfl _ (at_out _ (by kernel_rfl) rfl) (hK _ _ (KP.out L 6 _ (by decide) (by decide) hI) rfl)
    · exact wp_field (.tmp 5) rfl _ _ (at_out _ (by kernel_rfl) rfl) (by kernel_rfl) (hK _ _ (KP.out L 7 _ (by decide) (by decide) hI) rfl)
    · exact wp_load1 (.tmp 53) rfl ⟨b, 2, none⟩ ((at_dst 7 (by kernel_rfl)).trans (hdep 7 (by simp) (by kernel_rfl)).2) Tryd.underlying3 rfl _ ((BX.out w' hI).cell 2) (hK _ _ (KP.out L 8 _ (by decide) (by decide) hI) rfl)
    · exact wp_field (.tmp 5) rfl _ _ (at_out _ (by kernel_rfl) rfl) (by kernel_rfl) (hK _ _ (KP.out L 9 _ (by decide) (by decide) hI) rfl)
    · exact wp_load1 (.tmp 55) rfl ⟨b, 6, none⟩ ((at_dst 9 (by kernel_rfl)).trans (hdep 9 (by simp) (by kernel_rfl)).2) Tryd.underlying4 rfl _ ((BX.out w' hI).cell 6) (hK _ _ (KP.out L 10 _ (by decide) (by decide) hI) rfl)
    · have hT : Two CadF SadF w1 C1 gs gx w' (if L 5 = true then R.2 else es) es := by
        have := hI
        rw [hIe] at this
        simp only [hL, Bool.false_eq_true, if_false] at this
        exact this
      refine wp_call 24 [.tmp 52, .tmp 54, .tmp 56] _ rfl ent_xRemove [.pointer (some ⟨gx, 0, none⟩), .int .i64 o.x2, .bool o.x6] (list3 ((at_dst 6 (by kernel_rfl)).trans (hdep 6 (by simp) (by kernel_rfl)).2) ((at_dst 8 (by kernel_rfl)).trans (hdep 8 (by simp) (by kernel_rfl)).2) ((at_dst 10 (by kernel_rfl)).trans (hdep 10 (by simp) (by kernel_rfl)).2)) (fun v w'' => v = .int .i64 ((R.1 : Nat) : Int) ∧ I (FreeI.mark L 11) w'') ((Two.snd (e1 := R.2) hA hB hT fun F g hF => by rw [hR]; exact remove_F F gx es o.x2 o.x6 w' g hF (by have := G.few; omega)).mono fun er w'' ⟨h1, h2⟩ => ⟨_, h1, rfl, by
      rw [hIe]
      show Two CadF SadF w1 C1 gs gx w'' (if FreeI.mark L 11 5 = true then R.2 else es) (if FreeI.mark L 11 11 = true then R.2 else es)
      simpa [FreeI.mark] using h2⟩) (fun v w'' ⟨h1, h2⟩ => hK _ _ h2 h1)
  · intro vals w' L hI hL hV
    have TT : Two CadF SadF w1 C1 gs gx w' R.2 R.2 := by
      have := hI
      rw [hIe] at this
      rw [hL 5 (by simp), hL 11 (by simp)] at this
      exact this
    have BB := Lib.hid (back w' _ _ TT)
    refine wp_bin (.tmp 51) (.tmp 57) rfl _ _ _ ((at_dst 5 (by kernel_rfl)).trans (hV 5 (by simp))) ((at_dst 11 (by kernel_rfl)).trans (hV 11 (by simp))) (b_eqlE _ _ _ _ _) ?_
    refine wpAnyH_next 13 _ rfl rfl (by kernel_rfl) (st_assign (.tmp 58) (.bool (((R.1 : Nat) : Int) == ((R.1 : Nat) : Int))) rfl (put_tmps_eq (fill_size _ _ _) (by kernel_rfl)) ⟨trivial, wpAnyH_done (by kernel_rfl) ?_ _⟩)
    clear hI hL hV TT KP BX hIe
    simp only [fill, dstAt, List.getElem?_cons_zero, List.getElem?_cons_succ, Option.bind_some, Act.put, List.setIfInBounds_toArray, List.set_cons_zero, List.set_cons_succ]
    generalize vals 0 = z0, vals 1 = z1, vals 2 = z2, vals 3 = z3, vals 4 = z4, vals 5 = z5, vals 6 = z6, vals 7 = z7, vals 8 = z8, vals 9 = z9, vals 10 = z10, vals 11 = z11 at *
    generalize w' = w5 at *
    go_wp2_with fail
    go_ret
    exact ⟨by simp, BB.out⟩

set_option maxRecDepth 100000 in
set_option maxHeartbeats 4000000 in
theorem step_take (w0 : World) (C0 : Nat → Nat) (gs gx k : Nat) (es : List Ent) (o : Op17R) (w : World) (T : Two CadF SadF w0 C0 gs gx w es es) (hA : IsObj CadF) (hB : IsObj SadF) (G : SadP.Good k es) (hk : k ≤ 1000) (fit : fitsOp o) (n1 : -9223372036854775808 ≤ o.x4) (q0 : 0 ≤ o.x7 ∧ o.x7 ≤ 18446744073709551615) (g0 : (o.x0 == 0) = false) (g1 : (o.x0 == 1) = false) (g2 : (o.x0 == 2) = false) (g3 : (o.x0 == 3) = false) (g4 : (o.x0 == 4) = false) (g5 : (o.x0 == 5) = false) :
    Calls Tryd.prog 10 #[.pointer (some ⟨gs, 0, none⟩), .pointer (some ⟨gx, 0, none⟩), .agg (opCs o)] w fun er w' => er = .returned (.bool true) ∧ Two CadF SadF w0 C0 gs gx w' (takeS o.x1 o.x2 o.x7.toNat o.x4 es).2 (takeS o.x1 o.x2 o.x7.toNat o.x4 es).2 := by
  obtain ⟨R, hR⟩ : ∃ R, R = takeS o.x1 o.x2 o.x7.toNat o.x4 es := ⟨_, rfl⟩
  rw [← hR]
  obtain ⟨C1, hb0, T1, back⟩ := T.start hA hB (.cells (opCs o) 36)
  have f1 := fit.2.2.1
  have f2 := fit.2.2.2
  have f3 := fit.2.1
  have J : Blk (w.alloc (.cells (opCs o) 36)) w.heap.size 36 (opCs o) := Blk.new w _ _
  have c0 : (w.alloc (.cells (opCs o) 36)).cell? ⟨w.heap.size, 0, none⟩ = some (.int .i64 o.x0) := J.cell 0
  have q64 : o.x7.toNat < Q64 := by
    unfold Q64
    omega
  have e7 : ((o.x7.toNat : Nat) : Int) = o.x7 := Int.toNat_of_nonneg q0.1
  have HH := Lib.hid (And.intro T1 (And.intro back J))
  have CB := Lib.hid hb0
  have GG := Lib.hid G
  have FF := Lib.hid (And.intro f1 (And.intro f2 (And.intro f3 (And.intro n1 (And.intro hk (And.intro q64 e7))))))
  have HRR := Lib.hid hR
  clear T G fit f1 f2 f3 n1 q0 hk q64 e7 T1 back J hb0 hR
  go_enter Tryd.func10, Tryd.ntmps10
  go_wp2_with fail
  clear c0
  obtain ⟨T1, back, J⟩ := HH.out
  obtain ⟨f1, f2, f3, n1, hk, q64, e7⟩ := FF.out
  have G := GG.out
  have hR := HRR.out
  have hb0 := CB.out
  obtain ⟨b, hb⟩ : ∃ b, b = w.heap.size := ⟨_, rfl⟩
  rw [← hb] at J hb0
  rw [← hb]
  generalize w.alloc (.cells (opCs o) 36) = w1 at *
  obtain ⟨I, hIe⟩ : ∃ I : (Nat → Bool) → World → Prop, I = fun L V => Two CadF SadF w1 C1 gs gx V (if L 9 = true then R.2 else es) (if L 19 = true then R.2 else es) := ⟨_, rfl⟩
  have BX : Hid (∀ {L : Nat → Bool} V, I L V → Blk V b 36 (opCs o)) := Lib.hid (by
    subst hIe
    exact fun V hV => Two.blk hV J hb0)
  have KP : Hid (∀ L i V, i ≠ 9 → i ≠ 19 → I L V → I (FreeI.mark L i) V) := Lib.hid (by
    subst hIe
    intro L i V hi hj h
    show Two CadF SadF w1 C1 gs gx V (if FreeI.mark L i 9 = true then R.2 else es) (if FreeI.mark L i 19 = true then R.2 else es)
    unfold FreeI.mark
    rw [if_neg (Ne.symm hi), if_neg (Ne.symm hj)]
    exact h)
  refine FreeI.wp_region_freeI [0, 1, 2, 3, 4, 5, 6, 7, 8, 9, 10, 11, 12, 13, 14, 15, 16, 17, 18, 19] 20 [21] [] I (fun k' v => match k' with
    | 0 => v = .pointer (some ⟨gs, 0, none⟩)
    | 1 => v = .pointer (some ⟨b, 1, none⟩)
    | 2 => v = .int .i64 o.x1
    | 3 => v = .pointer (some ⟨b, 2, none⟩)
    | 4 => v = .int .i64 o.x2
    | 5 => v = .pointer (some ⟨b, 7, none⟩)
    | 6 => v = .int .u64 ((o.x7.toNat : Nat) : Int)
    | 7 => v = .pointer (some ⟨b, 4, none⟩)
    | 8 => v = .int .i64 o.x4
    | 9 => v = .int .i64 ((R.1 : Nat) : Int)
    | 10 => v = .pointer (some ⟨gx, 0, none⟩)
    | 11 => v = .pointer (some ⟨b, 1, none⟩)
    | 12 => v = .int .i64 o.x1
    | 13 => v = .pointer (some ⟨b, 2, none⟩)
    | 14 => v = .int .i64 o.x2
    | 15 => v = .pointer (some ⟨b, 7, none⟩)
    | 16 => v = .int .u64 ((o.x7.toNat : Nat) : Int)
    | 17 => v = .pointer (some ⟨b, 4, none⟩)
    | 18 => v = .int .i64 o.x4
    | _ => v = .int .i64 ((R.1 : Nat) : Int)) (by kernel_rfl) (by kernel_rfl) (fun q hq => by cases hq) (fun L hL => ?_) (fun _ _ _ _ _ h => h) ?_ _ (by rfl) ?_
  · rw [hIe]
    show Two CadF SadF w1 C1 gs gx w1.drew (if L 9 = true then R.2 else es) (if L 19 = true then R.2 else es)
    rw [hL 9 (by simp), hL 19 (by simp)]
    exact T1.drew hA hB
  · refine (FreeI.obsI_cons (by rfl) (fun vals w' L hI hL hdep K hK => ?_) (FreeI.obsI_cons (by rfl) (fun vals w' L hI hL hdep K hK => ?_) (FreeI.obsI_cons (by rfl) (fun vals w' L hI hL hdep K hK => ?_) (FreeI.obsI_cons (by rfl) (fun vals w' L hI hL hdep K hK => ?_) (FreeI.obsI_cons (by rfl) (fun vals w' L hI hL hdep K hK => ?_) (FreeI.obsI_cons (by rfl) (fun vals w' L hI hL hdep K hK => ?_) (FreeI.obsI_cons (by rfl) (fun vals w' L hI hL hdep K hK => ?_) (FreeI.obsI_cons (by rfl) (fun vals w' L hI hL hdep K hK => ?_) (FreeI.obsI_cons (by rfl) (fun vals w' L hI hL hdep K hK => ?_) (FreeI.obsI_cons (by rfl) (fun vals w' L hI hL hdep K hK => ?_) (FreeI.obsI_cons (by rfl) (fun vals w' L hI hL hdep K hK => ?_) (FreeI.obsI_cons (by rfl) (fun vals w' L hI hL hdep K hK => ?_) (FreeI.obsI_cons (by rfl) (fun vals w' L hI hL hdep K hK => ?_) (FreeI.obsI_cons (by rfl) (fun vals w' L hI hL hdep K hK => ?_) (FreeI.obsI_cons (by rfl) (fun vals w' L hI hL hdep K hK => ?_) (FreeI.obsI_cons (by rfl) (fun vals w' L hI hL hdep K hK => ?_) (FreeI.obsI_cons (by rfl) (fun vals w' L hI hL hdep K hK => ?_) (FreeI.obsI_cons (by rfl) (fun vals w' L hI hL hdep K hK => ?_) (FreeI.obsI_cons (by rfl) (fun vals w' L hI hL hdep K hK => ?_) (FreeI.obsI_cons (by rfl) (fun vals w' L hI hL hdep K hK => ?_) FreeI.obsI_nil))))))))))))))))))))
    · exact wp_move (.tmp 0) rfl _ (at_out _ (by kernel_rfl) rfl) (hK _ _ (KP.out L 0 _ (by decide) (by decide) hI) rfl)
    · exact wp_field (.tmp 5) rfl _ _ (at_out _ (by kernel_rfl) rfl) (by kernel_rfl) (hK _ _ (KP.out L 1 _ (by decide) (by decide) hI) rfl)
    · exact wp_load1 (.tmp 198) rfl ⟨b, 1, none⟩ ((at_dst 1 (by kernel_rfl)).trans (hdep 1 (by simp) (by kernel_rfl)).2) Tryd.underlying3 rfl _ ((BX.out w' hI).cell 1) (hK _ _ (KP.out L 2 _ (by decide) (by decide) hI) rfl)
    · exact wp_field (.tmp 5) rfl _ _ (at_out _ (by kernel_rfl) rfl) (by kernel_rfl) (hK _ _ (KP.out L 3 _ (by decide) (by decide) hI) rfl)
    · exact wp_load1 (.tmp 200) rfl ⟨b, 2, none⟩ ((at_dst 3 (by kernel_rfl)).trans (hdep 3 (by simp) (by kernel_rfl)).2) Tryd.underlying3 rfl _ ((BX.out w' hI).cell 2) (hK _ _ (KP.out L 4 _ (by decide) (by decide) hI) rfl)
    · exact wp_field (.tmp 5) rfl _ _ (at_out _ (by kernel_rfl) rfl) (by kernel_rfl) (hK _ _ (KP.out L 5 _ (by decide) (by decide) hI) rfl)
    · exact wp_load1 (.tmp 202) rfl ⟨b, 7, none⟩ ((at_dst 5 (by kernel_rfl)).trans (hdep 5 (by simp) (by kernel_rfl)).2) Tryd.underlying30 rfl _ (by rw [e7]; exact (BX.out w' hI).cell 7) (hK _ _ (KP.out L 6 _ (by decide) (by decide) hI) rfl)
    · exact wp_field (.tmp 5) rfl _ _ (at_out _ (by kernel_rfl) rfl) (by kernel_rfl) (hK _ _ (KP.out L 7 _ (by decide) (by decide) hI) rfl)
    · exact wp_load1 (.tmp 204) rfl ⟨b, 4, none⟩ ((at_dst 7 (by kernel_rfl)).trans (hdep 7 (by simp) (by kernel_rfl)).2) Tryd.underlying3 rfl _ ((BX.out w' hI).cell 4) (hK _ _ (KP.out L 8 _ (by decide) (by decide) hI) rfl)
    · have hT : Two CadF SadF w1 C1 gs gx w' es (if L 19 = true then R.2 else es) := by
        have := hI
        rw [hIe] at this
        simp only [hL, Bool.false_eq_true, if_false] at this
        exact this
      refine wp_call 19 [.tmp 197, .tmp 199, .tmp 201, .tmp 203, .tmp 205] _ rfl ent_sTake [.pointer (some ⟨gs, 0, none⟩), .int .i64 o.x1, .int .i64 o.x2, .int .u64 ((o.x7.toNat : Nat) : Int), .int .i64 o.x4] (list5 ((at_dst 0 (by kernel_rfl)).trans (hdep 0 (by simp) (by kernel_rfl)).2) ((at_dst 2 (by kernel_rfl)).trans (hdep 2 (by simp) (by kernel_rfl)).2) ((at_dst 4 (by kernel_rfl)).trans (hdep 4 (by simp) (by kernel_rfl)).2) ((at_dst 6 (by kernel_rfl)).trans (hdep 6 (by simp) (by kernel_rfl)).2) ((at_dst 8 (by kernel_rfl)).trans (hdep 8 (by simp) (by kernel_rfl)).2)) (fun v w'' => v = .int .i64 ((R.1 : Nat) : Int) ∧ I (FreeI.mark L 9) w'') ((Two.fst (e1 := R.2) hA hB hT fun F g hg hF => by rw [hR]; exact ctake_F F gs es o.x1 o.x2 o.x7.toNat o.x4 w' g hg hF (by have := G.few; omega) (G.now f1 f2) (G.room hk n1 f3) q64).mono fun er w'' ⟨h1, h2⟩ => ⟨_, h1, rfl, by
      rw [hIe]
      show Two CadF SadF w1 C1 gs gx w'' (if FreeI.mark L 9 9 = true then R.2 else es) (if FreeI.mark L 9 19 = true then R.2 else es)
      simpa [FreeI.mark] using h2⟩) (fun v w'' ⟨h1, h2⟩ => hK _ _ h2 h1)
    · exact wp_move (.tmp 1) rfl _ (at_out _ (by kernel_rfl) rfl) (hK _ _ (KP.out L 10 _ (by decide) (by decide) hI) rfl)
    · exact wp_field (.tmp 5) rfl _ _ (at_out _ (by kernel_rfl) rfl) (by kernel_rfl) (hK _ _ (KP.out L 11 _ (by decide) (by decide) hI) rfl)
    · exact wp_load1 (.tmp 208) rfl ⟨b, 1, none⟩ ((at_dst 11 (by kernel_rfl)).trans (hdep 11 (by simp) (by kernel_rfl)).2) Tryd.underlying3 rfl _ ((BX.out w' hI).cell 1) (hK _ _ (KP.out L 12 _ (by decide) (by decide) hI) rfl)
    · exact wp_field (.tmp 5) rfl _ _ (at_out _ (by kernel_rfl) rfl) (by kernel_rfl) (hK _ _ (KP.out L 13 _ (by decide) (by decide) hI) rfl)
    · exact wp_load1 (.tmp 210) rfl ⟨b, 2, none⟩ ((at_dst 13 (by kernel_rfl)).trans (hdep 13 (by simp) (by kernel_rfl)).2) Tryd.underlying3 rfl _ ((BX.out w' hI).cell 2) (hK _ _ (KP.out L 14 _ (by decide) (by decide) hI) rfl)
    · exact wp_field (.tmp 5) rfl _ _ (at_out _ (by kernel_rfl) rfl) (by kernel_rfl) (hK _ _ (KP.out L 15 _ (by decide) (by decide) hI) rfl)
    · exact wp_load1 (.tmp 212) rfl ⟨b, 7, none⟩ ((at_dst 15 (by kernel_rfl)).trans (hdep 15 (by simp) (by kernel_rfl)).2) Tryd.underlying30 rfl _ (by rw [e7]; exact (BX.out w' hI).cell 7) (hK _ _ (KP.out L 16 _ (by decide) (by decide) hI) rfl)
    · exact wp_field (.tmp 5) rfl _ _ (at_out _ (by kernel_rfl) rfl) (by kernel_rfl) (hK _ _ (KP.out L 17 _ (by decide) (by decide) hI) rfl)
    · exact wp_load1 (.tmp 214) rfl ⟨b, 4, none⟩ ((at_dst 17 (by kernel_rfl)).trans (hdep 17 (by simp) (by kernel_rfl)).2) Tryd.underlying3 rfl _ ((BX.out w' hI).cell 4) (hK _ _ (KP.out L 18 _ (by decide) (by decide) hI) rfl)
    · have hT : Two CadF SadF w1 C1 gs gx w' (if L 9 = true then R.2 else es) es := by
        have := hI
        rw [hIe] at this
        simp only [hL, Bool.false_eq_true, if_false] at this
        exact this
      refine wp_call 29 [.tmp 207, .tmp 209, .tmp 211, .tmp 213, .tmp 215] _ rfl ent_xTake [.pointer (some ⟨gx, 0, none⟩), .int .i64 o.x1, .int .i64 o.x2, .int .u64 ((o.x7.toNat : Nat) : Int), .int .i64 o.x4] (list5 ((at_dst 10 (by kernel_rfl)).trans (hdep 10 (by simp) (by kernel_rfl)).2) ((at_dst 12 (by kernel_rfl)).trans (hdep 12 (by simp) (by kernel_rfl)).2) ((at_dst 14 (by kernel_rfl)).trans (hdep 14 (by simp) (by kernel_rfl)).2) ((at_dst 16 (by kernel_rfl)).trans (hdep 16 (by simp) (by kernel_rfl)).2) ((at_dst 18 (by kernel_rfl)).trans (hdep 18 (by simp) (by kernel_rfl)).2)) (fun v w'' => v = .int .i64 ((R.1 : Nat) : Int) ∧ I (FreeI.mark L 19) w'') ((Two.snd (e1 := R.2) hA hB hT fun F g hF => by rw [hR]; exact take_F F gx es o.x1 o.x2 o.x7.toNat o.x4 w' g hF (by have := G.few; omega) (G.now f1 f2) (G.room hk n1 f3) q64).mono fun er w'' ⟨h1, h2⟩ => ⟨_, h1, rfl, by
      rw [hIe]
      show Two CadF SadF w1 C1 gs gx w'' (if FreeI.mark L 19 9 = true then R.2 else es) (if FreeI.mark L 19 19 = true then R.2 else es)
      simpa [FreeI.mark] using h2⟩) (fun v w'' ⟨h1, h2⟩ => hK _ _ h2 h1)
  · intro vals w' L hI hL hV
    have TT : Two CadF SadF w1 C1 gs gx w' R.2 R.2 := by
      have := hI
      rw [hIe] at this
      rw [hL 9 (by simp), hL 19 (by simp)] at this
      exact this
    have BB := Lib.hid (back w' _ _ TT)
    refine wp_bin (.tmp 206) (.tmp 216) rfl _ _ _ ((at_dst 9 (by kernel_rfl)).trans (hV 9 (by simp))) ((at_dst 19 (by kernel_rfl)).trans (hV 19 (by simp))) (b_eqlE _ _ _ _ _) ?_
    refine wpAnyH_next 21 _ rfl rfl (by kernel_rfl) (st_assign (.tmp 217) (.bool (((R.1 : Nat) : Int) == ((R.1 : Nat) : Int))) rfl (put_tmps_eq (fill_size _ _ _) (by kernel_rfl)) ⟨trivial, wpAnyH_done (by kernel_rfl) ?_ _⟩)
    clear hI hL hV TT KP BX hIe
    simp only [fill, dstAt, List.getElem?_cons_zero, List.getElem?_cons_succ, Option.bind_some, Act.put, List.setIfInBounds_toArray, List.set_cons_zero, List.set_cons_succ]
    generalize vals 0 = z0, vals 1 = z1, vals 2 = z2, vals 3 = z3, vals 4 = z4, vals 5 = z5, vals 6 = z6, vals 7 = z7, vals 8 = z8, vals 9 = z9, vals 10 = z10, vals 11 = z11, vals 12 = z12, vals 13 = z13, vals 14 = z14, vals 15 = z15, vals 16 = z16, vals 17 = z17, vals 18 = z18, vals 19 = z19 at *
    generalize w' = w5 at *
    go_wp2_with fail
    go_ret
    exact ⟨by simp, BB.out⟩
end Go.Proofs.YtppnkkpjfjhfkaaDoor.Step17

