/- The code's compare. -/
import Derived.Test.YtnabjhdamofpgaaRt1
set_option linter.unusedVariables false
namespace Go.Proofs.Ytnabjhdamofpgaa.Rt2
open Go.RowKit Go.PlainAid Go.Proofs.Ytnabjhdamofpgaa.Sums Go.Proofs.Ytnabjhdamofpgaa.Mem Go.Proofs.Ytnabjhdamofpgaa.Blk Go.Proofs.Ytnabjhdamofpgaa.Grp Go.Proofs.Ytnabjhdamofpgaa.AdrD Go.Proofs.Ytnabjhdamofpgaa.AdrR Go.Proofs.Ytnabjhdamofpgaa.Steps Go.Proofs.Ytnabjhdamofpgaa.Com Go.Proofs.Ytnabjhdamofpgaa.RowN Go.Proofs.Ytnabjhdamofpgaa.RowA Go.Proofs.Ytnabjhdamofpgaa.ArgT Go.Proofs.Ytnabjhdamofpgaa.TabD Go.Proofs.Ytnabjhdamofpgaa.TabOps Go.Proofs.Ytnabjhdamofpgaa.TabM Go.Proofs.Ytnabjhdamofpgaa.Free Go.Proofs.Ytnabjhdamofpgaa.RtD Go.Proofs.Ytnabjhdamofpgaa.Cmp

theorem ent_cmpA : Enters Try.prog 21 := enters_of Try.func21 (by kernel_rfl) rfl
theorem ent_cmpI : Enters Try.prog 39 := enters_of Try.func39 (by kernel_rfl) rfl
theorem ent_or : Enters Try.prog 38 := enters_of Try.func38 (by kernel_rfl) rfl
theorem run_two (w : World) (x y : Int) : (Instr.buildSlice 86 2 #[(0, .int .i64 x), (1, .int .i64 y)]).run Try.prog w = .ok (.slice (some ⟨w.heap.size, 0, none⟩) 2 2) (w.alloc (.cells #[.int .i64 x, .int .i64 y] 3)) := by kernel_rfl
theorem st_two {o : Oper} {a : Act} {w : World} {K : Act → World → Prop} {Q : Exit → Act → World → Prop} (u v : Operand) (ho : o.op = .buildSlice 86 2 #[(0, u), (1, v)]) (x y : Int) (h1 : a.eval u = .int .i64 x) (h2 : a.eval v = .int .i64 y)
    (hK : K (a.put o.dst (.slice (some ⟨w.heap.size, 0, none⟩) 2 2)) (w.alloc (.cells #[.int .i64 x, .int .i64 y] 3))) : Step Try.prog o a w K Q := by
  constructor
  unfold Oper.wp
  simp only [execOp, ho]
  have hr := run_two w x y
  simp [h1, h2, hr, Result.andThen]
  exact hK
set_option maxRecDepth 100000 in
set_option maxHeartbeats 1000000 in
theorem compare_c (r : RouteR) (b : ByteArray) (n : Int) (ha : r.x0.size ≤ maxLen) (hb : b.size ≤ maxLen) (w : World) : Calls Try.prog 22 #[.agg (RA r), .agg #[.string b, .int .i64 n]] w fun e w' => e = .returned (.int .i64 (cmpK r.x0 r.x1 b n)) ∧ Below w.heap.size w w' := by
  have K0 := Lib.hid (Blk.alloc (Blk.new w 33 (RA r)) (.cells #[.string b, .int .i64 n] 31))
  have J0 : Hid (Blk ((w.alloc (.cells (RA r) 33)).alloc (.cells #[.string b, .int .i64 n] 31)) (w.heap.size + 1) 31 #[.string b, .int .i64 n]) := Lib.hid (by
    have := Blk.new (w.alloc (.cells (RA r) 33)) 31 #[.string b, .int .i64 n]
    simpa using this)
  have B0 := Lib.hid (((Below.refl w.heap.size w).alloc (Nat.le_refl _) (.cells (RA r) 33)).alloc (by simp) (.cells #[.string b, .int .i64 n] 31))
  have CA := Lib.hid (fun W => cmp_any r.x0 b W ha hb)
  have CI : Hid (∀ W, Calls Try.prog 39 #[.int .i64 r.x1, .int .i64 n] W fun e w' => e = .returned (.int .i64 (Lib.compareInt r.x1 n)) ∧ Below W.heap.size W w') := Lib.hid (fun W => (Try.cmp_Compare_int r.x1 n W).mono fun e w' h => ⟨h.1, h.2 ▸ Below.refl _ _⟩)
  unfold cmpK
  generalize ordS r.x0 b = x at *
  generalize Lib.compareInt r.x1 n = y at *
  have OR := Lib.hid (fun g W h0 h1 => or_any x y g W h0 h1)
  generalize orI x y = z at *
  clear ha hb
  go_enter Try.func22, Try.ntmps22
  go_wp2_with fail
  generalize (w.alloc (.cells (RA r) 33)).alloc (.cells #[.string b, .int .i64 n] 31) = w1 at *
  have XR : Hid (∀ V, Below w1.drew.heap.size w1.drew V → Blk V w.heap.size 33 (RA r)) := Lib.hid fun V hV => Blk.below (show Blk w1.drew w.heap.size 33 (RA r) from K0.out) hV (Blk.lt K0.out)
  have XP : Hid (∀ V, Below w1.drew.heap.size w1.drew V → Blk V (w.heap.size + 1) 31 #[.string b, .int .i64 n]) := Lib.hid fun V hV => Blk.below (show Blk w1.drew (w.heap.size + 1) 31 #[.string b, .int .i64 n] from J0.out) hV (Blk.lt J0.out)
  refine wp_region_free [0, 1, 2, 3, 4, 5, 6, 7, 8, 9, 10, 11, 12, 13] 14 [] (fun w1 w2 => Below w1.heap.size w1 w2) (fun k' w' v => match k' with
    | 0 => v = .pointer (some ⟨w.heap.size, 0, none⟩)
    | 1 => v = .pointer (some ⟨w.heap.size, 0, none⟩)
    | 2 => v = .string r.x0
    | 3 => v = .pointer (some ⟨(w.heap.size + 1), 0, none⟩)
    | 4 => v = .string b
    | 5 => v = .int .i64 x
    | 6 => v = .pointer (some ⟨w.heap.size, 0, none⟩)
    | 7 => v = .pointer (some ⟨w.heap.size, 1, none⟩)
    | 8 => v = .int .i64 r.x1
    | 9 => v = .pointer (some ⟨(w.heap.size + 1), 1, none⟩)
    | 10 => v = .int .i64 n
    | 11 => v = .int .i64 y
    | 12 => ∃ vb, v = .slice (some ⟨vb, 0, none⟩) 2 2 ∧ Blk w' vb 3 #[.int .i64 x, .int .i64 y]
    | _ => v = .int .i64 z) (by kernel_rfl) (by kernel_rfl) (Below.refl _ _) (fun _ _ _ h k => h.trans (k.mono h.size)) (fun k' w1 w2 v h => match k' with
    | 0 => fun x => x
    | 1 => fun x => x
    | 2 => fun x => x
    | 3 => fun x => x
    | 4 => fun x => x
    | 5 => fun x => x
    | 6 => fun x => x
    | 7 => fun x => x
    | 8 => fun x => x
    | 9 => fun x => x
    | 10 => fun x => x
    | 11 => fun x => x
    | 12 => fun ⟨vb, e1, e2⟩ => ⟨vb, e1, e2.below h e2.lt⟩
    | _ + 13 => fun x => x) (fun _ _ _ _ _ h => h) ?_ _ (by rfl) ?_
  · refine obs_cons (by rfl) (fun vals w' hgr hdep K hK => ?_) (obs_cons (by rfl) (fun vals w' hgr hdep K hK => ?_) (obs_cons (by rfl) (fun vals w' hgr hdep K hK => ?_) (obs_cons (by rfl) (fun vals w' hgr hdep K hK => ?_) (obs_cons (by rfl) (fun vals w' hgr hdep K hK => ?_) (obs_cons (by rfl) (fun vals w' hgr hdep K hK => ?_) (obs_cons (by rfl) (fun vals w' hgr hdep K hK => ?_) (obs_cons (by rfl) (fun vals w' hgr hdep K hK => ?_) (obs_cons (by rfl) (fun vals w' hgr hdep K hK => ?_) (obs_cons (by rfl) (fun vals w' hgr hdep K hK => ?_) (obs_cons (by rfl) (fun vals w' hgr hdep K hK => ?_) (obs_cons (by rfl) (fun vals w' hgr hdep K hK => ?_) (obs_cons (by rfl) (fun vals w' hgr hdep K hK => ?_) (obs_cons (by rfl) (fun vals w' hgr hdep K hK => ?_) (obs_nil))))))))))))))
    · exact wp_field (.tmp 2) rfl _ _ (at_out _ (by kernel_rfl) rfl) (by kernel_rfl) (hK _ _ (Below.refl _ _) rfl)
    · exact wp_field (.tmp 5) rfl _ _ ((at_dst 0 (by kernel_rfl)).trans (hdep 0 (by simp) (by kernel_rfl))) (by kernel_rfl) (hK _ _ (Below.refl _ _) rfl)
    · exact wp_load1 (.tmp 6) rfl ⟨w.heap.size, 0, none⟩ ((at_dst 1 (by kernel_rfl)).trans (hdep 1 (by simp) (by kernel_rfl))) Try.underlying9 rfl _ ((XR.out w' hgr).cell 0) (hK _ _ (Below.refl _ _) rfl)
    · exact wp_field (.tmp 3) rfl _ _ (at_out _ (by kernel_rfl) rfl) (by kernel_rfl) (hK _ _ (Below.refl _ _) rfl)
    · exact wp_load1 (.tmp 8) rfl ⟨(w.heap.size + 1), 0, none⟩ ((at_dst 3 (by kernel_rfl)).trans (hdep 3 (by simp) (by kernel_rfl))) Try.underlying9 rfl _ ((XP.out w' hgr).cell 0) (hK _ _ (Below.refl _ _) rfl)
    · exact wp_call 21 [.tmp 7, .tmp 9] _ rfl ent_cmpA [.string r.x0, .string b] (Draw.list2 ((at_dst 2 (by kernel_rfl)).trans (hdep 2 (by simp) (by kernel_rfl))) ((at_dst 4 (by kernel_rfl)).trans (hdep 4 (by simp) (by kernel_rfl)))) (fun v w'' => v = .int .i64 x ∧ Below w'.heap.size w' w'') ((CA.out w').mono fun e w'' ⟨h1, h2⟩ => ⟨_, h1, rfl, h2⟩) (fun v w'' ⟨h1, h2⟩ => hK _ _ h2 h1)
    · exact wp_field (.tmp 2) rfl _ _ (at_out _ (by kernel_rfl) rfl) (by kernel_rfl) (hK _ _ (Below.refl _ _) rfl)
    · exact wp_field (.tmp 11) rfl _ _ ((at_dst 6 (by kernel_rfl)).trans (hdep 6 (by simp) (by kernel_rfl))) (by kernel_rfl) (hK _ _ (Below.refl _ _) rfl)
    · exact wp_load1 (.tmp 12) rfl ⟨w.heap.size, 1, none⟩ ((at_dst 7 (by kernel_rfl)).trans (hdep 7 (by simp) (by kernel_rfl))) Try.underlying3 rfl _ ((XR.out w' hgr).cell 1) (hK _ _ (Below.refl _ _) rfl)
    · exact wp_field (.tmp 3) rfl _ _ (at_out _ (by kernel_rfl) rfl) (by kernel_rfl) (hK _ _ (Below.refl _ _) rfl)
    · exact wp_load1 (.tmp 14) rfl ⟨(w.heap.size + 1), 1, none⟩ ((at_dst 9 (by kernel_rfl)).trans (hdep 9 (by simp) (by kernel_rfl))) Try.underlying3 rfl _ ((XP.out w' hgr).cell 1) (hK _ _ (Below.refl _ _) rfl)
    · exact wp_call 39 [.tmp 13, .tmp 15] _ rfl ent_cmpI [.int .i64 r.x1, .int .i64 n] (Draw.list2 ((at_dst 8 (by kernel_rfl)).trans (hdep 8 (by simp) (by kernel_rfl))) ((at_dst 10 (by kernel_rfl)).trans (hdep 10 (by simp) (by kernel_rfl)))) (fun v w'' => v = .int .i64 y ∧ Below w'.heap.size w' w'') ((CI.out w').mono fun e w'' ⟨h1, h2⟩ => ⟨_, h1, rfl, h2⟩) (fun v w'' ⟨h1, h2⟩ => hK _ _ h2 h1)
    · exact st_two (.tmp 10) (.tmp 16) rfl x y ((at_dst 5 (by kernel_rfl)).trans (hdep 5 (by simp) (by kernel_rfl))) ((at_dst 11 (by kernel_rfl)).trans (hdep 11 (by simp) (by kernel_rfl))) (hK _ _ ((Below.refl _ _).alloc (Nat.le_refl _) _) ⟨_, rfl, Blk.new _ _ _⟩)
    · obtain ⟨vb, e12, k12⟩ := hdep 12 (by simp) (by kernel_rfl)
      exact wp_call 38 [.tmp 17] _ rfl ent_or [.slice (some ⟨vb, 0, none⟩) 2 2] (Draw.list1 ((at_dst 12 (by kernel_rfl)).trans e12)) (fun v w'' => v = .int .i64 z ∧ Below w'.heap.size w' w'') (((OR.out vb w' (k12.cell 0) (k12.cell 1))).mono fun e w'' ⟨h1, h2⟩ => ⟨_, h1, rfl, h2 ▸ Below.refl _ _⟩) (fun v w'' ⟨h1, h2⟩ => hK _ _ h2 h1)
  · intro vals w' hgr hG
    refine st_assign (.tmp 18) _ rfl ((at_dst 13 (by kernel_rfl)).trans (hG 13 (by simp))) (wpAnyH_done (by kernel_rfl) ?_ _)
    have B1 := Lib.hid (B0.out.trans ((Draw.below_1 hgr).mono B0.out.size))
    clear hG hgr XR XP B0
    simp only [fill, dstAt, List.getElem?_cons_zero, List.getElem?_cons_succ, Option.bind_some, Act.put, List.setIfInBounds_toArray, List.set_cons_zero, List.set_cons_succ]
    generalize vals 0 = z0, vals 1 = z1, vals 2 = z2, vals 3 = z3, vals 4 = z4, vals 5 = z5, vals 6 = z6, vals 7 = z7, vals 8 = z8, vals 9 = z9, vals 10 = z10, vals 11 = z11, vals 12 = z12, vals 13 = z13 at *
    generalize w' = w2 at *
    go_wp2_with fail
    go_ret
    exact ⟨rfl, B1.out⟩
end Go.Proofs.Ytnabjhdamofpgaa.Rt2
