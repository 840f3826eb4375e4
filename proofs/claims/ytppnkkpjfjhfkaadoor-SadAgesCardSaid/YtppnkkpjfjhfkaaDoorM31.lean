/- The code's ownSa, ownLife, made. -/
import Derived.Test.YtppnkkpjfjhfkaaDoorM29
import Derived.Test.YtppnkkpjfjhfkaaDoorM11
import Derived.Test.YtppnkkpjfjhfkaaDoorM20
import Derived.Test.YtppnkkpjfjhfkaaDoorM25
set_option linter.unusedVariables false
set_option maxRecDepth 100000
namespace Go.Proofs.YtppnkkpjfjhfkaaDoor.Cad4
open Go.RowKit Go.Proofs.YtppnkkpjfjhfkaaDoor.Mem Go.Proofs.YtppnkkpjfjhfkaaDoor.Blk Go.Proofs.YtppnkkpjfjhfkaaDoor.Free Go.Proofs.YtppnkkpjfjhfkaaDoor.Steps Go.Proofs.YtppnkkpjfjhfkaaDoor.ArgT Go.Proofs.YtppnkkpjfjhfkaaDoor.Longs Go.Proofs.YtppnkkpjfjhfkaaDoor.SadM Go.Proofs.YtppnkkpjfjhfkaaDoor.RowN Go.Proofs.YtppnkkpjfjhfkaaDoor.RowA Go.Proofs.YtppnkkpjfjhfkaaDoor.CadM Go.Proofs.YtppnkkpjfjhfkaaDoor.Cad0
open Go.Proofs.YtppnkkpjfjhfkaaDoor.SadR7 (saC oneSa)

theorem oneL (r : LifeR) : ∀ v ∈ r.cells, v.oneCell' = true := by simp [LifeR.cells, Value.oneCell']
theorem oneLA (r : LifeR) : (r.cells.toArray).all (·.oneCell') = true := by simp [LifeR.cells, Value.oneCell']
theorem oneS (r : LifeR) : ∀ v ∈ saC r, v.oneCell' = true := by simp [saC, Value.oneCell']
/-- Its texts are not too long. -/
def Short (r : LifeR) : Prop := r.x1.size ≤ maxT ∧ r.x2.size ≤ maxT ∧ r.x3.size ≤ maxT
theorem short_of {r : LifeR} (h : SadMay.mayL r = true) : Short r := by
  unfold SadMay.mayL at h
  rw [Bool.and_eq_true] at h
  obtain ⟨_, _, a, b, c, _⟩ := SadMay.may_facts h.1
  unfold Short maxT
  omega
set_option maxHeartbeats 1000000 in
theorem sa_own (r : LifeR) (w : World) (ho : Short r) : Calls Tryd.prog 38 #[.agg #[.int .i64 r.x0, .string r.x1, .string r.x2, .string r.x3, .bool r.x4, .int .i64 r.x5]] w fun e w' => e = .returned (.agg #[.int .i64 r.x0, .string r.x1, .string r.x2, .string r.x3, .bool r.x4, .int .i64 r.x5]) ∧ Below w.heap.size w w' := by
  have K0 := Lib.hid (Blk.alloc (Blk.new w 32 #[.int .i64 r.x0, .string r.x1, .string r.x2, .string r.x3, .bool r.x4, .int .i64 r.x5]) (.cells #[.int .i64 0, .string ⟨#[]⟩, .string ⟨#[]⟩, .string ⟨#[]⟩, .bool false, .int .i64 0] 32))
  have J0 : Hid (Blk ((w.alloc (.cells #[.int .i64 r.x0, .string r.x1, .string r.x2, .string r.x3, .bool r.x4, .int .i64 r.x5] 32)).alloc (.cells #[.int .i64 0, .string ⟨#[]⟩, .string ⟨#[]⟩, .string ⟨#[]⟩, .bool false, .int .i64 0] 32)) (w.heap.size + 1) 32 #[.int .i64 0, .string ⟨#[]⟩, .string ⟨#[]⟩, .string ⟨#[]⟩, .bool false, .int .i64 0]) := Lib.hid (by
    have := Blk.new (w.alloc (.cells #[.int .i64 r.x0, .string r.x1, .string r.x2, .string r.x3, .bool r.x4, .int .i64 r.x5] 32)) 32 #[.int .i64 0, .string ⟨#[]⟩, .string ⟨#[]⟩, .string ⟨#[]⟩, .bool false, .int .i64 0]
    simpa using this)
  have B0 := Lib.hid (((Below.refl w.heap.size w).alloc (Nat.le_refl _) (.cells #[.int .i64 r.x0, .string r.x1, .string r.x2, .string r.x3, .bool r.x4, .int .i64 r.x5] 32)).alloc (by simp) (.cells #[.int .i64 0, .string ⟨#[]⟩, .string ⟨#[]⟩, .string ⟨#[]⟩, .bool false, .int .i64 0] 32))
  have C1 := Lib.hid (fun W => clone_text r.x1 W ho.1)
  have C2 := Lib.hid (fun W => clone_text r.x2 W ho.2.1)
  have C3 := Lib.hid (fun W => clone_text r.x3 W ho.2.2)
  clear ho
  go_enter Tryd.func38, Tryd.ntmps38
  go_wp2_with fail
  generalize (w.alloc (.cells #[.int .i64 r.x0, .string r.x1, .string r.x2, .string r.x3, .bool r.x4, .int .i64 r.x5] 32)).alloc (.cells #[.int .i64 0, .string ⟨#[]⟩, .string ⟨#[]⟩, .string ⟨#[]⟩, .bool false, .int .i64 0] 32) = w1 at *
  have X : Hid (∀ V, Below w1.drew.heap.size w1.drew V → Blk V w.heap.size 32 #[.int .i64 r.x0, .string r.x1, .string r.x2, .string r.x3, .bool r.x4, .int .i64 r.x5]) := Lib.hid fun V hV => Blk.below (show Blk w1.drew w.heap.size 32 #[.int .i64 r.x0, .string r.x1, .string r.x2, .string r.x3, .bool r.x4, .int .i64 r.x5] from K0.out) hV (Blk.lt K0.out)
  refine wp_region_free [0, 1, 2, 3, 4, 5, 6, 7, 8, 9, 10, 11, 12, 13] 14 [] (fun w1 w2 => Below w1.heap.size w1 w2) (fun k' w' v => match k' with
    | 0 => v = .pointer (some ⟨w.heap.size, 1, none⟩)
    | 1 => v = .string r.x1
    | 2 => v = .string r.x1
    | 3 => v = .pointer (some ⟨w.heap.size, 2, none⟩)
    | 4 => v = .string r.x2
    | 5 => v = .string r.x2
    | 6 => v = .pointer (some ⟨w.heap.size, 3, none⟩)
    | 7 => v = .string r.x3
    | 8 => v = .string r.x3
    | 9 => v = .pointer (some ⟨w.heap.size, 1, none⟩)
    | 10 => True
    | 11 => v = .pointer (some ⟨w.heap.size, 2, none⟩)
    | 12 => True
    | _ => v = .pointer (some ⟨w.heap.size, 3, none⟩)) (by kernel_rfl) (by kernel_rfl) (Below.refl _ _) (fun _ _ _ h k => h.trans (k.mono h.size)) (fun k' w1 w2 v h => match k' with
    | 0 => fun x => x
    | 1 => fun x => x
    | 2 => fun x => x
    | 3 => fun x => x
    | 4 => fun x => x
    | 5 => fun x => x
    | 6 => fun x => x
    | 7 => fun x => x
    | 8 => fun x => x
    | 9 => fun x => x
    | 10 => fun _ => trivial
    | 11 => fun x => x
    | 12 => fun _ => trivial
    | _ + 13 => fun x => x) (fun _ _ _ _ _ h => h) ?_ _ (by rfl) ?_
  · refine obs_cons (by rfl) (fun vals w' hgr hdep K hK => ?_) (obs_cons (by rfl) (fun vals w' hgr hdep K hK => ?_) (obs_cons (by rfl) (fun vals w' hgr hdep K hK => ?_) (obs_cons (by rfl) (fun vals w' hgr hdep K hK => ?_) (obs_cons (by rfl) (fun vals w' hgr hdep K hK => ?_) (obs_cons (by rfl) (fun vals w' hgr hdep K hK => ?_) (obs_cons (by rfl) (fun vals w' hgr hdep K hK => ?_) (obs_cons (by rfl) (fun vals w' hgr hdep K hK => ?_) (obs_cons (by rfl) (fun vals w' hgr hdep K hK => ?_) (obs_cons (by rfl) (fun vals w' hgr hdep K hK => ?_) (obs_cons (by rfl) (fun vals w' hgr hdep K hK => ?_) (obs_cons (by rfl) (fun vals w' hgr hdep K hK => ?_) (obs_cons (by rfl) (fun vals w' hgr hdep K hK => ?_) (obs_cons (by rfl) (fun vals w' hgr hdep K hK => ?_) (obs_nil))))))))))))))
    · exact wp_field (.tmp 1) rfl _ _ (at_out _ (by kernel_rfl) rfl) (by kernel_rfl) (hK _ _ (Below.refl _ _) rfl)
    · exact wp_load1 (.tmp 3) rfl ⟨w.heap.size, 1, none⟩ ((at_dst 0 (by kernel_rfl)).trans (hdep 0 (by simp) (by kernel_rfl))) Tryd.underlying9 rfl _ ((X.out w' hgr).cell 1) (hK _ _ (Below.refl _ _) rfl)
    · exact wp_call 54 [.tmp 4] _ rfl ent_clone [.string r.x1] (Draw.list1 ((at_dst 1 (by kernel_rfl)).trans (hdep 1 (by simp) (by kernel_rfl)))) (fun v w'' => v = .string r.x1 ∧ Below w'.heap.size w' w'') (((C1.out w')).mono fun e w'' ⟨h1, h2⟩ => ⟨_, h1, rfl, h2⟩) (fun v w'' ⟨h1, h2⟩ => hK _ _ h2 h1)
    · exact wp_field (.tmp 1) rfl _ _ (at_out _ (by kernel_rfl) rfl) (by kernel_rfl) (hK _ _ (Below.refl _ _) rfl)
    · exact wp_load1 (.tmp 6) rfl ⟨w.heap.size, 2, none⟩ ((at_dst 3 (by kernel_rfl)).trans (hdep 3 (by simp) (by kernel_rfl))) Tryd.underlying9 rfl _ ((X.out w' hgr).cell 2) (hK _ _ (Below.refl _ _) rfl)
    · exact wp_call 54 [.tmp 7] _ rfl ent_clone [.string r.x2] (Draw.list1 ((at_dst 4 (by kernel_rfl)).trans (hdep 4 (by simp) (by kernel_rfl)))) (fun v w'' => v = .string r.x2 ∧ Below w'.heap.size w' w'') (((C2.out w')).mono fun e w'' ⟨h1, h2⟩ => ⟨_, h1, rfl, h2⟩) (fun v w'' ⟨h1, h2⟩ => hK _ _ h2 h1)
    · exact wp_field (.tmp 1) rfl _ _ (at_out _ (by kernel_rfl) rfl) (by kernel_rfl) (hK _ _ (Below.refl _ _) rfl)
    · exact wp_load1 (.tmp 9) rfl ⟨w.heap.size, 3, none⟩ ((at_dst 6 (by kernel_rfl)).trans (hdep 6 (by simp) (by kernel_rfl))) Tryd.underlying9 rfl _ ((X.out w' hgr).cell 3) (hK _ _ (Below.refl _ _) rfl)
    · exact wp_call 54 [.tmp 10] _ rfl ent_clone [.string r.x3] (Draw.list1 ((at_dst 7 (by kernel_rfl)).trans (hdep 7 (by simp) (by kernel_rfl)))) (fun v w'' => v = .string r.x3 ∧ Below w'.heap.size w' w'') (((C3.out w')).mono fun e w'' ⟨h1, h2⟩ => ⟨_, h1, rfl, h2⟩) (fun v w'' ⟨h1, h2⟩ => hK _ _ h2 h1)
    · exact wp_field (.tmp 1) rfl _ _ (at_out _ (by kernel_rfl) rfl) (by kernel_rfl) (hK _ _ (Below.refl _ _) rfl)
    · exact st_same 9 (.tmp 12) (.tmp 5) rfl ⟨w.heap.size, 1, none⟩ ((at_dst 9 (by kernel_rfl)).trans (hdep 9 (by simp) (by kernel_rfl))) (.string r.x1) ((at_dst 2 (by kernel_rfl)).trans (hdep 2 (by simp) (by kernel_rfl))) (same_one (X.out w' hgr) (by kernel_rfl) rfl rfl rfl) (hK _ _ (Below.refl _ _) trivial)
    · exact wp_field (.tmp 1) rfl _ _ (at_out _ (by kernel_rfl) rfl) (by kernel_rfl) (hK _ _ (Below.refl _ _) rfl)
    · exact st_same 9 (.tmp 13) (.tmp 8) rfl ⟨w.heap.size, 2, none⟩ ((at_dst 11 (by kernel_rfl)).trans (hdep 11 (by simp) (by kernel_rfl))) (.string r.x2) ((at_dst 5 (by kernel_rfl)).trans (hdep 5 (by simp) (by kernel_rfl))) (same_one (X.out w' hgr) (by kernel_rfl) rfl rfl rfl) (hK _ _ (Below.refl _ _) trivial)
    · exact wp_field (.tmp 1) rfl _ _ (at_out _ (by kernel_rfl) rfl) (by kernel_rfl) (hK _ _ (Below.refl _ _) rfl)
  · intro vals w' hgr hG
    refine st_same 9 (.tmp 14) (.tmp 11) rfl ⟨w.heap.size, 3, none⟩ ((at_dst 13 (by kernel_rfl)).trans (hG 13 (by simp))) (.string r.x3) ((at_dst 8 (by kernel_rfl)).trans (hG 8 (by simp))) (same_one (X.out w' hgr) (by kernel_rfl) rfl rfl rfl) (wpAnyH_done (by kernel_rfl) ?_ _)
    have hU := hgr
    have K1 := Lib.hid (X.out _ hU)
    have J1 := Lib.hid (Blk.below (show Blk w1.drew (w.heap.size + 1) 32 #[.int .i64 0, .string ⟨#[]⟩, .string ⟨#[]⟩, .string ⟨#[]⟩, .bool false, .int .i64 0] from J0.out) hU (Blk.lt J0.out))
    have B1 := Lib.hid (B0.out.trans ((Draw.below_1 hU).mono B0.out.size))
    clear hU hG hgr X K0 J0 B0 C1 C2 C3
    simp only [fill, dstAt, List.getElem?_cons_zero, List.getElem?_cons_succ, Option.bind_some, Act.put, List.setIfInBounds_toArray, List.set_cons_zero, List.set_cons_succ]
    generalize vals 0 = y0, vals 1 = y1, vals 2 = y2, vals 3 = y3, vals 4 = y4, vals 5 = y5, vals 6 = y6, vals 7 = y7, vals 8 = y8, vals 9 = y9, vals 10 = y10, vals 11 = y11, vals 12 = y12, vals 13 = y13 at *
    generalize w' = w2 at *
    have one := Lib.hid (oneSa r)
    go_wp2_with (first | (refine Loads.wpList_load_w rfl 32 (.tmp 1) rfl w.heap.size rfl 32 #[.int .i64 r.x0, .string r.x1, .string r.x2, .string r.x3, .bool r.x4, .int .i64 r.x5] (0, 0) _ (K1.out) Tryd.underlying32 rfl (by kernel_rfl) ?_) | (refine wpList_store_row rfl 32 (.tmp 2) (.tmp 15) rfl (w.heap.size + 1) #[.int .i64 r.x0, .string r.x1, .string r.x2, .string r.x3, .bool r.x4, .int .i64 r.x5] rfl rfl 32 _ J1.out (by kernel_rfl) rfl one.out ?_))
    exact bodyPost_ret (results_cell_row rfl _ _ (w.heap.size + 1) 32 #[.int .i64 r.x0, .string r.x1, .string r.x2, .string r.x3, .bool r.x4, .int .i64 r.x5] (0, 0) _ rfl (setRow_heap _ _ _ _ _ _ J1.out) Tryd.underlying32 rfl (by kernel_rfl)) rfl ⟨rfl, Com.setRow_bel B1.out (by omega) _⟩
set_option maxHeartbeats 1000000 in
theorem life_own (r : LifeR) (w : World) (ho : Short r) : Calls Tryd.prog 30 #[.agg #[.int .i64 r.x0, .string r.x1, .string r.x2, .string r.x3, .bool r.x4, .int .i64 r.x5, .int .i64 r.x6, .bool r.x7, .int .i64 r.x8, .int .i64 r.x9, .int .i64 r.x10, .int .i64 r.x11]] w fun e w' => e = .returned (.agg #[.int .i64 r.x0, .string r.x1, .string r.x2, .string r.x3, .bool r.x4, .int .i64 r.x5, .int .i64 r.x6, .bool r.x7, .int .i64 r.x8, .int .i64 r.x9, .int .i64 r.x10, .int .i64 r.x11]) ∧ Below w.heap.size w w' := by
  have K0 := Lib.hid (Blk.alloc (Blk.new w 34 #[.int .i64 r.x0, .string r.x1, .string r.x2, .string r.x3, .bool r.x4, .int .i64 r.x5, .int .i64 r.x6, .bool r.x7, .int .i64 r.x8, .int .i64 r.x9, .int .i64 r.x10, .int .i64 r.x11]) (.cells #[.int .i64 0, .string ⟨#[]⟩, .string ⟨#[]⟩, .string ⟨#[]⟩, .bool false, .int .i64 0, .int .i64 0, .bool false, .int .i64 0, .int .i64 0, .int .i64 0, .int .i64 0] 34))
  have J0 : Hid (Blk ((w.alloc (.cells #[.int .i64 r.x0, .string r.x1, .string r.x2, .string r.x3, .bool r.x4, .int .i64 r.x5, .int .i64 r.x6, .bool r.x7, .int .i64 r.x8, .int .i64 r.x9, .int .i64 r.x10, .int .i64 r.x11] 34)).alloc (.cells #[.int .i64 0, .string ⟨#[]⟩, .string ⟨#[]⟩, .string ⟨#[]⟩, .bool false, .int .i64 0, .int .i64 0, .bool false, .int .i64 0, .int .i64 0, .int .i64 0, .int .i64 0] 34)) (w.heap.size + 1) 34 #[.int .i64 0, .string ⟨#[]⟩, .string ⟨#[]⟩, .string ⟨#[]⟩, .bool false, .int .i64 0, .int .i64 0, .bool false, .int .i64 0, .int .i64 0, .int .i64 0, .int .i64 0]) := Lib.hid (by
    have := Blk.new (w.alloc (.cells #[.int .i64 r.x0, .string r.x1, .string r.x2, .string r.x3, .bool r.x4, .int .i64 r.x5, .int .i64 r.x6, .bool r.x7, .int .i64 r.x8, .int .i64 r.x9, .int .i64 r.x10, .int .i64 r.x11] 34)) 34 #[.int .i64 0, .string ⟨#[]⟩, .string ⟨#[]⟩, .string ⟨#[]⟩, .bool false, .int .i64 0, .int .i64 0, .bool false, .int .i64 0, .int .i64 0, .int .i64 0, .int .i64 0]
    simpa using this)
  have B0 := Lib.hid (((Below.refl w.heap.size w).alloc (Nat.le_refl _) (.cells #[.int .i64 r.x0, .string r.x1, .string r.x2, .string r.x3, .bool r.x4, .int .i64 r.x5, .int .i64 r.x6, .bool r.x7, .int .i64 r.x8, .int .i64 r.x9, .int .i64 r.x10, .int .i64 r.x11] 34)).alloc (by simp) (.cells #[.int .i64 0, .string ⟨#[]⟩, .string ⟨#[]⟩, .string ⟨#[]⟩, .bool false, .int .i64 0, .int .i64 0, .bool false, .int .i64 0, .int .i64 0, .int .i64 0, .int .i64 0] 34))
  have CS := Lib.hid (fun W => sa_own r W ho)
  have one := Lib.hid (oneLA r)
  clear ho
  go_enter Tryd.func30, Tryd.ntmps30
  go_wp2_with fail
  generalize (w.alloc (.cells #[.int .i64 r.x0, .string r.x1, .string r.x2, .string r.x3, .bool r.x4, .int .i64 r.x5, .int .i64 r.x6, .bool r.x7, .int .i64 r.x8, .int .i64 r.x9, .int .i64 r.x10, .int .i64 r.x11] 34)).alloc (.cells #[.int .i64 0, .string ⟨#[]⟩, .string ⟨#[]⟩, .string ⟨#[]⟩, .bool false, .int .i64 0, .int .i64 0, .bool false, .int .i64 0, .int .i64 0, .int .i64 0, .int .i64 0] 34) = w1 at *
  have RP : (loadVar 32 ⟨w.heap.size, 0, none⟩).run Tryd.prog w1 = .ok (.agg #[.int .i64 r.x0, .string r.x1, .string r.x2, .string r.x3, .bool r.x4, .int .i64 r.x5]) w1 := Part.run_part w1 w.heap.size 0 32 [.int .i64 r.x0, .string r.x1, .string r.x2, .string r.x3, .bool r.x4, .int .i64 r.x5] _ Tryd.underlying32 rfl (by kernel_rfl) (blk_part K0.out 0 6)
  go_wp2_with (refine Part.wpList_load_part rfl 32 (.tmp 3) rfl w.heap.size 0 [.int .i64 r.x0, .string r.x1, .string r.x2, .string r.x3, .bool r.x4, .int .i64 r.x5] rfl RP ?_)
  refine (CS.out _).mono ?_
  rintro er w2 ⟨rfl, hb⟩
  have K1 := Lib.hid (Blk.below K0.out hb (Blk.lt K0.out))
  have J1 := Lib.hid (Blk.below J0.out hb (Blk.lt J0.out))
  have B1 := Lib.hid (B0.out.trans (hb.mono B0.out.size))
  have SP : (storeVar 32 ⟨w.heap.size, 0, none⟩ (.agg #[.int .i64 r.x0, .string r.x1, .string r.x2, .string r.x3, .bool r.x4, .int .i64 r.x5])).run Tryd.prog w2 = .ok () w2 := same_part (vs := saC r) K1.out (by kernel_rfl) (oneS r) (by simp [saC]) rfl
  clear RP K0 J0 B0 CS hb
  go_wp2_with (first
    | (refine Store.at_store 32 (.tmp 6) (.tmp 5) ?_ ?_; exact rfl; refine wpList_store_run rfl 32 (.tmp 6) (.tmp 5) rfl _ _ rfl rfl SP ?_)
    | (refine Store.at_load 34 (.tmp 1) ?_ ?_; exact rfl; refine Loads.wpList_load_w rfl 34 (.tmp 1) rfl w.heap.size rfl 34 #[.int .i64 r.x0, .string r.x1, .string r.x2, .string r.x3, .bool r.x4, .int .i64 r.x5, .int .i64 r.x6, .bool r.x7, .int .i64 r.x8, .int .i64 r.x9, .int .i64 r.x10, .int .i64 r.x11] (0, 0) _ (K1.out) Tryd.underlying34 rfl (by kernel_rfl) ?_)
    | (refine Store.at_store 34 (.tmp 2) (.tmp 7) ?_ ?_; exact rfl; refine wpList_store_row rfl 34 (.tmp 2) (.tmp 7) rfl (w.heap.size + 1) #[.int .i64 r.x0, .string r.x1, .string r.x2, .string r.x3, .bool r.x4, .int .i64 r.x5, .int .i64 r.x6, .bool r.x7, .int .i64 r.x8, .int .i64 r.x9, .int .i64 r.x10, .int .i64 r.x11] rfl rfl 34 _ J1.out (by kernel_rfl) rfl one.out ?_))
  exact bodyPost_ret (results_cell_row rfl _ _ (w.heap.size + 1) 34 #[.int .i64 r.x0, .string r.x1, .string r.x2, .string r.x3, .bool r.x4, .int .i64 r.x5, .int .i64 r.x6, .bool r.x7, .int .i64 r.x8, .int .i64 r.x9, .int .i64 r.x10, .int .i64 r.x11] (0, 0) _ rfl (setRow_heap _ _ _ _ _ _ J1.out) Tryd.underlying34 rfl (by kernel_rfl)) rfl ⟨rfl, Com.setRow_bel B1.out (by omega) _⟩
end Go.Proofs.YtppnkkpjfjhfkaaDoor.Cad4

/- The code's made, count, valid. -/
set_option linter.unusedVariables false
set_option maxRecDepth 100000
namespace Go.Proofs.YtppnkkpjfjhfkaaDoor.Cad5
open Go.RowKit Go.Proofs.YtppnkkpjfjhfkaaDoor.Mem Go.Proofs.YtppnkkpjfjhfkaaDoor.Blk Go.Proofs.YtppnkkpjfjhfkaaDoor.Free Go.Proofs.YtppnkkpjfjhfkaaDoor.Steps Go.Proofs.YtppnkkpjfjhfkaaDoor.ArgT Go.Proofs.YtppnkkpjfjhfkaaDoor.Longs Go.Proofs.YtppnkkpjfjhfkaaDoor.SadM Go.Proofs.YtppnkkpjfjhfkaaDoor.RowN Go.Proofs.YtppnkkpjfjhfkaaDoor.RowA Go.Proofs.YtppnkkpjfjhfkaaDoor.CadM Go.Proofs.YtppnkkpjfjhfkaaDoor.Cad0
open Go.Proofs.YtppnkkpjfjhfkaaDoor.SadR7 (saC oneSa)
open Go.Proofs.YtppnkkpjfjhfkaaDoor.Cad4 Go.Proofs.YtppnkkpjfjhfkaaDoor.SadR10 Go.Proofs.YtppnkkpjfjhfkaaDoor.Rng4 Go.Proofs.YtppnkkpjfjhfkaaDoor.WinA

/-- What 'made' answers: an association that lies in new blocks. -/
structure Made (w w' : World) (r : LifeR) (now : Int) (l : CSpot) : Prop where
  blk : Blk w' l.g 65 (acells (newE r now) (wptr l))
  win : ∀ p, l.w = some p → Has w' p.1 p.2 r.x5.toNat r.x4 []
  out : l.w.isNone = r.x7
  ge : w.heap.size ≤ l.g ∧ ∀ p, l.w = some p → w.heap.size ≤ p.1 ∧ w.heap.size ≤ p.2 ∧ p.1 ≠ l.g ∧ p.2 ≠ l.g ∧ p.1 ≠ p.2
  bel : Below w.heap.size w w'
theorem new_cells (r : LifeR) (now : Int) (v : Value) : acells (newE r now) v = #[.int .i64 r.x0, .string r.x1, .string r.x2, .string r.x3, .bool r.x4, .int .i64 r.x5, .int .i64 r.x6, .bool r.x7, .int .i64 r.x8, .int .i64 r.x9, .int .i64 r.x10, .int .i64 r.x11, .int .i64 now, .int .i64 0, .int .u64 0, v] := rfl
set_option maxHeartbeats 2000000 in
theorem made_c (r : LifeR) (now : Int) (w : World) (hm : SadMay.mayL r = true) : Calls Tryd.prog 33 #[.int .i64 now, .agg #[.int .i64 r.x0, .string r.x1, .string r.x2, .string r.x3, .bool r.x4, .int .i64 r.x5, .int .i64 r.x6, .bool r.x7, .int .i64 r.x8, .int .i64 r.x9, .int .i64 r.x10, .int .i64 r.x11]] w fun e w' => ∃ l, e = .returned (ptr l.g) ∧ Made w w' r now l := by
  have K0 := Lib.hid (Blk.new w 34 #[.int .i64 r.x0, .string r.x1, .string r.x2, .string r.x3, .bool r.x4, .int .i64 r.x5, .int .i64 r.x6, .bool r.x7, .int .i64 r.x8, .int .i64 r.x9, .int .i64 r.x10, .int .i64 r.x11])
  have B0 := Lib.hid ((Below.refl w.heap.size w).alloc (Nat.le_refl _) (.cells #[.int .i64 r.x0, .string r.x1, .string r.x2, .string r.x3, .bool r.x4, .int .i64 r.x5, .int .i64 r.x6, .bool r.x7, .int .i64 r.x8, .int .i64 r.x9, .int .i64 r.x10, .int .i64 r.x11] 34))
  have LO := Lib.hid (fun W => life_own r W (short_of hm))
  have W5 : Hid (64 ≤ r.x5 ∧ r.x5 ≤ 1024) := Lib.hid (by
    unfold SadMay.mayL at hm
    rw [Bool.and_eq_true] at hm
    exact (SadMay.may_facts hm.1).2.2.2.2.2)
  clear hm
  go_enter Tryd.func33, Tryd.ntmps33
  go_wp2_with (refine Store.at_load 34 (.tmp 3) ?_ ?_; exact rfl; refine Loads.wpList_load_w rfl 34 (.tmp 3) rfl w.heap.size rfl 34 #[.int .i64 r.x0, .string r.x1, .string r.x2, .string r.x3, .bool r.x4, .int .i64 r.x5, .int .i64 r.x6, .bool r.x7, .int .i64 r.x8, .int .i64 r.x9, .int .i64 r.x10, .int .i64 r.x11] (0, 0) _ (K0.out) Tryd.underlying34 rfl (by kernel_rfl) ?_)
  refine (LO.out _).mono ?_
  rintro er w2 ⟨rfl, hb⟩
  have K1 := Lib.hid (Blk.below K0.out hb (Blk.lt K0.out))
  have B1 := Lib.hid (B0.out.trans (hb.mono B0.out.size))
  clear K0 B0 LO hb
  have N2 := Lib.hid (Blk.new w2 65 #[.int .i64 r.x0, .string r.x1, .string r.x2, .string r.x3, .bool r.x4, .int .i64 r.x5, .int .i64 r.x6, .bool r.x7, .int .i64 r.x8, .int .i64 r.x9, .int .i64 r.x10, .int .i64 r.x11, .int .i64 now, .int .i64 0, .int .u64 0, .pointer none])
  have K2 := Lib.hid (Blk.alloc K1.out (.cells #[.int .i64 r.x0, .string r.x1, .string r.x2, .string r.x3, .bool r.x4, .int .i64 r.x5, .int .i64 r.x6, .bool r.x7, .int .i64 r.x8, .int .i64 r.x9, .int .i64 r.x10, .int .i64 r.x11, .int .i64 now, .int .i64 0, .int .u64 0, .pointer none] 65))
  have B2 := Lib.hid (B1.out.alloc B1.out.size (.cells #[.int .i64 r.x0, .string r.x1, .string r.x2, .string r.x3, .bool r.x4, .int .i64 r.x5, .int .i64 r.x6, .bool r.x7, .int .i64 r.x8, .int .i64 r.x9, .int .i64 r.x10, .int .i64 r.x11, .int .i64 now, .int .i64 0, .int .u64 0, .pointer none] 65))
  have c4 : (w2.alloc (.cells #[.int .i64 r.x0, .string r.x1, .string r.x2, .string r.x3, .bool r.x4, .int .i64 r.x5, .int .i64 r.x6, .bool r.x7, .int .i64 r.x8, .int .i64 r.x9, .int .i64 r.x10, .int .i64 r.x11, .int .i64 now, .int .i64 0, .int .u64 0, .pointer none] 65)).cell? ⟨w.heap.size, 4, none⟩ = some (.bool r.x4) := K2.out.cell 4
  have c5 : (w2.alloc (.cells #[.int .i64 r.x0, .string r.x1, .string r.x2, .string r.x3, .bool r.x4, .int .i64 r.x5, .int .i64 r.x6, .bool r.x7, .int .i64 r.x8, .int .i64 r.x9, .int .i64 r.x10, .int .i64 r.x11, .int .i64 now, .int .i64 0, .int .u64 0, .pointer none] 65)).cell? ⟨w.heap.size, 5, none⟩ = some (.int .i64 r.x5) := K2.out.cell 5
  have c7 : (w2.alloc (.cells #[.int .i64 r.x0, .string r.x1, .string r.x2, .string r.x3, .bool r.x4, .int .i64 r.x5, .int .i64 r.x6, .bool r.x7, .int .i64 r.x8, .int .i64 r.x9, .int .i64 r.x10, .int .i64 r.x11, .int .i64 now, .int .i64 0, .int .u64 0, .pointer none] 65)).cell? ⟨w.heap.size, 7, none⟩ = some (.bool r.x7) := K2.out.cell 7
  have SZ : Hid ((w2.alloc (.cells #[.int .i64 r.x0, .string r.x1, .string r.x2, .string r.x3, .bool r.x4, .int .i64 r.x5, .int .i64 r.x6, .bool r.x7, .int .i64 r.x8, .int .i64 r.x9, .int .i64 r.x10, .int .i64 r.x11, .int .i64 now, .int .i64 0, .int .u64 0, .pointer none] 65)).heap.size = w2.heap.size + 1) := Lib.hid (by simp)
  by_cases o : r.x7 = true
  · have g1 : (!r.x7) = false := by simp [o]
    have O := Lib.hid o
    clear o
    go_wp2_with fail
    go_ret
    refine ⟨⟨w2.heap.size, none⟩, rfl, N2.out, fun p hp => by (cases hp), O.out.symm, ⟨?_, fun p hp => by (cases hp)⟩, B2.out⟩
    have := B1.out.size
    simpa using this
  · have g1 : (!r.x7) = true := by simp [o]
    have O := Lib.hid o
    clear o
    have NC := new_has r.x5.toNat r.x4 (w2.alloc (.cells #[.int .i64 r.x0, .string r.x1, .string r.x2, .string r.x3, .bool r.x4, .int .i64 r.x5, .int .i64 r.x6, .bool r.x7, .int .i64 r.x8, .int .i64 r.x9, .int .i64 r.x10, .int .i64 r.x11, .int .i64 now, .int .i64 0, .int .u64 0, .pointer none] 65)) (by have := W5.out; omega) (by have := W5.out; omega)
    rw [Int.toNat_of_nonneg (show 0 ≤ r.x5 by have := W5.out; omega), SZ.out] at NC
    have NC := Lib.hid NC
    go_wp2_with fail
    refine NC.out.mono ?_
    rintro er w4 ⟨rfl, hh, hb⟩
    have K4 := Lib.hid (Blk.below N2.out hb (Nat.lt_succ_self _))
    have ST : (storeVar 63 ⟨w2.heap.size, 15, none⟩ (.pointer (some ⟨w2.heap.size + 1 + 1, 0, none⟩))).run Tryd.prog w4 = .ok () (w4.setRow w2.heap.size (acells (newE r now) (ptr (w2.heap.size + 1 + 1)))) := Store.run_store_one K4.out (by simp) (by kernel_rfl) rfl _ rfl rfl
    have HH := Lib.hid hh
    have B4 := Lib.hid hb
    clear hh hb NC
    go_wp2_with (refine Store.at_store 63 (.tmp 26) (.tmp 23) ?_ ?_; exact rfl; refine wpList_store_run rfl 63 (.tmp 26) (.tmp 23) rfl _ _ rfl rfl ST ?_)
    go_ret
    have z1 := B1.out.size
    refine ⟨⟨w2.heap.size, some (w2.heap.size + 1 + 1, w2.heap.size + 1)⟩, rfl, setRow_heap _ _ _ _ _ _ K4.out, fun p hp => ?_, ?_, ⟨by omega, fun p hp => ?_⟩, Com.setRow_bel (B2.out.trans (B4.out.mono (by omega))) z1 _⟩
    · cases hp
      have q := HH.out
      exact has_same q (setRow_other _ _ _ _ (by omega)) (setRow_other _ _ _ _ (by omega))
    · show false = r.x7
      cases h : r.x7
      · rfl
      · exact absurd h O.out
    · cases hp
      dsimp only
      omega
set_option maxHeartbeats 1000000 in
theorem count_c (e : Ent) (g : Nat) (v : Value) (n : Int) (w : World) (h : Blk w g 65 (acells e v)) (h0 : 0 ≤ e.bytes) (hn : 0 ≤ n) (hb : e.bytes + n ≤ 9223372036854775807) :
    Calls Tryd.prog 37 #[.pointer (some ⟨g, 0, none⟩), .int .i64 n] w fun er w' => er = .returned (.tuple #[]) ∧ Blk w' g 65 (acells { e with bytes := e.bytes + n } v) ∧ But g none w w' := by
  have c13 : w.cell? ⟨g, 13, none⟩ = some (.int .i64 e.bytes) := h.cell 13
  have z13 := h.frozen 13
  have f1 : IntKind.i64.wrap (9223372036854775807 - e.bytes) = 9223372036854775807 - e.bytes := IntWalk.i64_in _ (by omega)
  have f2 : min n (9223372036854775807 - e.bytes) = n := Int.min_eq_left (by omega)
  have f3 : IntKind.i64.wrap (e.bytes + n) = e.bytes + n := IntWalk.i64_in _ (by omega)
  have HH := Lib.hid h
  clear h
  obtain ⟨b, hbb⟩ : ∃ b, b = e.bytes := ⟨_, rfl⟩
  rw [← hbb] at c13 f1 f2 f3
  have HB := Lib.hid hbb
  clear hbb h0 hn hb
  go_enter Tryd.func37, Tryd.ntmps37
  go_wp2_with fail
  go_region
  go_wp2_with fail
  go_end0
  refine ⟨rfl, ?_, rfl, rfl, rfl, by simp, fun k hk h1 _ => Below.heap_setCell w ⟨g, 13, none⟩ _ k (fun e => h1 e)⟩
  have := Blk.put HH.out 13 (.int .i64 (b + n))
  rw [HB.out] at this ⊢
  exact this
end Go.Proofs.YtppnkkpjfjhfkaaDoor.Cad5

