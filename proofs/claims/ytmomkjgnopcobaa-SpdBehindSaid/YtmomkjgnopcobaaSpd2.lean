/- The code's ownSpan, ownRule. -/
import Derived.Test.YtmomkjgnopcobaaSpd1
set_option linter.unusedVariables false
namespace Go.Proofs.Ytmomkjgnopcobaa.Spd2
open Go.RowKit Go.Proofs.Ytmomkjgnopcobaa.Mem Go.Proofs.Ytmomkjgnopcobaa.Blk Go.Proofs.Ytmomkjgnopcobaa.Ahead Go.Proofs.Ytmomkjgnopcobaa.PickD Go.Proofs.Ytmomkjgnopcobaa.PickR1 Go.Proofs.Ytmomkjgnopcobaa.PickR2 Go.Proofs.Ytmomkjgnopcobaa.Pick1 Go.Proofs.Ytmomkjgnopcobaa.Pick2 Go.Proofs.Ytmomkjgnopcobaa.Pick3 Go.Proofs.Ytmomkjgnopcobaa.Pick4 Go.Proofs.Ytmomkjgnopcobaa.Free Go.Proofs.Ytmomkjgnopcobaa.Steps Go.Proofs.Ytmomkjgnopcobaa.Regs Go.Proofs.Ytmomkjgnopcobaa.ArgT Go.Proofs.Ytmomkjgnopcobaa.MapK Go.Proofs.Ytmomkjgnopcobaa.Quest Go.Proofs.Ytmomkjgnopcobaa.RowN Go.Proofs.Ytmomkjgnopcobaa.SpdD Go.Proofs.Ytmomkjgnopcobaa.Spd1

theorem one2 (a b : ByteArray) : (#[.string a, .string b] : Array Value).all (·.oneCell') = true := by simp [Value.oneCell']
set_option maxRecDepth 100000 in
set_option maxHeartbeats 1000000 in
theorem span_own (a b : ByteArray) (w : World) (ha : a.size ≤ maxT) (hb : b.size ≤ maxT) : Calls Try.prog 29 #[.agg #[.string a, .string b]] w fun e w' => e = .returned (.agg #[.string a, .string b]) ∧ Below w.heap.size w w' := by
  have K0 := Lib.hid (Blk.alloc (Blk.new w 29 #[.string a, .string b]) (.cells #[.string ⟨#[]⟩, .string ⟨#[]⟩] 29))
  have J0 : Hid (Blk ((w.alloc (.cells #[.string a, .string b] 29)).alloc (.cells #[.string ⟨#[]⟩, .string ⟨#[]⟩] 29)) (w.heap.size + 1) 29 #[.string ⟨#[]⟩, .string ⟨#[]⟩]) := Lib.hid (by
    have := Blk.new (w.alloc (.cells #[.string a, .string b] 29)) 29 #[.string ⟨#[]⟩, .string ⟨#[]⟩]
    simpa using this)
  have B0 := Lib.hid (((Below.refl w.heap.size w).alloc (Nat.le_refl _) (.cells #[.string a, .string b] 29)).alloc (by simp) (.cells #[.string ⟨#[]⟩, .string ⟨#[]⟩] 29))
  have CA := Lib.hid (fun W => clone_text a W ha)
  have CB := Lib.hid (fun W => clone_text b W hb)
  clear ha hb
  go_enter Try.func29, Try.ntmps29
  go_wp2_with fail
  generalize (w.alloc (.cells #[.string a, .string b] 29)).alloc (.cells #[.string ⟨#[]⟩, .string ⟨#[]⟩] 29) = w1 at *
  have X : Hid (∀ V, Below w1.drew.heap.size w1.drew V → Blk V w.heap.size 29 #[.string a, .string b]) := Lib.hid fun V hV => Blk.below (show Blk w1.drew w.heap.size 29 #[.string a, .string b] from K0.out) hV (Blk.lt K0.out)
  refine wp_region_free [0, 1, 2, 3, 4, 5, 6] 7 [] (fun w1 w2 => Below w1.heap.size w1 w2) (fun k' w' v => match k' with
    | 0 => v = .pointer (some ⟨w.heap.size, 0, none⟩)
    | 1 => v = .string a
    | 2 => v = .string a
    | 3 => v = .pointer (some ⟨w.heap.size, 1, none⟩)
    | 4 => v = .string b
    | 5 => v = .string b
    | _ => v = .agg #[.string a, .string b]) (by kernel_rfl) (by kernel_rfl) (Below.refl _ _) (fun _ _ _ h k => h.trans (k.mono h.size)) (fun k' w1 w2 v h => match k' with
    | 0 => fun x => x
    | 1 => fun x => x
    | 2 => fun x => x
    | 3 => fun x => x
    | 4 => fun x => x
    | 5 => fun x => x
    | _ + 6 => fun x => x) (fun _ _ _ _ _ h => h) ?_ _ (by rfl) ?_
  · refine obs_cons (by rfl) (fun vals w' hgr hdep K hK => ?_) (obs_cons (by rfl) (fun vals w' hgr hdep K hK => ?_) (obs_cons (by rfl) (fun vals w' hgr hdep K hK => ?_) (obs_cons (by rfl) (fun vals w' hgr hdep K hK => ?_) (obs_cons (by rfl) (fun vals w' hgr hdep K hK => ?_) (obs_cons (by rfl) (fun vals w' hgr hdep K hK => ?_) (obs_cons (by rfl) (fun vals w' hgr hdep K hK => ?_) (obs_nil)))))))
    · exact wp_field (.tmp 1) rfl _ _ (at_out _ (by kernel_rfl) rfl) (by kernel_rfl) (hK _ _ (Below.refl _ _) rfl)
    · exact wp_load1 (.tmp 3) rfl ⟨w.heap.size, 0, none⟩ ((at_dst 0 (by kernel_rfl)).trans (hdep 0 (by simp) (by kernel_rfl))) Try.underlying9 rfl _ ((X.out w' hgr).cell 0) (hK _ _ (Below.refl _ _) rfl)
    · exact wp_call 30 [.tmp 4] _ rfl SpdD.ent_clone [.string a] (Draw.list1 ((at_dst 1 (by kernel_rfl)).trans (hdep 1 (by simp) (by kernel_rfl)))) (fun v w'' => v = .string a ∧ Below w'.heap.size w' w'') (((CA.out w')).mono fun e w'' ⟨h1, h2⟩ => ⟨_, h1, rfl, h2⟩) (fun v w'' ⟨h1, h2⟩ => hK _ _ h2 h1)
    · exact wp_field (.tmp 1) rfl _ _ (at_out _ (by kernel_rfl) rfl) (by kernel_rfl) (hK _ _ (Below.refl _ _) rfl)
    · exact wp_load1 (.tmp 6) rfl ⟨w.heap.size, 1, none⟩ ((at_dst 3 (by kernel_rfl)).trans (hdep 3 (by simp) (by kernel_rfl))) Try.underlying9 rfl _ ((X.out w' hgr).cell 1) (hK _ _ (Below.refl _ _) rfl)
    · exact wp_call 30 [.tmp 7] _ rfl SpdD.ent_clone [.string b] (Draw.list1 ((at_dst 4 (by kernel_rfl)).trans (hdep 4 (by simp) (by kernel_rfl)))) (fun v w'' => v = .string b ∧ Below w'.heap.size w' w'') (((CB.out w')).mono fun e w'' ⟨h1, h2⟩ => ⟨_, h1, rfl, h2⟩) (fun v w'' ⟨h1, h2⟩ => hK _ _ h2 h1)
    · have eq2 : vals 2 = .string a := hdep 2 (by simp) (by kernel_rfl)
      have eq5 : vals 5 = .string b := hdep 5 (by simp) (by kernel_rfl)
      refine st_build ([(0, 5, 2), (1, 8, 5)].map fun q => (q.1, Operand.tmp q.2.1)) rfl ([(0, 5, 2), (1, 8, 5)].map fun q => (q.1, vals q.2.2)) (map_fill [(0, 5, 2), (1, 8, 5)] (by kernel_rfl)) (.agg #[.string a, .string b]) ?_ (hK _ _ (Below.refl _ _) rfl)
      simp only [List.map, eq2, eq5]
      kernel_rfl
  · intro vals w' hgr hG
    have XJ : Blk w' (w.heap.size + 1) 29 #[.string ⟨#[]⟩, .string ⟨#[]⟩] := Blk.below (show Blk w1.drew (w.heap.size + 1) 29 #[.string ⟨#[]⟩, .string ⟨#[]⟩] from J0.out) hgr (Blk.lt J0.out)
    have e6 : vals 6 = .agg #[.string a, .string b] := hG 6 (by simp)
    refine st_store_row 29 (.tmp 2) (.tmp 9) rfl (w.heap.size + 1) #[.string a, .string b] (at_out _ (by kernel_rfl) rfl) ((at_dst 6 (by kernel_rfl)).trans e6) 29 _ XJ (by kernel_rfl) rfl (one2 _ _) (wpAnyH_done (by kernel_rfl) ?_ _)
    have B2 := Lib.hid (Com.setRow_bel (B0.out.trans ((Draw.below_1 hgr).mono B0.out.size)) (show w.heap.size ≤ w.heap.size + 1 by omega) #[.string a, .string b])
    have J2 := setRow_heap _ _ _ #[.string a, .string b] _ _ XJ
    clear hG hgr X K0 J0 B0 XJ e6
    simp only [fill, dstAt, List.getElem?_cons_zero, List.getElem?_cons_succ, Option.bind_some, Act.put, List.setIfInBounds_toArray, List.set_cons_zero, List.set_cons_succ]
    generalize vals 0 = z0, vals 1 = z1, vals 2 = z2, vals 3 = z3, vals 4 = z4, vals 5 = z5, vals 6 = z6 at *
    generalize w'.setRow (w.heap.size + 1) #[.string a, .string b] = w2 at *
    go_wp2_with fail
    exact bodyPost_ret (results_cell_row rfl _ _ (w.heap.size + 1) 29 #[.string a, .string b] (0, 0) _ rfl J2 Try.underlying29 rfl (by kernel_rfl)) rfl ⟨rfl, B2.out⟩
theorem ent_span : Enters Try.prog 29 := enters_of Try.func29 (by kernel_rfl) rfl
set_option maxRecDepth 100000 in
set_option maxHeartbeats 2000000 in
theorem rule_own (r : RuleR) (w : World) (ho : Ok r) : Calls Try.prog 19 #[.agg (RA r)] w fun e w' => e = .returned (.agg (RA r)) ∧ Below w.heap.size w w' := by
  have K0 := Lib.hid (Blk.alloc (Blk.new w 35 (RA r)) (.cells #[.int .i64 0, .string ⟨#[]⟩, .string ⟨#[]⟩, .string ⟨#[]⟩, .string ⟨#[]⟩, .int .i64 0, .int .i64 0, .int .i64 0, .int .i64 0, .int .i64 0, .bool false, .bool false, .int .i64 0, .bool false, .string ⟨#[]⟩, .string ⟨#[]⟩] 35))
  have J0 : Hid (Blk ((w.alloc (.cells (RA r) 35)).alloc (.cells #[.int .i64 0, .string ⟨#[]⟩, .string ⟨#[]⟩, .string ⟨#[]⟩, .string ⟨#[]⟩, .int .i64 0, .int .i64 0, .int .i64 0, .int .i64 0, .int .i64 0, .bool false, .bool false, .int .i64 0, .bool false, .string ⟨#[]⟩, .string ⟨#[]⟩] 35)) (w.heap.size + 1) 35 #[.int .i64 0, .string ⟨#[]⟩, .string ⟨#[]⟩, .string ⟨#[]⟩, .string ⟨#[]⟩, .int .i64 0, .int .i64 0, .int .i64 0, .int .i64 0, .int .i64 0, .bool false, .bool false, .int .i64 0, .bool false, .string ⟨#[]⟩, .string ⟨#[]⟩]) := Lib.hid (by
    have := Blk.new (w.alloc (.cells (RA r) 35)) 35 #[.int .i64 0, .string ⟨#[]⟩, .string ⟨#[]⟩, .string ⟨#[]⟩, .string ⟨#[]⟩, .int .i64 0, .int .i64 0, .int .i64 0, .int .i64 0, .int .i64 0, .bool false, .bool false, .int .i64 0, .bool false, .string ⟨#[]⟩, .string ⟨#[]⟩]
    simpa using this)
  have B0 := Lib.hid (((Below.refl w.heap.size w).alloc (Nat.le_refl _) (.cells (RA r) 35)).alloc (by simp) (.cells #[.int .i64 0, .string ⟨#[]⟩, .string ⟨#[]⟩, .string ⟨#[]⟩, .string ⟨#[]⟩, .int .i64 0, .int .i64 0, .int .i64 0, .int .i64 0, .int .i64 0, .bool false, .bool false, .int .i64 0, .bool false, .string ⟨#[]⟩, .string ⟨#[]⟩] 35))
  have hm : ∀ {n : Nat}, n ≤ 140737488355328 → n ≤ maxT := fun h => by unfold maxT; omega
  have C1 := Lib.hid (fun W => span_own r.x1 r.x2 W (hm ho.1) (hm ho.2.1))
  have C2 := Lib.hid (fun W => span_own r.x3 r.x4 W (hm ho.2.2.1) (hm ho.2.2.2.1))
  have C3 := Lib.hid (fun W => clone_text r.x14 W (hm ho.2.2.2.2.1))
  have C4 := Lib.hid (fun W => clone_text r.x15 W (hm ho.2.2.2.2.2))
  clear ho hm
  go_enter Try.func19, Try.ntmps19
  go_wp2_with fail
  generalize (w.alloc (.cells (RA r) 35)).alloc (.cells #[.int .i64 0, .string ⟨#[]⟩, .string ⟨#[]⟩, .string ⟨#[]⟩, .string ⟨#[]⟩, .int .i64 0, .int .i64 0, .int .i64 0, .int .i64 0, .int .i64 0, .bool false, .bool false, .int .i64 0, .bool false, .string ⟨#[]⟩, .string ⟨#[]⟩] 35) = w1 at *
  have X : Hid (∀ V, Below w1.drew.heap.size w1.drew V → Blk V w.heap.size 35 (RA r)) := Lib.hid fun V hV => Blk.below (show Blk w1.drew w.heap.size 35 (RA r) from K0.out) hV (Blk.lt K0.out)
  refine wp_region_free [0, 1, 2, 3, 4, 5, 6, 7, 8, 9, 10, 11, 12] 13 [] (fun w1 w2 => Below w1.heap.size w1 w2) (fun k' w' v => match k' with
    | 0 => v = .pointer (some ⟨w.heap.size, 1, none⟩)
    | 1 => v = .pointer (some ⟨w.heap.size, 1, none⟩)
    | 2 => v = .agg #[.string r.x1, .string r.x2]
    | 3 => v = .agg #[.string r.x1, .string r.x2]
    | 4 => v = .pointer (some ⟨w.heap.size, 1, none⟩)
    | 5 => v = .pointer (some ⟨w.heap.size, 3, none⟩)
    | 6 => v = .agg #[.string r.x3, .string r.x4]
    | 7 => v = .agg #[.string r.x3, .string r.x4]
    | 8 => v = .pointer (some ⟨w.heap.size, 1, none⟩)
    | 9 => v = .pointer (some ⟨w.heap.size, 1, none⟩)
    | 10 => True
    | 11 => v = .pointer (some ⟨w.heap.size, 1, none⟩)
    | _ => v = .pointer (some ⟨w.heap.size, 3, none⟩)) (by kernel_rfl) (by kernel_rfl) (Below.refl _ _) (fun _ _ _ h k => h.trans (k.mono h.size)) (fun k' w1 w2 v h => match k' with
    | 0 => fun x => x
    | 1 => fun x => x
    | 2 => fun x => x
    | 3 => fun x => x
    | 4 => fun x => x
    | 5 => fun x => x
    | 6 => fun x => x
    | 7 => fun x => x
    | 8 => fun x => x
    | 9 => fun x => x
    | 10 => fun _ => trivial
    | 11 => fun x => x
    | _ + 12 => fun x => x) (fun _ _ _ _ _ h => h) ?_ _ (by rfl) ?_
  · refine obs_cons (by rfl) (fun vals w' hgr hdep K hK => ?_) (obs_cons (by rfl) (fun vals w' hgr hdep K hK => ?_) (obs_cons (by rfl) (fun vals w' hgr hdep K hK => ?_) (obs_cons (by rfl) (fun vals w' hgr hdep K hK => ?_) (obs_cons (by rfl) (fun vals w' hgr hdep K hK => ?_) (obs_cons (by rfl) (fun vals w' hgr hdep K hK => ?_) (obs_cons (by rfl) (fun vals w' hgr hdep K hK => ?_) (obs_cons (by rfl) (fun vals w' hgr hdep K hK => ?_) (obs_cons (by rfl) (fun vals w' hgr hdep K hK => ?_) (obs_cons (by rfl) (fun vals w' hgr hdep K hK => ?_) (obs_cons (by rfl) (fun vals w' hgr hdep K hK => ?_) (obs_cons (by rfl) (fun vals w' hgr hdep K hK => ?_) (obs_cons (by rfl) (fun vals w' hgr hdep K hK => ?_) (obs_nil)))))))))))))
    · exact wp_field (.tmp 1) rfl _ _ (at_out _ (by kernel_rfl) rfl) (by kernel_rfl) (hK _ _ (Below.refl _ _) rfl)
    · exact wp_field (.tmp 3) rfl _ _ ((at_dst 0 (by kernel_rfl)).trans (hdep 0 (by simp) (by kernel_rfl))) (by kernel_rfl) (hK _ _ (Below.refl _ _) rfl)
    · exact Part.st_load_part 29 (.tmp 4) rfl w.heap.size 1 [.string r.x1, .string r.x2] ((at_dst 1 (by kernel_rfl)).trans (hdep 1 (by simp) (by kernel_rfl))) (Part.run_part _ _ _ _ _ _ Try.underlying29 rfl (by kernel_rfl) (blk_part (X.out w' hgr) 1 2)) (hK _ _ (Below.refl _ _) rfl)
    · exact wp_call 29 [.tmp 5] _ rfl ent_span [.agg #[.string r.x1, .string r.x2]] (Draw.list1 ((at_dst 2 (by kernel_rfl)).trans (hdep 2 (by simp) (by kernel_rfl)))) (fun v w'' => v = .agg #[.string r.x1, .string r.x2] ∧ Below w'.heap.size w' w'') (((C1.out w')).mono fun e w'' ⟨h1, h2⟩ => ⟨_, h1, rfl, h2⟩) (fun v w'' ⟨h1, h2⟩ => hK _ _ h2 h1)
    · exact wp_field (.tmp 1) rfl _ _ (at_out _ (by kernel_rfl) rfl) (by kernel_rfl) (hK _ _ (Below.refl _ _) rfl)
    · exact wp_field (.tmp 7) rfl _ _ ((at_dst 4 (by kernel_rfl)).trans (hdep 4 (by simp) (by kernel_rfl))) (by kernel_rfl) (hK _ _ (Below.refl _ _) rfl)
    · exact Part.st_load_part 29 (.tmp 8) rfl w.heap.size 3 [.string r.x3, .string r.x4] ((at_dst 5 (by kernel_rfl)).trans (hdep 5 (by simp) (by kernel_rfl))) (Part.run_part _ _ _ _ _ _ Try.underlying29 rfl (by kernel_rfl) (blk_part (X.out w' hgr) 3 2)) (hK _ _ (Below.refl _ _) rfl)
    · exact wp_call 29 [.tmp 9] _ rfl ent_span [.agg #[.string r.x3, .string r.x4]] (Draw.list1 ((at_dst 6 (by kernel_rfl)).trans (hdep 6 (by simp) (by kernel_rfl)))) (fun v w'' => v = .agg #[.string r.x3, .string r.x4] ∧ Below w'.heap.size w' w'') (((C2.out w')).mono fun e w'' ⟨h1, h2⟩ => ⟨_, h1, rfl, h2⟩) (fun v w'' ⟨h1, h2⟩ => hK _ _ h2 h1)
    · exact wp_field (.tmp 1) rfl _ _ (at_out _ (by kernel_rfl) rfl) (by kernel_rfl) (hK _ _ (Below.refl _ _) rfl)
    · exact wp_field (.tmp 11) rfl _ _ ((at_dst 8 (by kernel_rfl)).trans (hdep 8 (by simp) (by kernel_rfl))) (by kernel_rfl) (hK _ _ (Below.refl _ _) rfl)
    · exact st_same 29 (.tmp 12) (.tmp 6) rfl ⟨w.heap.size, 1, none⟩ ((at_dst 9 (by kernel_rfl)).trans (hdep 9 (by simp) (by kernel_rfl))) (.agg #[.string r.x1, .string r.x2]) ((at_dst 3 (by kernel_rfl)).trans (hdep 3 (by simp) (by kernel_rfl))) (same_two (X.out w' hgr) (by kernel_rfl) rfl rfl rfl rfl) (hK _ _ (Below.refl _ _) trivial)
    · exact wp_field (.tmp 1) rfl _ _ (at_out _ (by kernel_rfl) rfl) (by kernel_rfl) (hK _ _ (Below.refl _ _) rfl)
    · exact wp_field (.tmp 13) rfl _ _ ((at_dst 11 (by kernel_rfl)).trans (hdep 11 (by simp) (by kernel_rfl))) (by kernel_rfl) (hK _ _ (Below.refl _ _) rfl)
  · intro vals w' hgr hG
    refine st_same 29 (.tmp 14) (.tmp 10) rfl ⟨w.heap.size, 3, none⟩ ((at_dst 12 (by kernel_rfl)).trans (hG 12 (by simp))) (.agg #[.string r.x3, .string r.x4]) ((at_dst 7 (by kernel_rfl)).trans (hG 7 (by simp))) (same_two (X.out w' hgr) (by kernel_rfl) rfl rfl rfl rfl) (wpAnyH_done (by kernel_rfl) ?_ _)
    have hU := hgr
    have K1 := Lib.hid (X.out _ hU)
    have J1 := Lib.hid (Blk.below (show Blk w1.drew (w.heap.size + 1) 35 #[.int .i64 0, .string ⟨#[]⟩, .string ⟨#[]⟩, .string ⟨#[]⟩, .string ⟨#[]⟩, .int .i64 0, .int .i64 0, .int .i64 0, .int .i64 0, .int .i64 0, .bool false, .bool false, .int .i64 0, .bool false, .string ⟨#[]⟩, .string ⟨#[]⟩] from J0.out) hU (Blk.lt J0.out))
    have B1 := Lib.hid (B0.out.trans ((Draw.below_1 hU).mono B0.out.size))
    clear hU hG hgr X K0 J0 B0
    simp only [fill, dstAt, List.getElem?_cons_zero, List.getElem?_cons_succ, Option.bind_some, Act.put, List.setIfInBounds_toArray, List.set_cons_zero, List.set_cons_succ]
    generalize vals 0 = y0, vals 1 = y1, vals 2 = y2, vals 3 = y3, vals 4 = y4, vals 5 = y5, vals 6 = y6, vals 7 = y7, vals 8 = y8, vals 9 = y9, vals 10 = y10, vals 11 = y11, vals 12 = y12 at *
    generalize w' = w2 at *
    go_wp2_with fail
    have X2 : Hid (∀ V, Below w2.drew.heap.size w2.drew V → Blk V w.heap.size 35 (RA r)) := Lib.hid fun V hV => Blk.below (show Blk w2.drew w.heap.size 35 (RA r) from K1.out) hV (Blk.lt K1.out)
    refine wp_region_free [0, 1, 2, 3, 4, 5, 6, 7, 8] 9 [] (fun w1 w2 => Below w1.heap.size w1 w2) (fun k' w' v => match k' with
      | 0 => v = .pointer (some ⟨w.heap.size, 14, none⟩)
      | 1 => v = .string r.x14
      | 2 => v = .string r.x14
      | 3 => v = .pointer (some ⟨w.heap.size, 15, none⟩)
      | 4 => v = .string r.x15
      | 5 => v = .string r.x15
      | 6 => v = .pointer (some ⟨w.heap.size, 14, none⟩)
      | 7 => True
      | _ => v = .pointer (some ⟨w.heap.size, 15, none⟩)) (by kernel_rfl) (by kernel_rfl) (Below.refl _ _) (fun _ _ _ h k => h.trans (k.mono h.size)) (fun k' w1 w2 v h => match k' with
      | 0 => fun x => x
      | 1 => fun x => x
      | 2 => fun x => x
      | 3 => fun x => x
      | 4 => fun x => x
      | 5 => fun x => x
      | 6 => fun x => x
      | 7 => fun _ => trivial
      | _ + 8 => fun x => x) (fun _ _ _ _ _ h => h) ?_ _ (by rfl) ?_
    · refine obs_cons (by rfl) (fun vals w' hgr hdep K hK => ?_) (obs_cons (by rfl) (fun vals w' hgr hdep K hK => ?_) (obs_cons (by rfl) (fun vals w' hgr hdep K hK => ?_) (obs_cons (by rfl) (fun vals w' hgr hdep K hK => ?_) (obs_cons (by rfl) (fun vals w' hgr hdep K hK => ?_) (obs_cons (by rfl) (fun vals w' hgr hdep K hK => ?_) (obs_cons (by rfl) (fun vals w' hgr hdep K hK => ?_) (obs_cons (by rfl) (fun vals w' hgr hdep K hK => ?_) (obs_cons (by rfl) (fun vals w' hgr hdep K hK => ?_) (obs_nil)))))))))
      · exact wp_field (.tmp 1) rfl _ _ (at_out _ (by kernel_rfl) rfl) (by kernel_rfl) (hK _ _ (Below.refl _ _) rfl)
      · exact wp_load1 (.tmp 15) rfl ⟨w.heap.size, 14, none⟩ ((at_dst 0 (by kernel_rfl)).trans (hdep 0 (by simp) (by kernel_rfl))) Try.underlying9 rfl _ ((X2.out w' hgr).cell 14) (hK _ _ (Below.refl _ _) rfl)
      · exact wp_call 30 [.tmp 16] _ rfl SpdD.ent_clone [.string r.x14] (Draw.list1 ((at_dst 1 (by kernel_rfl)).trans (hdep 1 (by simp) (by kernel_rfl)))) (fun v w'' => v = .string r.x14 ∧ Below w'.heap.size w' w'') (((C3.out w')).mono fun e w'' ⟨h1, h2⟩ => ⟨_, h1, rfl, h2⟩) (fun v w'' ⟨h1, h2⟩ => hK _ _ h2 h1)
      · exact wp_field (.tmp 1) rfl _ _ (at_out _ (by kernel_rfl) rfl) (by kernel_rfl) (hK _ _ (Below.refl _ _) rfl)
      · exact wp_load1 (.tmp 18) rfl ⟨w.heap.size, 15, none⟩ ((at_dst 3 (by kernel_rfl)).trans (hdep 3 (by simp) (by kernel_rfl))) Try.underlying9 rfl _ ((X2.out w' hgr).cell 15) (hK _ _ (Below.refl _ _) rfl)
      · exact wp_call 30 [.tmp 19] _ rfl SpdD.ent_clone [.string r.x15] (Draw.list1 ((at_dst 4 (by kernel_rfl)).trans (hdep 4 (by simp) (by kernel_rfl)))) (fun v w'' => v = .string r.x15 ∧ Below w'.heap.size w' w'') (((C4.out w')).mono fun e w'' ⟨h1, h2⟩ => ⟨_, h1, rfl, h2⟩) (fun v w'' ⟨h1, h2⟩ => hK _ _ h2 h1)
      · exact wp_field (.tmp 1) rfl _ _ (at_out _ (by kernel_rfl) rfl) (by kernel_rfl) (hK _ _ (Below.refl _ _) rfl)
      · exact st_same 9 (.tmp 21) (.tmp 17) rfl ⟨w.heap.size, 14, none⟩ ((at_dst 6 (by kernel_rfl)).trans (hdep 6 (by simp) (by kernel_rfl))) (.string r.x14) ((at_dst 2 (by kernel_rfl)).trans (hdep 2 (by simp) (by kernel_rfl))) (same_one (X2.out w' hgr) (by kernel_rfl) rfl rfl rfl) (hK _ _ (Below.refl _ _) trivial)
      · exact wp_field (.tmp 1) rfl _ _ (at_out _ (by kernel_rfl) rfl) (by kernel_rfl) (hK _ _ (Below.refl _ _) rfl)
    · intro vals w' hgr hG
      refine st_same 9 (.tmp 22) (.tmp 20) rfl ⟨w.heap.size, 15, none⟩ ((at_dst 8 (by kernel_rfl)).trans (hG 8 (by simp))) (.string r.x15) ((at_dst 5 (by kernel_rfl)).trans (hG 5 (by simp))) (same_one (X2.out w' hgr) (by kernel_rfl) rfl rfl rfl) (wpAnyH_done (by kernel_rfl) ?_ _)
      have hU := hgr
      have K2 := Lib.hid (X2.out _ hU)
      have J2 := Lib.hid (Blk.below (show Blk w2.drew (w.heap.size + 1) 35 #[.int .i64 0, .string ⟨#[]⟩, .string ⟨#[]⟩, .string ⟨#[]⟩, .string ⟨#[]⟩, .int .i64 0, .int .i64 0, .int .i64 0, .int .i64 0, .int .i64 0, .bool false, .bool false, .int .i64 0, .bool false, .string ⟨#[]⟩, .string ⟨#[]⟩] from J1.out) hU (Blk.lt J1.out))
      have B2 := Lib.hid (B1.out.trans ((Draw.below_1 hU).mono B1.out.size))
      clear hU hG hgr X2 K1 J1 B1
      simp only [fill, dstAt, List.getElem?_cons_zero, List.getElem?_cons_succ, Option.bind_some, Act.put, List.setIfInBounds_toArray, List.set_cons_zero, List.set_cons_succ]
      generalize vals 0 = z0, vals 1 = z1, vals 2 = z2, vals 3 = z3, vals 4 = z4, vals 5 = z5, vals 6 = z6, vals 7 = z7, vals 8 = z8 at *
      generalize w' = w3 at *
      go_wp2_with (first | (refine Loads.wpList_load_w rfl 35 (.tmp 1) rfl w.heap.size rfl 35 (RA r) (0, 0) _ (K2.out) Try.underlying35 rfl (by kernel_rfl) ?_) | (refine wpList_store_row rfl 35 (.tmp 2) (.tmp 23) rfl (w.heap.size + 1) (RA r) rfl rfl 35 _ J2.out (by kernel_rfl) rfl (all_ra r) ?_))
      exact bodyPost_ret (results_cell_row rfl _ _ (w.heap.size + 1) 35 (RA r) (0, 0) _ rfl (setRow_heap _ _ _ _ _ _ J2.out) Try.underlying35 rfl (by kernel_rfl)) rfl ⟨rfl, Com.setRow_bel B2.out (by omega) _⟩
end Go.Proofs.Ytmomkjgnopcobaa.Spd2
