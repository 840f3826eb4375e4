/- The code's own, masked, validVia, New. -/
import Derived.Test.YtnabjhdamofpgaaRtD
set_option linter.unusedVariables false
namespace Go.Proofs.Ytnabjhdamofpgaa.Rt1
open Go.RowKit Go.PlainAid Go.Proofs.Ytnabjhdamofpgaa.Sums Go.Proofs.Ytnabjhdamofpgaa.Mem Go.Proofs.Ytnabjhdamofpgaa.Blk Go.Proofs.Ytnabjhdamofpgaa.Grp Go.Proofs.Ytnabjhdamofpgaa.AdrD Go.Proofs.Ytnabjhdamofpgaa.AdrR Go.Proofs.Ytnabjhdamofpgaa.Steps Go.Proofs.Ytnabjhdamofpgaa.Com Go.Proofs.Ytnabjhdamofpgaa.RowN Go.Proofs.Ytnabjhdamofpgaa.RowA Go.Proofs.Ytnabjhdamofpgaa.ArgT Go.Proofs.Ytnabjhdamofpgaa.TabD Go.Proofs.Ytnabjhdamofpgaa.TabOps Go.Proofs.Ytnabjhdamofpgaa.TabM Go.Proofs.Ytnabjhdamofpgaa.Free Go.Proofs.Ytnabjhdamofpgaa.RtD Go.Proofs.Ytnabjhdamofpgaa.Mask

def maxT : Nat := 281474976710656
theorem clone_text (s : ByteArray) (w : World) (hs : s.size ≤ maxT) : Calls Try.prog 42 #[.string s] w fun e w' => e = .returned (.string s) ∧ Below w.heap.size w w' := by
  have C := Lib.hid (Try.stringslite_Clone s w hs)
  go_enter Try.func42, Try.ntmps42
  go_wp2_with fail
  refine C.out.mono ?_
  rintro e w' ⟨rfl, hb⟩
  go_wp2_with fail
  go_ret
  exact ⟨rfl, hb⟩
theorem ent_clone : Enters Try.prog 42 := enters_of Try.func42 (by kernel_rfl) rfl
set_option maxRecDepth 100000 in
set_option maxHeartbeats 1000000 in
theorem own_c (r : RouteR) (w : World) (ha : r.x0.size ≤ maxT) (hb : r.x2.size ≤ maxT) : Calls Try.prog 26 #[.agg (RA r)] w fun e w' => e = .returned (.agg (RA r)) ∧ Below w.heap.size w w' := by
  have K0 := Lib.hid (Blk.alloc (Blk.new w 33 (RA r)) (.cells #[.string ⟨#[]⟩, .int .i64 0, .string ⟨#[]⟩, .int .i64 0] 33))
  have J0 : Hid (Blk ((w.alloc (.cells (RA r) 33)).alloc (.cells #[.string ⟨#[]⟩, .int .i64 0, .string ⟨#[]⟩, .int .i64 0] 33)) (w.heap.size + 1) 33 #[.string ⟨#[]⟩, .int .i64 0, .string ⟨#[]⟩, .int .i64 0]) := Lib.hid (by
    have := Blk.new (w.alloc (.cells (RA r) 33)) 33 #[.string ⟨#[]⟩, .int .i64 0, .string ⟨#[]⟩, .int .i64 0]
    simpa using this)
  have B0 := Lib.hid (((Below.refl w.heap.size w).alloc (Nat.le_refl _) (.cells (RA r) 33)).alloc (by simp) (.cells #[.string ⟨#[]⟩, .int .i64 0, .string ⟨#[]⟩, .int .i64 0] 33))
  have CA := Lib.hid (fun W => clone_text r.x0 W ha)
  have CB := Lib.hid (fun W => clone_text r.x2 W hb)
  clear ha hb
  go_enter Try.func26, Try.ntmps26
  go_wp2_with fail
  generalize (w.alloc (.cells (RA r) 33)).alloc (.cells #[.string ⟨#[]⟩, .int .i64 0, .string ⟨#[]⟩, .int .i64 0] 33) = w1 at *
  have X : Hid (∀ V, Below w1.drew.heap.size w1.drew V → Blk V w.heap.size 33 (RA r)) := Lib.hid fun V hV => Blk.below (show Blk w1.drew w.heap.size 33 (RA r) from K0.out) hV (Blk.lt K0.out)
  refine wp_region_free [0, 1, 2, 3, 4, 5, 6, 7, 8, 9, 10] 11 [] (fun w1 w2 => Below w1.heap.size w1 w2) (fun k' w' v => match k' with
    | 0 => v = .pointer (some ⟨w.heap.size, 0, none⟩)
    | 1 => v = .pointer (some ⟨w.heap.size, 0, none⟩)
    | 2 => v = .string r.x0
    | 3 => v = .string r.x0
    | 4 => v = .pointer (some ⟨w.heap.size, 2, none⟩)
    | 5 => v = .string r.x2
    | 6 => v = .string r.x2
    | 7 => v = .pointer (some ⟨w.heap.size, 0, none⟩)
    | 8 => v = .pointer (some ⟨w.heap.size, 0, none⟩)
    | 9 => True
    | _ => v = .pointer (some ⟨w.heap.size, 2, none⟩)) (by kernel_rfl) (by kernel_rfl) (Below.refl _ _) (fun _ _ _ h k => h.trans (k.mono h.size)) (fun k' w1 w2 v h => match k' with
    | 0 => fun x => x
    | 1 => fun x => x
    | 2 => fun x => x
    | 3 => fun x => x
    | 4 => fun x => x
    | 5 => fun x => x
    | 6 => fun x => x
    | 7 => fun x => x
    | 8 => fun x => x
    | 9 => fun _ => trivial
    | _ + 10 => fun x => x) (fun _ _ _ _ _ h => h) ?_ _ (by rfl) ?_
  · refine obs_cons (by rfl) (fun vals w' hgr hdep K hK => ?_) (obs_cons (by rfl) (fun vals w' hgr hdep K hK => ?_) (obs_cons (by rfl) (fun vals w' hgr hdep K hK => ?_) (obs_cons (by rfl) (fun vals w' hgr hdep K hK => ?_) (obs_cons (by rfl) (fun vals w' hgr hdep K hK => ?_) (obs_cons (by rfl) (fun vals w' hgr hdep K hK => ?_) (obs_cons (by rfl) (fun vals w' hgr hdep K hK => ?_) (obs_cons (by rfl) (fun vals w' hgr hdep K hK => ?_) (obs_cons (by rfl) (fun vals w' hgr hdep K hK => ?_) (obs_cons (by rfl) (fun vals w' hgr hdep K hK => ?_) (obs_cons (by rfl) (fun vals w' hgr hdep K hK => ?_) (obs_nil)))))))))))
    · exact wp_field (.tmp 1) rfl _ _ (at_out _ (by kernel_rfl) rfl) (by kernel_rfl) (hK _ _ (Below.refl _ _) rfl)
    · exact wp_field (.tmp 3) rfl _ _ ((at_dst 0 (by kernel_rfl)).trans (hdep 0 (by simp) (by kernel_rfl))) (by kernel_rfl) (hK _ _ (Below.refl _ _) rfl)
    · exact wp_load1 (.tmp 4) rfl ⟨w.heap.size, 0, none⟩ ((at_dst 1 (by kernel_rfl)).trans (hdep 1 (by simp) (by kernel_rfl))) Try.underlying9 rfl _ ((X.out w' hgr).cell 0) (hK _ _ (Below.refl _ _) rfl)
    · exact wp_call 42 [.tmp 5] _ rfl ent_clone [.string r.x0] (Draw.list1 ((at_dst 2 (by kernel_rfl)).trans (hdep 2 (by simp) (by kernel_rfl)))) (fun v w'' => v = .string r.x0 ∧ Below w'.heap.size w' w'') (((CA.out w')).mono fun e w'' ⟨h1, h2⟩ => ⟨_, h1, rfl, h2⟩) (fun v w'' ⟨h1, h2⟩ => hK _ _ h2 h1)
    · exact wp_field (.tmp 1) rfl _ _ (at_out _ (by kernel_rfl) rfl) (by kernel_rfl) (hK _ _ (Below.refl _ _) rfl)
    · exact wp_load1 (.tmp 7) rfl ⟨w.heap.size, 2, none⟩ ((at_dst 4 (by kernel_rfl)).trans (hdep 4 (by simp) (by kernel_rfl))) Try.underlying9 rfl _ ((X.out w' hgr).cell 2) (hK _ _ (Below.refl _ _) rfl)
    · exact wp_call 42 [.tmp 8] _ rfl ent_clone [.string r.x2] (Draw.list1 ((at_dst 5 (by kernel_rfl)).trans (hdep 5 (by simp) (by kernel_rfl)))) (fun v w'' => v = .string r.x2 ∧ Below w'.heap.size w' w'') (((CB.out w')).mono fun e w'' ⟨h1, h2⟩ => ⟨_, h1, rfl, h2⟩) (fun v w'' ⟨h1, h2⟩ => hK _ _ h2 h1)
    · exact wp_field (.tmp 1) rfl _ _ (at_out _ (by kernel_rfl) rfl) (by kernel_rfl) (hK _ _ (Below.refl _ _) rfl)
    · exact wp_field (.tmp 10) rfl _ _ ((at_dst 7 (by kernel_rfl)).trans (hdep 7 (by simp) (by kernel_rfl))) (by kernel_rfl) (hK _ _ (Below.refl _ _) rfl)
    · exact st_same 9 (.tmp 11) (.tmp 6) rfl ⟨w.heap.size, 0, none⟩ ((at_dst 8 (by kernel_rfl)).trans (hdep 8 (by simp) (by kernel_rfl))) (.string r.x0) ((at_dst 3 (by kernel_rfl)).trans (hdep 3 (by simp) (by kernel_rfl))) (same_one (X.out w' hgr) (by kernel_rfl) rfl rfl rfl) (hK _ _ (Below.refl _ _) trivial)
    · exact wp_field (.tmp 1) rfl _ _ (at_out _ (by kernel_rfl) rfl) (by kernel_rfl) (hK _ _ (Below.refl _ _) rfl)
  · intro vals w' hgr hG
    refine st_same 9 (.tmp 12) (.tmp 9) rfl ⟨w.heap.size, 2, none⟩ ((at_dst 10 (by kernel_rfl)).trans (hG 10 (by simp))) (.string r.x2) ((at_dst 6 (by kernel_rfl)).trans (hG 6 (by simp))) (same_one (X.out w' hgr) (by kernel_rfl) rfl rfl rfl) (wpAnyH_done (by kernel_rfl) ?_ _)
    have hU := hgr
    have K1 := Lib.hid (X.out _ hU)
    have J1 := Lib.hid (Blk.below (show Blk w1.drew (w.heap.size + 1) 33 #[.string ⟨#[]⟩, .int .i64 0, .string ⟨#[]⟩, .int .i64 0] from J0.out) hU (Blk.lt J0.out))
    have B1 := Lib.hid (B0.out.trans ((Draw.below_1 hU).mono B0.out.size))
    clear hU hG hgr X K0 J0 B0
    simp only [fill, dstAt, List.getElem?_cons_zero, List.getElem?_cons_succ, Option.bind_some, Act.put, List.setIfInBounds_toArray, List.set_cons_zero, List.set_cons_succ]
    generalize vals 0 = z0, vals 1 = z1, vals 2 = z2, vals 3 = z3, vals 4 = z4, vals 5 = z5, vals 6 = z6, vals 7 = z7, vals 8 = z8, vals 9 = z9, vals 10 = z10 at *
    generalize w' = w2 at *
    go_wp2_with (first | (refine Store.at_load 33 (.tmp 1) ?_ ?_; exact rfl; refine Loads.wpList_load_w rfl 33 (.tmp 1) rfl w.heap.size rfl 33 (RA r) (0, 0) _ (K1.out) Try.underlying33 rfl (by kernel_rfl) ?_) | (refine Store.at_store 33 (.tmp 2) (.tmp 13) ?_ ?_; exact rfl; refine wpList_store_row rfl 33 (.tmp 2) (.tmp 13) rfl (w.heap.size + 1) (RA r) rfl rfl 33 _ J1.out (by kernel_rfl) rfl (all_ra r) ?_))
    exact bodyPost_ret (results_cell_row rfl _ _ (w.heap.size + 1) 33 (RA r) (0, 0) _ rfl (setRow_heap _ _ _ _ _ _ J1.out) Try.underlying33 rfl (by kernel_rfl)) rfl ⟨rfl, Com.setRow_bel B1.out (by omega) _⟩
set_option maxRecDepth 100000 in
set_option maxHeartbeats 1000000 in
theorem masked_no (a : ByteArray) (n : Int) (hs : a.size ≤ maxLen) (h : fitB a.size n = false) (w : World) : Calls Try.prog 23 #[.agg #[.string a, .int .i64 n]] w fun e w' => e = .returned (.tuple #[.agg #[.string ⟨#[]⟩, .int .i64 0], .int .i64 1]) ∧ Below w.heap.size w w' := by
  have MC := Lib.hid (fun W => mask_no a n hs h W)
  have K0 := Blk.alloc (Blk.new w 31 #[.string a, .int .i64 n]) (.cells #[.string ⟨#[]⟩, .int .i64 0] 31)
  have J0 : Hid (Blk ((w.alloc (.cells #[.string a, .int .i64 n] 31)).alloc (.cells #[.string ⟨#[]⟩, .int .i64 0] 31)) (w.heap.size + 1) 31 #[.string ⟨#[]⟩, .int .i64 0]) := Lib.hid (by
    have := Blk.new (w.alloc (.cells #[.string a, .int .i64 n] 31)) 31 #[.string ⟨#[]⟩, .int .i64 0]
    simpa using this)
  have B0 := Lib.hid (((Below.refl w.heap.size w).alloc (Nat.le_refl _) (.cells #[.string a, .int .i64 n] 31)).alloc (by simp) (.cells #[.string ⟨#[]⟩, .int .i64 0] 31))
  have k0 := K0.cell 0
  have k1 := K0.cell 1
  clear K0 h
  go_enter Try.func23, Try.ntmps23
  go_wp2_with fail
  refine (MC.out _).mono ?_
  rintro e w1 ⟨rfl, rfl⟩
  have J1 := J0
  have B1 := B0
  go_wp2_with (refine Store.at_store 31 (.tmp 2) (.tmp 16) ?_ ?_; exact rfl; refine wpList_store_row rfl 31 (.tmp 2) (.tmp 16) rfl (w.heap.size + 1) #[.string ⟨#[]⟩, .int .i64 0] rfl rfl 31 _ J1.out (by kernel_rfl) rfl (one_pf _ _) ?_)
  exact bodyPost_ret (results_pair rfl _ _ (w.heap.size + 1) 31 #[.string ⟨#[]⟩, .int .i64 0] (0, 0) _ _ rfl rfl (setRow_heap _ _ _ _ _ _ J1.out) Try.underlying31 rfl (by kernel_rfl)) rfl ⟨rfl, setRow_bel B1.out (by omega) _⟩
set_option maxRecDepth 100000 in
set_option maxHeartbeats 1000000 in
theorem masked_yes (a : ByteArray) (n : Int) (hs : a.size ≤ maxLen) (h : fitB a.size n = true) (w : World) : Calls Try.prog 23 #[.agg #[.string a, .int .i64 n]] w fun e w' => e = .returned (.tuple #[.agg #[.string (maskS a n.toNat), .int .i64 n], .int .i64 0]) ∧ Below w.heap.size w w' := by
  have MC := Lib.hid (fun W => mask_yes a n h W)
  have K0 := Blk.alloc (Blk.new w 31 #[.string a, .int .i64 n]) (.cells #[.string ⟨#[]⟩, .int .i64 0] 31)
  have J0 : Hid (Blk ((w.alloc (.cells #[.string a, .int .i64 n] 31)).alloc (.cells #[.string ⟨#[]⟩, .int .i64 0] 31)) (w.heap.size + 1) 31 #[.string ⟨#[]⟩, .int .i64 0]) := Lib.hid (by
    have := Blk.new (w.alloc (.cells #[.string a, .int .i64 n] 31)) 31 #[.string ⟨#[]⟩, .int .i64 0]
    simpa using this)
  have B0 := Lib.hid (((Below.refl w.heap.size w).alloc (Nat.le_refl _) (.cells #[.string a, .int .i64 n] 31)).alloc (by simp) (.cells #[.string ⟨#[]⟩, .int .i64 0] 31))
  have k0 := K0.cell 0
  have k1 := K0.cell 1
  clear K0 h
  obtain ⟨q, hq⟩ : ∃ q, maskS a n.toNat = q := ⟨_, rfl⟩
  rw [hq] at MC ⊢
  clear hq
  go_enter Try.func23, Try.ntmps23
  go_wp2_with fail
  refine (MC.out _).mono ?_
  rintro e w1 ⟨rfl, hb⟩
  have q1 := keep_cell k1 hb
  have J1 := Lib.hid (J0.out.below hb J0.out.lt)
  have B1 := Lib.hid (B0.out.trans (hb.mono B0.out.size))
  clear k0 k1 hb
  go_wp2_with (refine Store.at_store 31 (.tmp 2) (.tmp 21) ?_ ?_; exact rfl; refine wpList_store_row rfl 31 (.tmp 2) (.tmp 21) rfl (w.heap.size + 1) #[.string q, .int .i64 n] rfl rfl 31 _ J1.out (by kernel_rfl) rfl (one_pf _ _) ?_)
  exact bodyPost_ret (results_pair rfl _ _ (w.heap.size + 1) 31 #[.string q, .int .i64 n] (0, 0) _ _ rfl rfl (setRow_heap _ _ _ _ _ _ J1.out) Try.underlying31 rfl (by kernel_rfl)) rfl ⟨rfl, setRow_bel B1.out (by omega) _⟩
/-- What masked says. -/
theorem masked_any (a : ByteArray) (n : Int) (hs : a.size ≤ maxLen) (w : World) : Calls Try.prog 23 #[.agg #[.string a, .int .i64 n]] w fun e w' => e = .returned (.tuple #[.agg #[.string (pfx a n), .int .i64 (if fitB a.size n then n else 0)], .int .i64 (if fitB a.size n then 0 else 1)]) ∧ Below w.heap.size w w' := by
  cases h : fitB a.size n with
  | false =>
    have e : pfx a n = ⟨#[]⟩ := by unfold pfx; rw [h]; rfl
    rw [e]
    exact masked_no a n hs h w
  | true =>
    have e : pfx a n = maskS a n.toNat := by unfold pfx; rw [h]; rfl
    rw [e]
    exact masked_yes a n hs h w
def viaB (v a : ByteArray) : Bool := v.toList.isEmpty || ((v.size : Int) == (a.size : Int))
set_option maxRecDepth 100000 in
theorem via_c (r : RouteR) (ha : r.x0.size ≤ maxLen) (hv : r.x2.size ≤ maxLen) (w : World) : Calls Try.prog 24 #[.agg (RA r)] w fun e w' => e = .returned (.bool (viaB r.x2 r.x0)) ∧ Below w.heap.size w w' := by
  obtain ⟨a, m, v, p⟩ := r
  simp only at ha hv ⊢
  have K0 := Blk.new w 33 #[.string a, .int .i64 m, .string v, .int .i64 p]
  have B0 := Lib.hid ((Below.refl w.heap.size w).alloc (Nat.le_refl _) (.cells #[.string a, .int .i64 m, .string v, .int .i64 p] 33))
  have k0 := K0.cell 0
  have k2 := K0.cell 2
  clear K0
  obtain ⟨b, hb⟩ : ∃ b, viaB v a = b := ⟨_, rfl⟩
  rw [hb]
  have HB := Lib.hid hb
  obtain ⟨q, hq⟩ : ∃ q, v.toList.isEmpty = q := ⟨_, rfl⟩
  obtain ⟨z, hz⟩ : ∃ z, ((v.size : Int) == (a.size : Int)) = z := ⟨_, rfl⟩
  have HZ : Hid (b = (q || z)) := Lib.hid (by rw [← hb, ← hq, ← hz]; rfl)
  unfold maxLen at ha hv
  clear hb
  cases q
  all_goals
    go_enter Try.func24, Try.ntmps24
    go_wp2_with fail
    go_ret
    exact ⟨by rw [HZ.out]; rfl, B0.out⟩
theorem via_add (a : ByteArray) (m : Int) (v : ByteArray) (p : Int) : addB a m v p = (fitB a.size m && (viaB v a && !decide (p < 0))) := by
  unfold addB viaB
  cases h : fitB a.size m with
  | false => rfl
  | true =>
    rw [pfx_fit h]
    have e : (!((v.size : Int) != (a.size : Int))) = ((v.size : Int) == (a.size : Int)) := by
      cases h2 : ((v.size : Int) == (a.size : Int)) <;> simp [bne, h2]
    rw [e]
set_option maxRecDepth 100000 in
theorem new_c (w : World) : Calls Try.prog 9 #[] w fun e w' => e = .returned (.pointer (some ⟨w.heap.size, 0, none⟩)) ∧ Below w.heap.size w w' ∧ w.heap.size < w'.heap.size ∧ RtAt (fun k => k < w.heap.size) w' w.heap.size [] := by
  go_enter Try.func9, Try.ntmps9
  go_wp2_with fail
  go_ret
  refine ⟨rfl, (Below.refl _ _).alloc (Nat.le_refl _) _, by simp, ⟨⟨none, 0, Blk.new _ _ _, RowAt.nil _ _ _, by simp, fun k hk => ?_, fun hk => ?_⟩, Tab.nil, by simp⟩⟩
  · obtain ⟨x, hx, _⟩ := hk
    cases hx
  · obtain ⟨x, hx, _⟩ := hk
    cases hx
end Go.Proofs.Ytnabjhdamofpgaa.Rt1
