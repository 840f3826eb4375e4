/- The code's window: the contract of Accept. -/
import Derived.Test.YtppnkkpjfjhfkaaDoorM24
set_option linter.unusedVariables false
namespace Go.Proofs.YtppnkkpjfjhfkaaDoor.Rng4
open Go.RowKit Go.Proofs.YtppnkkpjfjhfkaaDoor.Sums Go.Proofs.YtppnkkpjfjhfkaaDoor.Mem Go.Proofs.YtppnkkpjfjhfkaaDoor.Blk Go.Proofs.YtppnkkpjfjhfkaaDoor.Steps Go.Proofs.YtppnkkpjfjhfkaaDoor.Free Go.Proofs.YtppnkkpjfjhfkaaDoor.OpsQ Go.Proofs.YtppnkkpjfjhfkaaDoor.Longs Go.Proofs.YtppnkkpjfjhfkaaDoor.WinD Go.Proofs.YtppnkkpjfjhfkaaDoor.WinA Go.Proofs.YtppnkkpjfjhfkaaDoor.RngD Go.Proofs.YtppnkkpjfjhfkaaDoor.Rng1 Go.Proofs.YtppnkkpjfjhfkaaDoor.Rng2 Go.Proofs.YtppnkkpjfjhfkaaDoor.Rng3

theorem ent_place : Enters Tryd.prog 56 := enters_of Tryd.func56 (by kernel_rfl) rfl
theorem congrArg2 {A B C : Type} (f : A → B → C) {a a' : A} {b b' : B} (h : a = a') (k : b = b') : f a b = f a' b' := by rw [h, k]
theorem _root_.Go.Proofs.YtppnkkpjfjhfkaaDoor.Rng1.Cw.drew {w : World} {g gr S T : Nat} {wd : Bool} {r : List Bool} (h : Cw w g gr S wd T r) : Cw w.drew g gr S wd T r := ⟨h.blk, h.ring, h.ne, h.tq, h.len, h.lo, h.hi⟩
theorem cw_mark {w : World} {g gr S T : Nat} {wd : Bool} {r : List Bool} (h : Cw w g gr S wd T r) (i : Nat) : Cw (w.setCell ⟨gr, i, none⟩ (.bool true)) g gr S wd T (r.set i true) :=
  ⟨Blk.far h.blk (p := ⟨gr, i, none⟩) (fun e => h.ne e.symm) _, by rw [← bools_set]; exact Blk.put h.ring i _, h.ne, h.tq, by rw [List.length_set]; exact h.len, h.lo, h.hi⟩

theorem accept_nil (n : Nat) (w : World) : Calls Tryd.prog 41 #[.pointer none, .int .u64 (n : Int)] w fun e w' => e = .returned (.int .i64 3) ∧ w = w' := by
  have C := Lib.hid (check_nil n w)
  go_enter Tryd.func41, Tryd.ntmps41
  go_wp2_with fail
  refine C.out.mono ?_
  rintro e w' ⟨rfl, rfl⟩
  go_wp2_with fail
  go_ret
  exact ⟨rfl, rfl⟩

set_option maxHeartbeats 1000000 in
theorem accept_c (g gr S : Nat) (wd : Bool) (T : Nat) (r : List Bool) (n : Nat) (w : World) (h : Cw w g gr S wd T r) (hn : n < Q64) : Calls Tryd.prog 41 #[.pointer (some ⟨g, 0, none⟩), .int .u64 (n : Int)] w fun e w' => e = .returned (.int .i64 ((chkT wd n (oldc S T r n) : Nat) : Int)) ∧ But g (some gr) w w' ∧
    ((chkT wd n (oldc S T r n) = 0 ∧ Cw w' g gr S wd (max T n) (put S T n r)) ∨ (chkT wd n (oldc S T r n) ≠ 0 ∧ Cw w' g gr S wd T r)) := by
  have C := Lib.hid (check_c g gr S wd T r n w h hn)
  have H := Lib.hid h
  have HN := Lib.hid hn
  have IL : Hid (n % S < S) := Lib.hid (Nat.mod_lt n (by have := h.lo; omega))
  have PE : Hid (put S T n r = (if T < n then moved S T n r else r).set (n % S) true) := Lib.hid rfl
  generalize chkT wd n (oldc S T r n) = a at *
  clear h hn
  go_enter Tryd.func41, Tryd.ntmps41
  go_wp2_with fail
  refine C.out.mono ?_
  rintro e w1 ⟨rfl, hb⟩
  have HB := Lib.hid hb
  have H1 := Lib.hid (H.out.up hb)
  clear C hb H
  by_cases ha : a = 0
  · subst ha
    have c1 := H1.out.c1
    by_cases k : T < n
    · have g1 : decide (T < n) = true := decide_eq_true k
      have PP : Hid (put S T n r = (moved S T n r).set (n % S) true) := Lib.hid (by rw [PE.out, if_pos k])
      have MX : Hid (max T n = n) := Lib.hid (Nat.max_eq_right (by omega))
      have RC := Lib.hid (raise_c g gr S wd T r n w1 H1.out HN.out k)
      clear PE
      go_wp2_with fail
      refine RC.out.mono ?_
      rintro e w2 ⟨rfl, h2, b2⟩
      have H2 := Lib.hid h2
      have HB2 := Lib.hid b2
      clear RC h2 b2 c1
      go_wp2_with fail
      -- REGION 6
      refine wp_region_free [0, 1, 2, 3, 4, 5, 6] 7 [8] (fun w1 w2 => Below w1.heap.size w1 w2) (fun k' w' v => match k' with
        | 0 => v = .pointer (some ⟨g, 0, none⟩)
        | 1 => v = .pointer (some ⟨g, 0, none⟩)
        | 2 => v = .pointer (some ⟨g, 2, none⟩)
        | 3 => v = .slice (some ⟨gr, 0, none⟩) S S
        | 4 => v = .pointer (some ⟨g, 0, none⟩)
        | 5 => v = .int .u64 (n : Int)
        | _ => v = .int .i64 ((n % S : Nat) : Int)) (by kernel_rfl) (by kernel_rfl) (Below.refl _ _) (fun _ _ _ h k => h.trans (k.mono h.size)) (fun k' w1 w2 v h => match k' with
        | 0 => fun x => x
        | 1 => fun x => x
        | 2 => fun x => x
        | 3 => fun x => x
        | 4 => fun x => x
        | 5 => fun x => x
        | _ + 6 => fun x => x) (fun _ _ _ _ _ h => h) ?_ _ (by rfl) ?_
      · refine obs_cons (by rfl) (fun vals w' hgr hdep K hK => ?_) (obs_cons (by rfl) (fun vals w' hgr hdep K hK => ?_) (obs_cons (by rfl) (fun vals w' hgr hdep K hK => ?_) (obs_cons (by rfl) (fun vals w' hgr hdep K hK => ?_) (obs_cons (by rfl) (fun vals w' hgr hdep K hK => ?_) (obs_cons (by rfl) (fun vals w' hgr hdep K hK => ?_) (obs_cons (by rfl) (fun vals w' hgr hdep K hK => ?_) (obs_nil)))))))
        · exact wp_move (.tmp 0) rfl _ (at_out _ (by kernel_rfl) rfl) (hK _ _ (Below.refl _ _) rfl)
        · exact st_nil (.tmp 21) rfl _ ((at_dst 0 (by kernel_rfl)).trans (hdep 0 (by simp) (by kernel_rfl))) (hK _ _ (Below.refl _ _) rfl)
        · exact wp_field (.tmp 22) rfl _ _ ((at_dst 1 (by kernel_rfl)).trans (hdep 1 (by simp) (by kernel_rfl))) (by kernel_rfl) (hK _ _ (Below.refl _ _) rfl)
        · exact wp_load1 (.tmp 23) rfl ⟨g, 2, none⟩ ((at_dst 2 (by kernel_rfl)).trans (hdep 2 (by simp) (by kernel_rfl))) Tryd.underlying98 rfl _ ((Cw.up H2.out.drew hgr).c2) (hK _ _ (Below.refl _ _) rfl)
        · exact wp_move (.tmp 0) rfl _ (at_out _ (by kernel_rfl) rfl) (hK _ _ (Below.refl _ _) rfl)
        · exact wp_move (.tmp 1) rfl _ (at_out _ (by kernel_rfl) rfl) (hK _ _ (Below.refl _ _) rfl)
        · exact wp_call 56 [.tmp 25, .tmp 26] _ rfl ent_place [.pointer (some ⟨g, 0, none⟩), .int .u64 (n : Int)] (congrArg2 (fun z y => [z, y]) ((at_dst 4 (by kernel_rfl)).trans (hdep 4 (by simp) (by kernel_rfl))) ((at_dst 5 (by kernel_rfl)).trans (hdep 5 (by simp) (by kernel_rfl)))) (fun v w'' => v = .int .i64 ((n % S : Nat) : Int) ∧ w' = w'') ((place_c g gr S wd _ _ n w' (Cw.up H2.out.drew hgr) HN.out).mono fun e w'' ⟨h1, h2⟩ => ⟨_, h1, rfl, h2⟩) (fun v w'' ⟨h1, h2⟩ => by subst h2; exact hK _ _ (Below.refl _ _) h1)
      · intro vals w' hgr hG
        have W8 := Lib.hid (Cw.up H2.out.drew hgr)
        refine st_bool_at (.tmp 24) (.tmp 27) rfl gr S S (n % S) ((at_dst 3 (by kernel_rfl)).trans (hG 3 (by simp))) ((at_dst 6 (by kernel_rfl)).trans (hG 6 (by simp))) IL.out ?_
        refine wpAnyH_next 8 _ rfl rfl (by kernel_rfl) (st_store_q (.tmp 28) (.const (.bool true)) rfl ⟨gr, n % S, none⟩ (put_tmps_eq (fill_size _ _ _) (by kernel_rfl)) true rfl _ (W8.out.at_ IL.out) (Blk.frozen W8.out.ring _) ⟨trivial, wpAnyH_done (by kernel_rfl) ?_ _⟩)
        have R2 := Lib.hid (cw_mark W8.out (n % S))
        have B2 := Lib.hid (but_trans (But.of_below (g := g) (r := some gr) (below_drewN (Below.refl w2.heap.size w2) 1)) (but_trans (But.of_below (g := g) (r := some gr) hgr) (but_cell g (n % S) gr w' (.bool true))))
        clear hG hgr W8
        simp only [fill, dstAt, List.getElem?_cons_zero, List.getElem?_cons_succ, Option.bind_some, Act.put, List.setIfInBounds_toArray, List.set_cons_zero, List.set_cons_succ]
        generalize w'.setCell ⟨gr, n % S, none⟩ (.bool true) = w9 at *
        generalize vals 0 = z0, vals 1 = z1, vals 2 = z2, vals 3 = z3, vals 4 = z4, vals 5 = z5, vals 6 = z6 at *
        go_wp2_with fail
        go_ret
        exact ⟨rfl, but_trans (But.of_below HB.out) (but_trans HB2.out B2.out), by rw [MX.out, PP.out]; exact R2.out⟩
    · have g1 : decide (T < n) = false := decide_eq_false k
      have PP : Hid (put S T n r = r.set (n % S) true) := Lib.hid (by rw [PE.out, if_neg k])
      have MX : Hid (max T n = T) := Lib.hid (Nat.max_eq_left (by omega))
      clear PE
      go_wp2_with fail
      -- REGION 6
      refine wp_region_free [0, 1, 2, 3, 4, 5, 6] 7 [8] (fun w1 w2 => Below w1.heap.size w1 w2) (fun k' w' v => match k' with
        | 0 => v = .pointer (some ⟨g, 0, none⟩)
        | 1 => v = .pointer (some ⟨g, 0, none⟩)
        | 2 => v = .pointer (some ⟨g, 2, none⟩)
        | 3 => v = .slice (some ⟨gr, 0, none⟩) S S
        | 4 => v = .pointer (some ⟨g, 0, none⟩)
        | 5 => v = .int .u64 (n : Int)
        | _ => v = .int .i64 ((n % S : Nat) : Int)) (by kernel_rfl) (by kernel_rfl) (Below.refl _ _) (fun _ _ _ h k => h.trans (k.mono h.size)) (fun k' w1 w2 v h => match k' with
        | 0 => fun x => x
        | 1 => fun x => x
        | 2 => fun x => x
        | 3 => fun x => x
        | 4 => fun x => x
        | 5 => fun x => x
        | _ + 6 => fun x => x) (fun _ _ _ _ _ h => h) ?_ _ (by rfl) ?_
      · refine obs_cons (by rfl) (fun vals w' hgr hdep K hK => ?_) (obs_cons (by rfl) (fun vals w' hgr hdep K hK => ?_) (obs_cons (by rfl) (fun vals w' hgr hdep K hK => ?_) (obs_cons (by rfl) (fun vals w' hgr hdep K hK => ?_) (obs_cons (by rfl) (fun vals w' hgr hdep K hK => ?_) (obs_cons (by rfl) (fun vals w' hgr hdep K hK => ?_) (obs_cons (by rfl) (fun vals w' hgr hdep K hK => ?_) (obs_nil)))))))
        · exact wp_move (.tmp 0) rfl _ (at_out _ (by kernel_rfl) rfl) (hK _ _ (Below.refl _ _) rfl)
        · exact st_nil (.tmp 21) rfl _ ((at_dst 0 (by kernel_rfl)).trans (hdep 0 (by simp) (by kernel_rfl))) (hK _ _ (Below.refl _ _) rfl)
        · exact wp_field (.tmp 22) rfl _ _ ((at_dst 1 (by kernel_rfl)).trans (hdep 1 (by simp) (by kernel_rfl))) (by kernel_rfl) (hK _ _ (Below.refl _ _) rfl)
        · exact wp_load1 (.tmp 23) rfl ⟨g, 2, none⟩ ((at_dst 2 (by kernel_rfl)).trans (hdep 2 (by simp) (by kernel_rfl))) Tryd.underlying98 rfl _ ((Cw.up H1.out.drew hgr).c2) (hK _ _ (Below.refl _ _) rfl)
        · exact wp_move (.tmp 0) rfl _ (at_out _ (by kernel_rfl) rfl) (hK _ _ (Below.refl _ _) rfl)
        · exact wp_move (.tmp 1) rfl _ (at_out _ (by kernel_rfl) rfl) (hK _ _ (Below.refl _ _) rfl)
        · exact wp_call 56 [.tmp 25, .tmp 26] _ rfl ent_place [.pointer (some ⟨g, 0, none⟩), .int .u64 (n : Int)] (congrArg2 (fun z y => [z, y]) ((at_dst 4 (by kernel_rfl)).trans (hdep 4 (by simp) (by kernel_rfl))) ((at_dst 5 (by kernel_rfl)).trans (hdep 5 (by simp) (by kernel_rfl)))) (fun v w'' => v = .int .i64 ((n % S : Nat) : Int) ∧ w' = w'') ((place_c g gr S wd _ _ n w' (Cw.up H1.out.drew hgr) HN.out).mono fun e w'' ⟨h1, h2⟩ => ⟨_, h1, rfl, h2⟩) (fun v w'' ⟨h1, h2⟩ => by subst h2; exact hK _ _ (Below.refl _ _) h1)
      · intro vals w' hgr hG
        have W8 := Lib.hid (Cw.up H1.out.drew hgr)
        refine st_bool_at (.tmp 24) (.tmp 27) rfl gr S S (n % S) ((at_dst 3 (by kernel_rfl)).trans (hG 3 (by simp))) ((at_dst 6 (by kernel_rfl)).trans (hG 6 (by simp))) IL.out ?_
        refine wpAnyH_next 8 _ rfl rfl (by kernel_rfl) (st_store_q (.tmp 28) (.const (.bool true)) rfl ⟨gr, n % S, none⟩ (put_tmps_eq (fill_size _ _ _) (by kernel_rfl)) true rfl _ (W8.out.at_ IL.out) (Blk.frozen W8.out.ring _) ⟨trivial, wpAnyH_done (by kernel_rfl) ?_ _⟩)
        have R2 := Lib.hid (cw_mark W8.out (n % S))
        have B2 := Lib.hid (but_trans (But.of_below (g := g) (r := some gr) (below_drewN (Below.refl w1.heap.size w1) 1)) (but_trans (But.of_below (g := g) (r := some gr) hgr) (but_cell g (n % S) gr w' (.bool true))))
        clear hG hgr W8
        simp only [fill, dstAt, List.getElem?_cons_zero, List.getElem?_cons_succ, Option.bind_some, Act.put, List.setIfInBounds_toArray, List.set_cons_zero, List.set_cons_succ]
        generalize w'.setCell ⟨gr, n % S, none⟩ (.bool true) = w9 at *
        generalize vals 0 = z0, vals 1 = z1, vals 2 = z2, vals 3 = z3, vals 4 = z4, vals 5 = z5, vals 6 = z6 at *
        go_wp2_with fail
        go_ret
        exact ⟨rfl, but_trans (But.of_below HB.out) B2.out, by rw [MX.out, PP.out]; exact R2.out⟩
  · have g1 : ((a : Int) == 0) = false := by rw [beq_eq_false_iff_ne]; omega
    have g2 : ((a : Int) != 0) = true := by rw [bne, g1]; rfl
    go_wp2_with fail
    go_ret
    exact ⟨rfl, But.of_below HB.out, .inr ⟨ha, H1.out⟩⟩

/-- The window and the numbers that it has taken. -/
structure Has (w : World) (g gr S : Nat) (wd : Bool) (L : List Nat) : Prop where
  cw : ∃ r, Cw w g gr S wd (top L) r ∧ Inv S L r
theorem Has.up {w w' : World} {g gr S : Nat} {wd : Bool} {L : List Nat} (h : Has w g gr S wd L) (hb : Below w.heap.size w w') : Has w' g gr S wd L := by
  obtain ⟨r, h1, h2⟩ := h.cw
  exact ⟨r, h1.up hb, h2⟩
theorem Has.but {w w' : World} {g gr S : Nat} {wd : Bool} {L : List Nat} {k : Nat} {q : Option Nat} (h : Has w g gr S wd L) (hb : But k q w w') (h1 : g ≠ k) (h2 : gr ≠ k) (h3 : some g ≠ q) (h4 : some gr ≠ q) : Has w' g gr S wd L := by
  obtain ⟨r, k1, k2⟩ := h.cw
  exact ⟨r, k1.but hb h1 h2 h3 h4, k2⟩
theorem has_lt {w : World} {g gr S : Nat} {wd : Bool} {L : List Nat} (h : Has w g gr S wd L) : g < w.heap.size ∧ gr < w.heap.size := by
  obtain ⟨r, k1, k2⟩ := h.cw
  exact ⟨Blk.lt k1.blk, Blk.lt k1.ring⟩
theorem new_has (S : Nat) (wd : Bool) (w : World) (h1 : 64 ≤ S) (h2 : S ≤ 1024) : Calls Tryd.prog 52 #[.int .i64 (S : Int), .bool wd] w fun e w' => e = .returned (.tuple #[.pointer (some ⟨w.heap.size + 1, 0, none⟩), .int .i64 0]) ∧ Has w' (w.heap.size + 1) w.heap.size S wd [] ∧ Below w.heap.size w w' :=
  (new_c S wd w h1 h2).mono fun e w' ⟨a, b, c⟩ => ⟨a, ⟨_, b, inv_new (by omega)⟩, c⟩
theorem infer_has {g gr S : Nat} {wd : Bool} {L : List Nat} {w : World} (h : Has w g gr S wd L) (low : Int) : Calls Tryd.prog 43 #[.pointer (some ⟨g, 0, none⟩), .int .i64 low] w fun e w' => e = .returned (.tuple #[.int .u64 (((inf S wd L low).1 : Nat) : Int), .int .i64 (((inf S wd L low).2 : Nat) : Int)]) ∧ Below w.heap.size w w' := by
  obtain ⟨r, k1, k2⟩ := h.cw
  rw [inf_eq]
  exact infer_c g gr S wd _ r low w k1
theorem check_has {g gr S : Nat} {wd : Bool} {L : List Nat} {w : World} (h : Has w g gr S wd L) (n : Nat) (hn : n < Q64) : Calls Tryd.prog 44 #[.pointer (some ⟨g, 0, none⟩), .int .u64 (n : Int)] w fun e w' => e = .returned (.int .i64 ((chk S wd L n : Nat) : Int)) ∧ Below w.heap.size w w' := by
  obtain ⟨r, k1, k2⟩ := h.cw
  rw [chk_eq, ← old_eq k2]
  exact check_c g gr S wd _ r n w k1 hn
theorem chk_old {S : Nat} {wd : Bool} {L : List Nat} {n : Nat} (h : chk S wd L n = 0) : old S L n = false := by
  rw [chk_eq] at h
  unfold chkT at h
  split at h
  · cases h
  · split at h
    · cases h
    · rename_i h2
      cases q : old S L n
      · rfl
      · exact absurd (.inr q) h2
theorem accept_has {g gr S : Nat} {wd : Bool} {L : List Nat} {w : World} (h : Has w g gr S wd L) (n : Nat) (hn : n < Q64) : Calls Tryd.prog 41 #[.pointer (some ⟨g, 0, none⟩), .int .u64 (n : Int)] w fun e w' => e = .returned (.int .i64 ((chk S wd L n : Nat) : Int)) ∧ But g (some gr) w w' ∧ Has w' g gr S wd (acc S wd L n) := by
  obtain ⟨r, k1, k2⟩ := h.cw
  have C := accept_c g gr S wd _ r n w k1 hn
  rw [old_eq k2, ← chk_eq] at C
  refine C.mono fun e w' ⟨a, b, c⟩ => ⟨a, b, ?_⟩
  rcases c with ⟨c0, c⟩ | ⟨c0, c⟩
  · unfold acc
    rw [if_pos c0]
    exact ⟨_, by rw [top_snoc]; exact c, inv_put k2 (chk_old c0)⟩
  · unfold acc
    rw [if_neg c0]
    exact ⟨r, c, k2⟩
end Go.Proofs.YtppnkkpjfjhfkaaDoor.Rng4

/- The window as the laws use it: made within the call; rows of u64 and of bools that were passed in. -/
set_option linter.unusedVariables false
namespace Go.Proofs.YtppnkkpjfjhfkaaDoor.RngU
open Go.RowKit Go.Proofs.YtppnkkpjfjhfkaaDoor.Sums Go.Proofs.YtppnkkpjfjhfkaaDoor.Mem Go.Proofs.YtppnkkpjfjhfkaaDoor.Blk Go.Proofs.YtppnkkpjfjhfkaaDoor.Longs Go.Proofs.YtppnkkpjfjhfkaaDoor.WinD Go.Proofs.YtppnkkpjfjhfkaaDoor.WinA Go.Proofs.YtppnkkpjfjhfkaaDoor.RngD Go.Proofs.YtppnkkpjfjhfkaaDoor.Rng1 Go.Proofs.YtppnkkpjfjhfkaaDoor.Rng2 Go.Proofs.YtppnkkpjfjhfkaaDoor.Rng3 Go.Proofs.YtppnkkpjfjhfkaaDoor.Rng4

theorem but_below {g gr B : Nat} {w0 w w' : World} (h : Below B w0 w) (hb : But g (some gr) w w') (h1 : B ≤ g) (h2 : B ≤ gr) (hB : B ≤ w.heap.size) : Below B w0 w' :=
  ⟨hb.os.trans h.os, hb.tape.trans h.tape, hb.output.trans h.output, Nat.le_trans h.size hb.size, fun k hk => (hb.block k (by omega) (by omega) (fun e => by injection e; omega)).trans (h.block k hk)⟩
/-- A window that the call made: it has taken L; nothing below was turned. -/
structure Run (B : Nat) (w0 w : World) (g gr S : Nat) (wd : Bool) (L : List Nat) : Prop where
  has : Has w g gr S wd L
  bel : Below B w0 w
  g0 : B ≤ g
  gr0 : B ≤ gr
  b0 : B ≤ w0.heap.size
section
variable {B : Nat} {w0 w w' : World} {g gr S : Nat} {wd : Bool} {L : List Nat}
theorem Run.size (h : Run B w0 w g gr S wd L) : B ≤ w.heap.size := Nat.le_trans h.b0 h.bel.size
theorem Run.up (h : Run B w0 w g gr S wd L) (hb : Below w.heap.size w w') : Run B w0 w' g gr S wd L := ⟨h.has.up hb, h.bel.trans (hb.mono h.size), h.g0, h.gr0, h.b0⟩
theorem Run.but {k q : Nat} (h : Run B w0 w g gr S wd L) (hb : But k (some q) w w') (hk : B ≤ k) (hq : B ≤ q) (h1 : g ≠ k) (h2 : gr ≠ k) (h3 : g ≠ q) (h4 : gr ≠ q) : Run B w0 w' g gr S wd L :=
  ⟨h.has.but hb h1 h2 (fun e => h3 (by injection e)) (fun e => h4 (by injection e)), but_below h.bel hb hk hq h.size, h.g0, h.gr0, h.b0⟩
theorem new_run (S : Nat) (wd : Bool) (hB : B ≤ w0.heap.size) (hb : Below B w0 w) (h1 : 64 ≤ S) (h2 : S ≤ 1024) : Calls Tryd.prog 52 #[.int .i64 (S : Int), .bool wd] w fun e w' => ∃ g gr, e = .returned (.tuple #[.pointer (some ⟨g, 0, none⟩), .int .i64 0]) ∧ Run B w0 w' g gr S wd [] ∧ w.heap.size ≤ g ∧ w.heap.size ≤ gr :=
  (new_has S wd w h1 h2).mono fun e w' ⟨a, b, c⟩ => ⟨_, _, a, ⟨b, hb.trans (c.mono (Nat.le_trans hB hb.size)), by have := hb.size; omega, by have := hb.size; omega, hB⟩, Nat.le_succ _, Nat.le_refl _⟩
theorem infer_run (h : Run B w0 w g gr S wd L) (low : Int) : Calls Tryd.prog 43 #[.pointer (some ⟨g, 0, none⟩), .int .i64 low] w fun e w' => e = .returned (.tuple #[.int .u64 (((inf S wd L low).1 : Nat) : Int), .int .i64 (((inf S wd L low).2 : Nat) : Int)]) ∧ Run B w0 w' g gr S wd L ∧ Below w.heap.size w w' :=
  (infer_has h.has low).mono fun e w' ⟨a, b⟩ => ⟨a, h.up b, b⟩
theorem check_run (h : Run B w0 w g gr S wd L) (n : Nat) (hn : n < Q64) : Calls Tryd.prog 44 #[.pointer (some ⟨g, 0, none⟩), .int .u64 (n : Int)] w fun e w' => e = .returned (.int .i64 ((chk S wd L n : Nat) : Int)) ∧ Run B w0 w' g gr S wd L ∧ Below w.heap.size w w' :=
  (check_has h.has n hn).mono fun e w' ⟨a, b⟩ => ⟨a, h.up b, b⟩
theorem accept_run (h : Run B w0 w g gr S wd L) (n : Nat) (hn : n < Q64) : Calls Tryd.prog 41 #[.pointer (some ⟨g, 0, none⟩), .int .u64 (n : Int)] w fun e w' => e = .returned (.int .i64 ((chk S wd L n : Nat) : Int)) ∧ Run B w0 w' g gr S wd (acc S wd L n) ∧ But g (some gr) w w' :=
  (accept_has h.has n hn).mono fun e w' ⟨a, b, c⟩ => ⟨a, ⟨c, but_below h.bel b h.g0 h.gr0 h.size, h.g0, h.gr0, h.b0⟩, b⟩
end

/-- A row of u64 that was passed in. -/
def QRow (w : World) (B : Nat) (A : Option Addr) (n c : Nat) (l : List Nat) : Prop :=
  l.length = n ∧ (∀ x ∈ l, x < Q64) ∧ (0 < n → ∃ b o, A = some ⟨b, o, none⟩ ∧ b < B ∧ ∀ j, j < n → w.cell? ⟨b, o + j, none⟩ = some (.int .u64 ((l.getD j 0 : Nat) : Int)))
theorem QRow.below {w w' : World} {B n c : Nat} {A : Option Addr} {l : List Nat} (h : QRow w B A n c l) (k : Below B w w') : QRow w' B A n c l :=
  ⟨h.1, h.2.1, fun hn => by
    obtain ⟨b, o, e, hb, hc⟩ := h.2.2 hn
    exact ⟨b, o, e, hb, fun j hj => (k.cell (p := ⟨b, o + j, none⟩) hb).trans (hc j hj)⟩⟩
theorem QRow.lt {w : World} {B n c : Nat} {A : Option Addr} {l : List Nat} (h : QRow w B A n c l) {j : Nat} (hj : j < n) : l.getD j 0 < Q64 := by
  rw [List.getD_eq_getElem?_getD, List.getElem?_eq_getElem (by rw [h.1]; exact hj)]
  exact h.2.1 _ (List.getElem_mem _)
/-- A row of bools that was passed in. -/
def TRow (w : World) (B : Nat) (A : Option Addr) (n c : Nat) (l : List Bool) : Prop :=
  l.length = n ∧ (0 < n → ∃ b o, A = some ⟨b, o, none⟩ ∧ b < B ∧ ∀ j, j < n → w.cell? ⟨b, o + j, none⟩ = some (.bool (l.getD j false)))
theorem TRow.below {w w' : World} {B n c : Nat} {A : Option Addr} {l : List Bool} (h : TRow w B A n c l) (k : Below B w w') : TRow w' B A n c l :=
  ⟨h.1, fun hn => by
    obtain ⟨b, o, e, hb, hc⟩ := h.2 hn
    exact ⟨b, o, e, hb, fun j hj => (k.cell (p := ⟨b, o + j, none⟩) hb).trans (hc j hj)⟩⟩
end Go.Proofs.YtppnkkpjfjhfkaaDoor.RngU

