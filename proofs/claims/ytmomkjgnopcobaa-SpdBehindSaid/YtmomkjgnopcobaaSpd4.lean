/- The code's keep. -/
import Derived.Test.YtmomkjgnopcobaaSpd3
set_option linter.unusedVariables false
namespace Go.Proofs.Ytmomkjgnopcobaa.Spd4
open Go.RowKit Go.Proofs.Ytmomkjgnopcobaa.Mem Go.Proofs.Ytmomkjgnopcobaa.Blk Go.Proofs.Ytmomkjgnopcobaa.Ahead Go.Proofs.Ytmomkjgnopcobaa.PickD Go.Proofs.Ytmomkjgnopcobaa.PickR1 Go.Proofs.Ytmomkjgnopcobaa.PickR2 Go.Proofs.Ytmomkjgnopcobaa.Pick1 Go.Proofs.Ytmomkjgnopcobaa.Pick2 Go.Proofs.Ytmomkjgnopcobaa.Pick3 Go.Proofs.Ytmomkjgnopcobaa.Pick4 Go.Proofs.Ytmomkjgnopcobaa.Free Go.Proofs.Ytmomkjgnopcobaa.Steps Go.Proofs.Ytmomkjgnopcobaa.Regs Go.Proofs.Ytmomkjgnopcobaa.ArgT Go.Proofs.Ytmomkjgnopcobaa.MapK Go.Proofs.Ytmomkjgnopcobaa.Quest Go.Proofs.Ytmomkjgnopcobaa.RowN Go.Proofs.Ytmomkjgnopcobaa.SpdD Go.Proofs.Ytmomkjgnopcobaa.Spd1 Go.Proofs.Ytmomkjgnopcobaa.Spd3

theorem map_ne {w : World} {gm k : Nat} {es : List (Qu × Int)} {t : TypeId} {cs : Array Value} {fr : Nat × Nat} (hm : MapAt ek evI w gm es) (hk : w.heap[k]? = some (.cells cs t fr)) : k ≠ gm := fun e => by
  obtain ⟨a, b, h, _⟩ := hm
  rw [e, h] at hk
  cases hk
theorem stored_blk {w : World} {gm k : Nat} {o : Obj} {t : TypeId} {cs : Array Value} (h : Blk w k t cs) (hne : k ≠ gm) : Blk (MapK.stored w gm o) k t cs := (MapK.stored_other w gm o k hne).trans h
theorem stored_row {w : World} {gm n c : Nat} {o : Obj} {t : TypeId} {A : Option Addr} {cs : List Value} (h : RowAt t 16 w A n c cs) (hne : ∀ k, own A k → k ≠ gm) : RowAt t 16 (MapK.stored w gm o) A n c cs := h.keep fun k hk _ => MapK.stored_other w gm o k (hne k hk)
theorem stored_keep {F : Nat → Prop} {w : World} {gm : Nat} (o : Obj) (h : ¬ F gm) : Keep F w (MapK.stored w gm o) := ⟨rfl, rfl, rfl, by simp [MapK.stored], fun k hk _ => MapK.stored_other w gm o k (fun e => h (e ▸ hk))⟩
/-- All that a policy is, in one: what a walk carries. -/
structure Pol (F : Nat → Prop) (w : World) (gs gm : Nat) (A : Option Addr) (n c : Nat) (rs : List RuleR) (es : List (Qu × Int)) : Prop where
  blk : Blk w gs 56 #[.slice A n c, .map (some gm)]
  row : RowAt InsR.RT 16 w A n c (rs.flatMap RuleR.cells)
  map : MapAt ek evI w gm es
  all : ∀ q ∈ es, q.2 = firstI rs q.1
  fs : ¬ F gs
  fm : ¬ F gm
  fr : ∀ k, own A k → ¬ F k
  len : rs.length = n
theorem Pol.below {F : Nat → Prop} {w w' : World} {gs gm : Nat} {A : Option Addr} {n c : Nat} {rs : List RuleR} {es : List (Qu × Int)} (h : Pol F w gs gm A n c rs es) (hb : Below w.heap.size w w') : Pol F w' gs gm A n c rs es :=
  ⟨h.blk.below hb h.blk.lt, h.row.below hb, h.map.below hb h.map.lt, h.all, h.fs, h.fm, h.fr, h.len⟩
/-- The map holds something else that is right. -/
theorem Pol.stored {F : Nat → Prop} {w : World} {gs gm : Nat} {A : Option Addr} {n c : Nat} {rs : List RuleR} {es es' : List (Qu × Int)} {o : Obj} (h : Pol F w gs gm A n c rs es) (hm : MapAt ek evI (MapK.stored w gm o) gm es') (ha : ∀ q ∈ es', q.2 = firstI rs q.1) : Pol F (MapK.stored w gm o) gs gm A n c rs es' :=
  ⟨stored_blk h.blk (map_ne h.map h.blk), stored_row h.row (fun k hk => by obtain ⟨X, hX⟩ := h.row.type hk; exact map_ne h.map hX), hm, ha, h.fs, h.fm, h.fr, h.len⟩
theorem Pol.at {F : Nat → Prop} {w : World} {gs gm : Nat} {A : Option Addr} {n c : Nat} {rs : List RuleR} {es : List (Qu × Int)} (h : Pol F w gs gm A n c rs es) (ok : ∀ r ∈ rs, Ok r) (few : rs.length ≤ 64) : SpdAt F w gs rs :=
  ⟨⟨A, c, gm, es, by rw [h.len]; exact h.blk, by rw [h.len]; exact h.row, h.map, h.all, h.fs, h.fm, h.fr⟩, ok, few⟩
theorem Pol.of {F : Nat → Prop} {w : World} {gs : Nat} {rs : List RuleR} (h : SpdAt F w gs rs) : ∃ gm A c es, Pol F w gs gm A rs.length c rs es := by
  obtain ⟨⟨A, c, gm, es, h1, h2, h3, h4, h5, h6, h7⟩, _, _⟩ := h
  exact ⟨gm, A, c, es, h1, h2, h3, h4, h5, h6, h7, rfl⟩
theorem map_len {w : World} {gm : Nat} {es : List (Qu × Int)} (h : MapAt ek evI w gm es) : ∃ k : Nat, ∀ ty, (Builtin.len_ #[54] ty #[.map (some gm)]).run Try.prog w = .ok (.int .i64 (k : Int)) w := by
  obtain ⟨a, b, h, _⟩ := h
  refine ⟨a.size, fun ty => ?_⟩
  have hu := Try.underlying54
  simp [Builtin.len_, run_underlying hu, gob h, goInt]
theorem put_right {rs : List RuleR} {es : List (Qu × Int)} (h : ∀ q ∈ es, q.2 = firstI rs q.1) (q : Qu) : ∀ p ∈ put q (firstI rs q) es, p.2 = firstI rs p.1 := put_all (Q := fun k v => v = firstI rs k) h rfl
set_option maxRecDepth 100000 in
set_option maxHeartbeats 2000000 in
theorem keep_code (F : Nat → Prop) (gs gm : Nat) (A : Option Addr) (n c : Nat) (rs : List RuleR) (es : List (Qu × Int)) (q : Qu) (w : World) (h : Pol F w gs gm A n c rs es) (h1 : q.here.size ≤ maxT) (h2 : q.there.size ≤ maxT) :
    Calls Try.prog 21 #[.pointer (some ⟨gs, 0, none⟩), .agg (QA q), .int .i64 (firstI rs q)] w fun e w' => e = .returned (.tuple #[]) ∧ ∃ es', Pol F w' gs gm A n c rs es' ∧ Keep F w w' := by
  have C1 := Lib.hid (fun W => clone_text q.here W h1)
  have C2 := Lib.hid (fun W => clone_text q.there W h2)
  have B0 := (Below.refl w.heap.size w).alloc (Nat.le_refl _) (.cells (QA q) 62)
  have KQ := Lib.hid (Blk.new w 62 (QA q))
  have HP := Lib.hid (h.below B0)
  have HK := Lib.hid (Keep.of (F := F) B0)
  have c1 : (w.alloc (.cells (QA q) 62)).cell? ⟨gs, 1, none⟩ = some (.map (some gm)) := HP.out.blk.cell 1
  obtain ⟨k, hk⟩ := map_len HP.out.map
  clear h h1 h2 B0
  by_cases big : 1024 ≤ k
  · have g1 : decide ((1024 : Int) ≤ (k : Int)) = true := decide_eq_true (by omega)
    have g2 : decide ((1024 : Nat) ≤ k) = true := decide_eq_true big
    obtain ⟨o, hcl, hmap⟩ := run_clear_map (ev := evI) (kt := 62) (et := 3) (mt := 54) (P := Try.prog) (by kernel_rfl) HP.out.map
    have HPb := Lib.hid (HP.out.stored hmap (fun p hp => absurd hp (by simp)))
    have KQb := Lib.hid (stored_blk (o := o) KQ.out (map_ne HP.out.map KQ.out))
    have HKb := Lib.hid (HK.out.trans (stored_keep o HP.out.fm))
    clear big hmap HP KQ HK
    go_enter Try.func21, Try.ntmps21
    go_wp2_with (refine MapS.wpList_clear rfl 54 (.tmp 15) rfl _ rfl _ hcl ?_)
    clear hk c1 hcl g1 g2
    generalize MapK.stored (w.alloc (.cells (QA q) 62)) gm o = w9 at *
    have XQ : Hid (∀ V, Below w9.drew.heap.size w9.drew V → Blk V w.heap.size 62 (QA q)) := Lib.hid fun V hV => Blk.below (show Blk w9.drew w.heap.size 62 (QA q) from KQb.out) hV (Blk.lt KQb.out)
    refine wp_region_free [0, 1, 2, 3, 4, 5, 6, 7, 8, 9, 10, 11, 12] 13 [] (fun w9 w2 => Below w9.heap.size w9 w2) (fun k' w' v => match k' with
      | 0 => v = .pointer (some ⟨w.heap.size, 0, none⟩)
      | 1 => v = .pointer (some ⟨w.heap.size, 0, none⟩)
      | 2 => v = .string q.here
      | 3 => v = .string q.here
      | 4 => v = .pointer (some ⟨w.heap.size, 0, none⟩)
      | 5 => v = .pointer (some ⟨w.heap.size, 1, none⟩)
      | 6 => v = .string q.there
      | 7 => v = .string q.there
      | 8 => v = .pointer (some ⟨w.heap.size, 0, none⟩)
      | 9 => v = .pointer (some ⟨w.heap.size, 0, none⟩)
      | 10 => True
      | 11 => v = .pointer (some ⟨w.heap.size, 0, none⟩)
      | _ => v = .pointer (some ⟨w.heap.size, 1, none⟩)) (by kernel_rfl) (by kernel_rfl) (Below.refl _ _) (fun _ _ _ h k => h.trans (k.mono h.size)) (fun k' w9 w2 v h => match k' with
      | 0 => fun x => x
      | 1 => fun x => x
      | 2 => fun x => x
      | 3 => fun x => x
      | 4 => fun x => x
      | 5 => fun x => x
      | 6 => fun x => x
      | 7 => fun x => x
      | 8 => fun x => x
      | 9 => fun x => x
      | 10 => fun _ => trivial
      | 11 => fun x => x
      | _ + 12 => fun x => x) (fun _ _ _ _ _ h => h) ?_ _ (by rfl) ?_
    · refine obs_cons (by rfl) (fun vals w' hgr hdep K hK => ?_) (obs_cons (by rfl) (fun vals w' hgr hdep K hK => ?_) (obs_cons (by rfl) (fun vals w' hgr hdep K hK => ?_) (obs_cons (by rfl) (fun vals w' hgr hdep K hK => ?_) (obs_cons (by rfl) (fun vals w' hgr hdep K hK => ?_) (obs_cons (by rfl) (fun vals w' hgr hdep K hK => ?_) (obs_cons (by rfl) (fun vals w' hgr hdep K hK => ?_) (obs_cons (by rfl) (fun vals w' hgr hdep K hK => ?_) (obs_cons (by rfl) (fun vals w' hgr hdep K hK => ?_) (obs_cons (by rfl) (fun vals w' hgr hdep K hK => ?_) (obs_cons (by rfl) (fun vals w' hgr hdep K hK => ?_) (obs_cons (by rfl) (fun vals w' hgr hdep K hK => ?_) (obs_cons (by rfl) (fun vals w' hgr hdep K hK => ?_) (obs_nil)))))))))))))
      · exact wp_field (.tmp 4) rfl _ _ (at_out _ (by kernel_rfl) rfl) (by kernel_rfl) (hK _ _ (Below.refl _ _) rfl)
      · exact wp_field (.tmp 16) rfl _ _ ((at_dst 0 (by kernel_rfl)).trans (hdep 0 (by simp) (by kernel_rfl))) (by kernel_rfl) (hK _ _ (Below.refl _ _) rfl)
      · exact wp_load1 (.tmp 17) rfl ⟨w.heap.size, 0, none⟩ ((at_dst 1 (by kernel_rfl)).trans (hdep 1 (by simp) (by kernel_rfl))) Try.underlying9 rfl _ ((XQ.out w' hgr).cell 0) (hK _ _ (Below.refl _ _) rfl)
      · exact wp_call 30 [.tmp 18] _ rfl SpdD.ent_clone [.string q.here] (Draw.list1 ((at_dst 2 (by kernel_rfl)).trans (hdep 2 (by simp) (by kernel_rfl)))) (fun v w'' => v = .string q.here ∧ Below w'.heap.size w' w'') (((C1.out w')).mono fun e w'' ⟨h1, h2⟩ => ⟨_, h1, rfl, h2⟩) (fun v w'' ⟨h1, h2⟩ => hK _ _ h2 h1)
      · exact wp_field (.tmp 4) rfl _ _ (at_out _ (by kernel_rfl) rfl) (by kernel_rfl) (hK _ _ (Below.refl _ _) rfl)
      · exact wp_field (.tmp 20) rfl _ _ ((at_dst 4 (by kernel_rfl)).trans (hdep 4 (by simp) (by kernel_rfl))) (by kernel_rfl) (hK _ _ (Below.refl _ _) rfl)
      · exact wp_load1 (.tmp 21) rfl ⟨w.heap.size, 1, none⟩ ((at_dst 5 (by kernel_rfl)).trans (hdep 5 (by simp) (by kernel_rfl))) Try.underlying9 rfl _ ((XQ.out w' hgr).cell 1) (hK _ _ (Below.refl _ _) rfl)
      · exact wp_call 30 [.tmp 22] _ rfl SpdD.ent_clone [.string q.there] (Draw.list1 ((at_dst 6 (by kernel_rfl)).trans (hdep 6 (by simp) (by kernel_rfl)))) (fun v w'' => v = .string q.there ∧ Below w'.heap.size w' w'') (((C2.out w')).mono fun e w'' ⟨h1, h2⟩ => ⟨_, h1, rfl, h2⟩) (fun v w'' ⟨h1, h2⟩ => hK _ _ h2 h1)
      · exact wp_field (.tmp 4) rfl _ _ (at_out _ (by kernel_rfl) rfl) (by kernel_rfl) (hK _ _ (Below.refl _ _) rfl)
      · exact wp_field (.tmp 24) rfl _ _ ((at_dst 8 (by kernel_rfl)).trans (hdep 8 (by simp) (by kernel_rfl))) (by kernel_rfl) (hK _ _ (Below.refl _ _) rfl)
      · exact st_same 9 (.tmp 25) (.tmp 19) rfl ⟨w.heap.size, 0, none⟩ ((at_dst 9 (by kernel_rfl)).trans (hdep 9 (by simp) (by kernel_rfl))) (.string q.here) ((at_dst 3 (by kernel_rfl)).trans (hdep 3 (by simp) (by kernel_rfl))) (same_one (XQ.out w' hgr) (by kernel_rfl) rfl rfl rfl) (hK _ _ (Below.refl _ _) trivial)
      · exact wp_field (.tmp 4) rfl _ _ (at_out _ (by kernel_rfl) rfl) (by kernel_rfl) (hK _ _ (Below.refl _ _) rfl)
      · exact wp_field (.tmp 26) rfl _ _ ((at_dst 11 (by kernel_rfl)).trans (hdep 11 (by simp) (by kernel_rfl))) (by kernel_rfl) (hK _ _ (Below.refl _ _) rfl)
    · intro vals w' hgr hG
      refine st_same 9 (.tmp 27) (.tmp 23) rfl ⟨w.heap.size, 1, none⟩ ((at_dst 12 (by kernel_rfl)).trans (hG 12 (by simp))) (.string q.there) ((at_dst 7 (by kernel_rfl)).trans (hG 7 (by simp))) (same_one (XQ.out w' hgr) (by kernel_rfl) rfl rfl rfl) (wpAnyH_done (by kernel_rfl) ?_ _)
      have hU := Lib.hid (Draw.below_1 hgr)
      have HP2 := Lib.hid (HPb.out.below hU.out)
      have KQ2 := Lib.hid (KQb.out.below hU.out KQb.out.lt)
      have HK2 := Lib.hid (HKb.out.trans (Keep.of hU.out))
      clear hG hgr XQ hU HPb KQb HKb
      simp only [fill, dstAt, List.getElem?_cons_zero, List.getElem?_cons_succ, Option.bind_some, Act.put, List.setIfInBounds_toArray, List.set_cons_zero, List.set_cons_succ]
      generalize vals 0 = y0, vals 1 = y1, vals 2 = y2, vals 3 = y3, vals 4 = y4, vals 5 = y5, vals 6 = y6, vals 7 = y7, vals 8 = y8, vals 9 = y9, vals 10 = y10, vals 11 = y11, vals 12 = y12 at *
      generalize w' = w2 at *
      go_wp2_with fail
      have KS := Lib.hid HP2.out.blk
      have XR : Hid (∀ V, Below w2.drew.heap.size w2.drew V → Blk V w.heap.size 62 (QA q)) := Lib.hid fun V hV => Blk.below (show Blk w2.drew w.heap.size 62 (QA q) from KQ2.out) hV (Blk.lt KQ2.out)
      have XS : Hid (∀ V, Below w2.drew.heap.size w2.drew V → Blk V gs 56 #[.slice A n c, .map (some gm)]) := Lib.hid fun V hV => Blk.below (show Blk w2.drew gs 56 #[.slice A n c, .map (some gm)] from KS.out) hV (Blk.lt KS.out)
      refine wp_region_free [0, 1, 2, 3, 4, 5] 6 [] (fun w9 w2 => Below w9.heap.size w9 w2) (fun k' w' v => match k' with
        | 0 => v = .pointer (some ⟨gs, 0, none⟩)
        | 1 => v = .pointer (some ⟨gs, 0, none⟩)
        | 2 => v = .pointer (some ⟨gs, 1, none⟩)
        | 3 => v = .map (some gm)
        | 4 => v = .agg #[.string q.here, .string q.there, .int .i64 q.pr, .int .i64 q.near, .int .i64 q.far, .bool q.out]
        | _ => v = .int .i64 ((firstI rs q))) (by kernel_rfl) (by kernel_rfl) (Below.refl _ _) (fun _ _ _ h k => h.trans (k.mono h.size)) (fun k' w9 w2 v h => match k' with
        | 0 => fun x => x
        | 1 => fun x => x
        | 2 => fun x => x
        | 3 => fun x => x
        | 4 => fun x => x
        | _ + 5 => fun x => x) (fun _ _ _ _ _ h => h) ?_ _ (by rfl) ?_
      · refine obs_cons (by rfl) (fun vals w' hgr hdep K hK => ?_) (obs_cons (by rfl) (fun vals w' hgr hdep K hK => ?_) (obs_cons (by rfl) (fun vals w' hgr hdep K hK => ?_) (obs_cons (by rfl) (fun vals w' hgr hdep K hK => ?_) (obs_cons (by rfl) (fun vals w' hgr hdep K hK => ?_) (obs_cons (by rfl) (fun vals w' hgr hdep K hK => ?_) (obs_nil))))))
        · exact wp_move (.tmp 0) rfl _ (at_out _ (by kernel_rfl) rfl) (hK _ _ (Below.refl _ _) rfl)
        · exact MapS.st_nil (.tmp 28) rfl _ ((at_dst 0 (by kernel_rfl)).trans (hdep 0 (by simp) (by kernel_rfl))) (hK _ _ (Below.refl _ _) rfl)
        · exact wp_field (.tmp 29) rfl _ _ ((at_dst 1 (by kernel_rfl)).trans (hdep 1 (by simp) (by kernel_rfl))) (by kernel_rfl) (hK _ _ (Below.refl _ _) rfl)
        · exact wp_load1 (.tmp 30) rfl ⟨gs, 1, none⟩ ((at_dst 2 (by kernel_rfl)).trans (hdep 2 (by simp) (by kernel_rfl))) Try.underlying54 rfl _ ((XS.out w' hgr).cell 1) (hK _ _ (Below.refl _ _) rfl)
        · exact Part.st_load_part 62 (.tmp 4) rfl w.heap.size 0 [.string q.here, .string q.there, .int .i64 q.pr, .int .i64 q.near, .int .i64 q.far, .bool q.out] (at_out _ (by kernel_rfl) rfl) (Part.run_part _ _ _ _ _ _ Try.underlying62 rfl (by kernel_rfl) (blk_part (XR.out w' hgr) 0 6)) (hK _ _ (Below.refl _ _) rfl)
        · exact wp_move (.tmp 2) rfl _ (at_out _ (by kernel_rfl) rfl) (hK _ _ (Below.refl _ _) rfl)
      · intro vals w' hgr hG
        have hU := Lib.hid (Draw.below_1 hgr)
        have HP3 := Lib.hid (HP2.out.below hU.out)
        obtain ⟨o, hrun, hmap⟩ := run_update (ev := evI) key_law (mt := 54) (et := 3) (by kernel_rfl) HP3.out.map q (firstI rs q)
        refine MapS.st_update 54 (.tmp 31) (.tmp 32) (.tmp 33) rfl _ _ _ ((at_dst 3 (by kernel_rfl)).trans (hG 3 (by simp))) ((at_dst 4 (by kernel_rfl)).trans (hG 4 (by simp))) ((at_dst 5 (by kernel_rfl)).trans (hG 5 (by simp))) _ hrun (wpAnyH_done (by kernel_rfl) ?_ _)
        have HP4 := Lib.hid (HP3.out.stored hmap (put_right HP3.out.all q))
        have HK4 := Lib.hid ((HK2.out.trans (Keep.of hU.out)).trans (stored_keep o HP3.out.fm))
        clear hG hgr XR XS hU HP2 HP3 KQ2 HK2 hrun hmap KS
        simp only [fill, dstAt, List.getElem?_cons_zero, List.getElem?_cons_succ, Option.bind_some, Act.put, List.setIfInBounds_toArray, List.set_cons_zero, List.set_cons_succ]
        generalize vals 0 = z0, vals 1 = z1, vals 2 = z2, vals 3 = z3, vals 4 = z4, vals 5 = z5 at *
        generalize MapK.stored w' gm o = w5 at *
        go_wp2_with fail
        go_end0
        exact ⟨rfl, _, HP4.out, HK4.out⟩
  · have g1 : decide ((1024 : Int) ≤ (k : Int)) = false := decide_eq_false (by omega)
    have g2 : decide ((1024 : Nat) ≤ k) = false := decide_eq_false big
    clear big
    go_enter Try.func21, Try.ntmps21
    go_wp2_with fail
    clear hk c1 g1 g2
    generalize w.alloc (.cells (QA q) 62) = w1 at *
    have XQ : Hid (∀ V, Below w1.drew.heap.size w1.drew V → Blk V w.heap.size 62 (QA q)) := Lib.hid fun V hV => Blk.below (show Blk w1.drew w.heap.size 62 (QA q) from KQ.out) hV (Blk.lt KQ.out)
    refine wp_region_free [0, 1, 2, 3, 4, 5, 6, 7, 8, 9, 10, 11, 12] 13 [] (fun w1 w2 => Below w1.heap.size w1 w2) (fun k' w' v => match k' with
      | 0 => v = .pointer (some ⟨w.heap.size, 0, none⟩)
      | 1 => v = .pointer (some ⟨w.heap.size, 0, none⟩)
      | 2 => v = .string q.here
      | 3 => v = .string q.here
      | 4 => v = .pointer (some ⟨w.heap.size, 0, none⟩)
      | 5 => v = .pointer (some ⟨w.heap.size, 1, none⟩)
      | 6 => v = .string q.there
      | 7 => v = .string q.there
      | 8 => v = .pointer (some ⟨w.heap.size, 0, none⟩)
      | 9 => v = .pointer (some ⟨w.heap.size, 0, none⟩)
      | 10 => True
      | 11 => v = .pointer (some ⟨w.heap.size, 0, none⟩)
      | _ => v = .pointer (some ⟨w.heap.size, 1, none⟩)) (by kernel_rfl) (by kernel_rfl) (Below.refl _ _) (fun _ _ _ h k => h.trans (k.mono h.size)) (fun k' w1 w2 v h => match k' with
      | 0 => fun x => x
      | 1 => fun x => x
      | 2 => fun x => x
      | 3 => fun x => x
      | 4 => fun x => x
      | 5 => fun x => x
      | 6 => fun x => x
      | 7 => fun x => x
      | 8 => fun x => x
      | 9 => fun x => x
      | 10 => fun _ => trivial
      | 11 => fun x => x
      | _ + 12 => fun x => x) (fun _ _ _ _ _ h => h) ?_ _ (by rfl) ?_
    · refine obs_cons (by rfl) (fun vals w' hgr hdep K hK => ?_) (obs_cons (by rfl) (fun vals w' hgr hdep K hK => ?_) (obs_cons (by rfl) (fun vals w' hgr hdep K hK => ?_) (obs_cons (by rfl) (fun vals w' hgr hdep K hK => ?_) (obs_cons (by rfl) (fun vals w' hgr hdep K hK => ?_) (obs_cons (by rfl) (fun vals w' hgr hdep K hK => ?_) (obs_cons (by rfl) (fun vals w' hgr hdep K hK => ?_) (obs_cons (by rfl) (fun vals w' hgr hdep K hK => ?_) (obs_cons (by rfl) (fun vals w' hgr hdep K hK => ?_) (obs_cons (by rfl) (fun vals w' hgr hdep K hK => ?_) (obs_cons (by rfl) (fun vals w' hgr hdep K hK => ?_) (obs_cons (by rfl) (fun vals w' hgr hdep K hK => ?_) (obs_cons (by rfl) (fun vals w' hgr hdep K hK => ?_) (obs_nil)))))))))))))
      · exact wp_field (.tmp 4) rfl _ _ (at_out _ (by kernel_rfl) rfl) (by kernel_rfl) (hK _ _ (Below.refl _ _) rfl)
      · exact wp_field (.tmp 16) rfl _ _ ((at_dst 0 (by kernel_rfl)).trans (hdep 0 (by simp) (by kernel_rfl))) (by kernel_rfl) (hK _ _ (Below.refl _ _) rfl)
      · exact wp_load1 (.tmp 17) rfl ⟨w.heap.size, 0, none⟩ ((at_dst 1 (by kernel_rfl)).trans (hdep 1 (by simp) (by kernel_rfl))) Try.underlying9 rfl _ ((XQ.out w' hgr).cell 0) (hK _ _ (Below.refl _ _) rfl)
      · exact wp_call 30 [.tmp 18] _ rfl SpdD.ent_clone [.string q.here] (Draw.list1 ((at_dst 2 (by kernel_rfl)).trans (hdep 2 (by simp) (by kernel_rfl)))) (fun v w'' => v = .string q.here ∧ Below w'.heap.size w' w'') (((C1.out w')).mono fun e w'' ⟨h1, h2⟩ => ⟨_, h1, rfl, h2⟩) (fun v w'' ⟨h1, h2⟩ => hK _ _ h2 h1)
      · exact wp_field (.tmp 4) rfl _ _ (at_out _ (by kernel_rfl) rfl) (by kernel_rfl) (hK _ _ (Below.refl _ _) rfl)
      · exact wp_field (.tmp 20) rfl _ _ ((at_dst 4 (by kernel_rfl)).trans (hdep 4 (by simp) (by kernel_rfl))) (by kernel_rfl) (hK _ _ (Below.refl _ _) rfl)
      · exact wp_load1 (.tmp 21) rfl ⟨w.heap.size, 1, none⟩ ((at_dst 5 (by kernel_rfl)).trans (hdep 5 (by simp) (by kernel_rfl))) Try.underlying9 rfl _ ((XQ.out w' hgr).cell 1) (hK _ _ (Below.refl _ _) rfl)
      · exact wp_call 30 [.tmp 22] _ rfl SpdD.ent_clone [.string q.there] (Draw.list1 ((at_dst 6 (by kernel_rfl)).trans (hdep 6 (by simp) (by kernel_rfl)))) (fun v w'' => v = .string q.there ∧ Below w'.heap.size w' w'') (((C2.out w')).mono fun e w'' ⟨h1, h2⟩ => ⟨_, h1, rfl, h2⟩) (fun v w'' ⟨h1, h2⟩ => hK _ _ h2 h1)
      · exact wp_field (.tmp 4) rfl _ _ (at_out _ (by kernel_rfl) rfl) (by kernel_rfl) (hK _ _ (Below.refl _ _) rfl)
      · exact wp_field (.tmp 24) rfl _ _ ((at_dst 8 (by kernel_rfl)).trans (hdep 8 (by simp) (by kernel_rfl))) (by kernel_rfl) (hK _ _ (Below.refl _ _) rfl)
      · exact st_same 9 (.tmp 25) (.tmp 19) rfl ⟨w.heap.size, 0, none⟩ ((at_dst 9 (by kernel_rfl)).trans (hdep 9 (by simp) (by kernel_rfl))) (.string q.here) ((at_dst 3 (by kernel_rfl)).trans (hdep 3 (by simp) (by kernel_rfl))) (same_one (XQ.out w' hgr) (by kernel_rfl) rfl rfl rfl) (hK _ _ (Below.refl _ _) trivial)
      · exact wp_field (.tmp 4) rfl _ _ (at_out _ (by kernel_rfl) rfl) (by kernel_rfl) (hK _ _ (Below.refl _ _) rfl)
      · exact wp_field (.tmp 26) rfl _ _ ((at_dst 11 (by kernel_rfl)).trans (hdep 11 (by simp) (by kernel_rfl))) (by kernel_rfl) (hK _ _ (Below.refl _ _) rfl)
    · intro vals w' hgr hG
      refine st_same 9 (.tmp 27) (.tmp 23) rfl ⟨w.heap.size, 1, none⟩ ((at_dst 12 (by kernel_rfl)).trans (hG 12 (by simp))) (.string q.there) ((at_dst 7 (by kernel_rfl)).trans (hG 7 (by simp))) (same_one (XQ.out w' hgr) (by kernel_rfl) rfl rfl rfl) (wpAnyH_done (by kernel_rfl) ?_ _)
      have hU := Lib.hid (Draw.below_1 hgr)
      have HP2 := Lib.hid (HP.out.below hU.out)
      have KQ2 := Lib.hid (KQ.out.below hU.out KQ.out.lt)
      have HK2 := Lib.hid (HK.out.trans (Keep.of hU.out))
      clear hG hgr XQ hU HP KQ HK
      simp only [fill, dstAt, List.getElem?_cons_zero, List.getElem?_cons_succ, Option.bind_some, Act.put, List.setIfInBounds_toArray, List.set_cons_zero, List.set_cons_succ]
      generalize vals 0 = y0, vals 1 = y1, vals 2 = y2, vals 3 = y3, vals 4 = y4, vals 5 = y5, vals 6 = y6, vals 7 = y7, vals 8 = y8, vals 9 = y9, vals 10 = y10, vals 11 = y11, vals 12 = y12 at *
      generalize w' = w2 at *
      go_wp2_with fail
      have KS := Lib.hid HP2.out.blk
      have XR : Hid (∀ V, Below w2.drew.heap.size w2.drew V → Blk V w.heap.size 62 (QA q)) := Lib.hid fun V hV => Blk.below (show Blk w2.drew w.heap.size 62 (QA q) from KQ2.out) hV (Blk.lt KQ2.out)
      have XS : Hid (∀ V, Below w2.drew.heap.size w2.drew V → Blk V gs 56 #[.slice A n c, .map (some gm)]) := Lib.hid fun V hV => Blk.below (show Blk w2.drew gs 56 #[.slice A n c, .map (some gm)] from KS.out) hV (Blk.lt KS.out)
      refine wp_region_free [0, 1, 2, 3, 4, 5] 6 [] (fun w1 w2 => Below w1.heap.size w1 w2) (fun k' w' v => match k' with
        | 0 => v = .pointer (some ⟨gs, 0, none⟩)
        | 1 => v = .pointer (some ⟨gs, 0, none⟩)
        | 2 => v = .pointer (some ⟨gs, 1, none⟩)
        | 3 => v = .map (some gm)
        | 4 => v = .agg #[.string q.here, .string q.there, .int .i64 q.pr, .int .i64 q.near, .int .i64 q.far, .bool q.out]
        | _ => v = .int .i64 ((firstI rs q))) (by kernel_rfl) (by kernel_rfl) (Below.refl _ _) (fun _ _ _ h k => h.trans (k.mono h.size)) (fun k' w1 w2 v h => match k' with
        | 0 => fun x => x
        | 1 => fun x => x
        | 2 => fun x => x
        | 3 => fun x => x
        | 4 => fun x => x
        | _ + 5 => fun x => x) (fun _ _ _ _ _ h => h) ?_ _ (by rfl) ?_
      · refine obs_cons (by rfl) (fun vals w' hgr hdep K hK => ?_) (obs_cons (by rfl) (fun vals w' hgr hdep K hK => ?_) (obs_cons (by rfl) (fun vals w' hgr hdep K hK => ?_) (obs_cons (by rfl) (fun vals w' hgr hdep K hK => ?_) (obs_cons (by rfl) (fun vals w' hgr hdep K hK => ?_) (obs_cons (by rfl) (fun vals w' hgr hdep K hK => ?_) (obs_nil))))))
        · exact wp_move (.tmp 0) rfl _ (at_out _ (by kernel_rfl) rfl) (hK _ _ (Below.refl _ _) rfl)
        · exact MapS.st_nil (.tmp 28) rfl _ ((at_dst 0 (by kernel_rfl)).trans (hdep 0 (by simp) (by kernel_rfl))) (hK _ _ (Below.refl _ _) rfl)
        · exact wp_field (.tmp 29) rfl _ _ ((at_dst 1 (by kernel_rfl)).trans (hdep 1 (by simp) (by kernel_rfl))) (by kernel_rfl) (hK _ _ (Below.refl _ _) rfl)
        · exact wp_load1 (.tmp 30) rfl ⟨gs, 1, none⟩ ((at_dst 2 (by kernel_rfl)).trans (hdep 2 (by simp) (by kernel_rfl))) Try.underlying54 rfl _ ((XS.out w' hgr).cell 1) (hK _ _ (Below.refl _ _) rfl)
        · exact Part.st_load_part 62 (.tmp 4) rfl w.heap.size 0 [.string q.here, .string q.there, .int .i64 q.pr, .int .i64 q.near, .int .i64 q.far, .bool q.out] (at_out _ (by kernel_rfl) rfl) (Part.run_part _ _ _ _ _ _ Try.underlying62 rfl (by kernel_rfl) (blk_part (XR.out w' hgr) 0 6)) (hK _ _ (Below.refl _ _) rfl)
        · exact wp_move (.tmp 2) rfl _ (at_out _ (by kernel_rfl) rfl) (hK _ _ (Below.refl _ _) rfl)
      · intro vals w' hgr hG
        have hU := Lib.hid (Draw.below_1 hgr)
        have HP3 := Lib.hid (HP2.out.below hU.out)
        obtain ⟨o, hrun, hmap⟩ := run_update (ev := evI) key_law (mt := 54) (et := 3) (by kernel_rfl) HP3.out.map q (firstI rs q)
        refine MapS.st_update 54 (.tmp 31) (.tmp 32) (.tmp 33) rfl _ _ _ ((at_dst 3 (by kernel_rfl)).trans (hG 3 (by simp))) ((at_dst 4 (by kernel_rfl)).trans (hG 4 (by simp))) ((at_dst 5 (by kernel_rfl)).trans (hG 5 (by simp))) _ hrun (wpAnyH_done (by kernel_rfl) ?_ _)
        have HP4 := Lib.hid (HP3.out.stored hmap (put_right HP3.out.all q))
        have HK4 := Lib.hid ((HK2.out.trans (Keep.of hU.out)).trans (stored_keep o HP3.out.fm))
        clear hG hgr XR XS hU HP2 HP3 KQ2 HK2 hrun hmap KS
        simp only [fill, dstAt, List.getElem?_cons_zero, List.getElem?_cons_succ, Option.bind_some, Act.put, List.setIfInBounds_toArray, List.set_cons_zero, List.set_cons_succ]
        generalize vals 0 = z0, vals 1 = z1, vals 2 = z2, vals 3 = z3, vals 4 = z4, vals 5 = z5 at *
        generalize MapK.stored w' gm o = w5 at *
        go_wp2_with fail
        go_end0
        exact ⟨rfl, _, HP4.out, HK4.out⟩
end Go.Proofs.Ytmomkjgnopcobaa.Spd4
