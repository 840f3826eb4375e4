/- The code's Find. -/
import Derived.Test.YtmomkjgnopcobaaSpd4
set_option linter.unusedVariables false
namespace Go.Proofs.Ytmomkjgnopcobaa.Spd5
open Go.RowKit Go.Proofs.Ytmomkjgnopcobaa.Mem Go.Proofs.Ytmomkjgnopcobaa.Blk Go.Proofs.Ytmomkjgnopcobaa.Ahead Go.Proofs.Ytmomkjgnopcobaa.PickD Go.Proofs.Ytmomkjgnopcobaa.PickR1 Go.Proofs.Ytmomkjgnopcobaa.PickR2 Go.Proofs.Ytmomkjgnopcobaa.Pick1 Go.Proofs.Ytmomkjgnopcobaa.Pick2 Go.Proofs.Ytmomkjgnopcobaa.Pick3 Go.Proofs.Ytmomkjgnopcobaa.Pick4 Go.Proofs.Ytmomkjgnopcobaa.Free Go.Proofs.Ytmomkjgnopcobaa.Steps Go.Proofs.Ytmomkjgnopcobaa.Regs Go.Proofs.Ytmomkjgnopcobaa.ArgT Go.Proofs.Ytmomkjgnopcobaa.MapK Go.Proofs.Ytmomkjgnopcobaa.Quest Go.Proofs.Ytmomkjgnopcobaa.RowN Go.Proofs.Ytmomkjgnopcobaa.SpdD Go.Proofs.Ytmomkjgnopcobaa.Spd1 Go.Proofs.Ytmomkjgnopcobaa.Spd3 Go.Proofs.Ytmomkjgnopcobaa.Spd4

def findI (rs : List RuleR) (q : Qu) : Int := if firstI rs q = -1 then 0 else firstI rs q
def findE (rs : List RuleR) (q : Qu) : Int := if firstI rs q = -1 then 6 else 0
abbrev FA (q : Qu) : Array Value := #[.string q.here, .string q.there, .int .i64 q.pr, .int .i64 q.near, .int .i64 q.far]
theorem one_qa (q : Qu) : (QA q).all (·.oneCell') = true := by simp [Value.oneCell']
theorem find_nil (q : Qu) (w : World) : Calls Try.prog 12 #[.pointer none, .agg (FA q), .bool q.out] w fun e w' => e = .returned (.tuple #[.int .i64 0, .int .i64 3]) ∧ Below w.heap.size w w' := by
  have B0 := Lib.hid ((Below.refl w.heap.size w).alloc (Nat.le_refl _) (.cells (FA q) 24))
  go_enter Try.func12, Try.ntmps12
  go_wp2_with fail
  go_ret2
  exact ⟨rfl, B0.out⟩
set_option maxRecDepth 100000 in
set_option maxHeartbeats 4000000 in
theorem find_pol (F : Nat → Prop) (gs gm : Nat) (A : Option Addr) (n c : Nat) (rs : List RuleR) (es : List (Qu × Int)) (q : Qu) (w : World) (h : Pol F w gs gm A n c rs es) (hn : n ≤ 64) (h1 : q.here.size ≤ maxT) (h2 : q.there.size ≤ maxT) :
    Calls Try.prog 12 #[.pointer (some ⟨gs, 0, none⟩), .agg (FA q), .bool q.out] w fun e w' => e = .returned (.tuple #[.int .i64 (findI rs q), .int .i64 (findE rs q)]) ∧ ∃ es', Pol F w' gs gm A n c rs es' ∧ Keep F w w' := by
  have KC : Hid (∀ V es2, Pol F V gs gm A n c rs es2 → _) := Lib.hid fun V es2 hp => keep_code F gs gm A n c rs es2 q V hp h1 h2
  have FCs : Hid (∀ V es2, Pol F V gs gm A n c rs es2 → _) := Lib.hid fun V es2 hp => first_code gs gm A n c rs q V hp.blk hp.row hp.len hn
  have A1 := (Below.refl w.heap.size w).alloc (Nat.le_refl _) (.cells (FA q) 24)
  have K4 := Lib.hid (Blk.new w 24 (FA q))
  have A2 := A1.alloc (by simp) (.cells #[.string ⟨#[]⟩, .string ⟨#[]⟩, .int .i64 0, .int .i64 0, .int .i64 0, .bool false] 62)
  have J0 : Hid (Blk ((w.alloc (.cells (FA q) 24)).alloc (.cells #[.string ⟨#[]⟩, .string ⟨#[]⟩, .int .i64 0, .int .i64 0, .int .i64 0, .bool false] 62)) (w.heap.size + 1) 62 #[.string ⟨#[]⟩, .string ⟨#[]⟩, .int .i64 0, .int .i64 0, .int .i64 0, .bool false]) := Lib.hid (by
    have := Blk.new (w.alloc (.cells (FA q) 24)) 62 #[.string ⟨#[]⟩, .string ⟨#[]⟩, .int .i64 0, .int .i64 0, .int .i64 0, .bool false]
    simpa using this)
  have A3 := Com.setRow_bel A2 (show w.heap.size ≤ w.heap.size + 1 by omega) (QA q)
  have KQ := Lib.hid (show Blk (((w.alloc (.cells (FA q) 24)).alloc (.cells #[.string ⟨#[]⟩, .string ⟨#[]⟩, .int .i64 0, .int .i64 0, .int .i64 0, .bool false] 62)).setRow (w.heap.size + 1) (QA q)) (w.heap.size + 1) 62 (QA q) from setRow_heap _ _ _ _ _ _ J0.out)
  have K4b := Lib.hid (Blk.alloc K4.out (.cells #[.string ⟨#[]⟩, .string ⟨#[]⟩, .int .i64 0, .int .i64 0, .int .i64 0, .bool false] 62))
  have HP := Lib.hid (h.below A3)
  have HK := Lib.hid (Keep.of (F := F) A3)
  have one := Lib.hid (one_qa q)
  clear h h1 h2 A1 A2 A3
  obtain ⟨z, hz⟩ : ∃ z, z = firstI rs q := ⟨_, rfl⟩
  have EI : Hid (findI rs q = if z = -1 then 0 else z) := Lib.hid (by rw [hz]; rfl)
  have EE : Hid (findE rs q = if z = -1 then 6 else 0) := Lib.hid (by rw [hz]; rfl)
  have HZ := Lib.hid hz
  clear hz
  go_enter Try.func12, Try.ntmps12
  go_wp2_with (first
    | (refine Store.at_load 24 (.tmp 4) ?_ ?_; exact rfl; refine Loads.wpList_load_w rfl 24 (.tmp 4) rfl w.heap.size rfl 24 (FA q) (0, 0) _ (K4b.out) Try.underlying24 rfl (by kernel_rfl) ?_)
    | (refine Store.at_load 24 (.tmp 4) ?_ ?_; exact rfl; refine Loads.wpList_load_w rfl 24 (.tmp 4) rfl w.heap.size rfl 24 (FA q) (0, 0) _ (K4.out) Try.underlying24 rfl (by kernel_rfl) ?_)
    | (refine Store.at_store 62 (.tmp 8) (.tmp 15) ?_ ?_; exact rfl; refine wpList_store_row rfl 62 (.tmp 8) (.tmp 15) rfl (w.heap.size + 1) (QA q) rfl rfl 62 _ J0.out (by kernel_rfl) rfl one.out ?_))
  generalize ((w.alloc (.cells (FA q) 24)).alloc (.cells #[.string ⟨#[]⟩, .string ⟨#[]⟩, .int .i64 0, .int .i64 0, .int .i64 0, .bool false] 62)).setRow (w.heap.size + 1) (QA q) = w1 at *
  clear K4 K4b J0 one
  have KS := Lib.hid HP.out.blk
  have XQ : Hid (∀ V, Below w1.drew.heap.size w1.drew V → Blk V (w.heap.size + 1) 62 (QA q)) := Lib.hid fun V hV => Blk.below (show Blk w1.drew (w.heap.size + 1) 62 (QA q) from KQ.out) hV (Blk.lt KQ.out)
  have XS : Hid (∀ V, Below w1.drew.heap.size w1.drew V → Blk V gs 56 #[.slice A n c, .map (some gm)]) := Lib.hid fun V hV => Blk.below (show Blk w1.drew gs 56 #[.slice A n c, .map (some gm)] from KS.out) hV (Blk.lt KS.out)
  obtain ⟨u0, ok, LK, RIGHT⟩ : ∃ (u0 : Int) (ok : Bool), Hid (∀ V, Below w1.drew.heap.size w1.drew V → (Instr.lookup 54 (.map (some gm)) (.agg #[.string q.here, .string q.there, .int .i64 q.pr, .int .i64 q.near, .int .i64 q.far, .bool q.out]) true).run Try.prog V = .ok (.tuple #[.int .i64 u0, .bool ok]) V) ∧ (ok = true → u0 = z) := by
    have lk := fun V (hV : Below w1.drew.heap.size w1.drew V) => run_lookup (P := Try.prog) (ev := evI) key_law (mt := 54) (et := 3) (by kernel_rfl) ((show MapAt ek evI w1.drew gm es from HP.out.map.same rfl).below hV (HP.out.map.lt)) (.int .i64 0) (by kernel_rfl) q
    cases hg : get q es with
    | none =>
      rw [hg] at lk
      exact ⟨0, false, Lib.hid lk, fun h => by cases h⟩
    | some v =>
      rw [hg] at lk
      exact ⟨v, true, Lib.hid lk, fun _ => (HP.out.all _ (get_mem hg)).trans HZ.out.symm⟩
  have RI := Lib.hid RIGHT
  clear RIGHT
  refine wp_region_free [0, 1, 2, 3, 4, 5, 6, 7, 8, 9] 10 [] (fun w1 w2 => Below w1.heap.size w1 w2) (fun k' w' v => match k' with
    | 0 => v = .pointer (some ⟨gs, 0, none⟩)
    | 1 => v = .pointer (some ⟨gs, 0, none⟩)
    | 2 => v = .pointer (some ⟨gs, 1, none⟩)
    | 3 => v = .map (some gm)
    | 4 => v = .agg #[.string q.here, .string q.there, .int .i64 q.pr, .int .i64 q.near, .int .i64 q.far, .bool q.out]
    | 5 => v = .tuple #[.int .i64 u0, .bool ok]
    | 6 => v = .tuple #[.int .i64 u0, .bool ok]
    | 7 => v = .int .i64 u0
    | 8 => v = .bool ok
    | _ => v = .int .i64 u0) (by kernel_rfl) (by kernel_rfl) (Below.refl _ _) (fun _ _ _ h k => h.trans (k.mono h.size)) (fun k' w1 w2 v h => match k' with
    | 0 => fun x => x
    | 1 => fun x => x
    | 2 => fun x => x
    | 3 => fun x => x
    | 4 => fun x => x
    | 5 => fun x => x
    | 6 => fun x => x
    | 7 => fun x => x
    | 8 => fun x => x
    | _ + 9 => fun x => x) (fun _ _ _ _ _ h => h) ?_ _ (by rfl) ?_
  · refine obs_cons (by rfl) (fun vals w' hgr hdep K hK => ?_) (obs_cons (by rfl) (fun vals w' hgr hdep K hK => ?_) (obs_cons (by rfl) (fun vals w' hgr hdep K hK => ?_) (obs_cons (by rfl) (fun vals w' hgr hdep K hK => ?_) (obs_cons (by rfl) (fun vals w' hgr hdep K hK => ?_) (obs_cons (by rfl) (fun vals w' hgr hdep K hK => ?_) (obs_cons (by rfl) (fun vals w' hgr hdep K hK => ?_) (obs_cons (by rfl) (fun vals w' hgr hdep K hK => ?_) (obs_cons (by rfl) (fun vals w' hgr hdep K hK => ?_) (obs_cons (by rfl) (fun vals w' hgr hdep K hK => ?_) (obs_nil))))))))))
    · exact wp_move (.tmp 0) rfl _ (at_out _ (by kernel_rfl) rfl) (hK _ _ (Below.refl _ _) rfl)
    · exact MapS.st_nil (.tmp 17) rfl _ ((at_dst 0 (by kernel_rfl)).trans (hdep 0 (by simp) (by kernel_rfl))) (hK _ _ (Below.refl _ _) rfl)
    · exact wp_field (.tmp 18) rfl _ _ ((at_dst 1 (by kernel_rfl)).trans (hdep 1 (by simp) (by kernel_rfl))) (by kernel_rfl) (hK _ _ (Below.refl _ _) rfl)
    · exact wp_load1 (.tmp 19) rfl ⟨gs, 1, none⟩ ((at_dst 2 (by kernel_rfl)).trans (hdep 2 (by simp) (by kernel_rfl))) Try.underlying54 rfl _ ((XS.out w' hgr).cell 1) (hK _ _ (Below.refl _ _) rfl)
    · exact Part.st_load_part 62 (.tmp 8) rfl (w.heap.size + 1) 0 [.string q.here, .string q.there, .int .i64 q.pr, .int .i64 q.near, .int .i64 q.far, .bool q.out] (at_out _ (by kernel_rfl) rfl) (Part.run_part _ _ _ _ _ _ Try.underlying62 rfl (by kernel_rfl) (blk_part (XQ.out w' hgr) 0 6)) (hK _ _ (Below.refl _ _) rfl)
    · exact MapS.st_lookup 54 (.tmp 20) (.tmp 21) rfl _ _ _ ((at_dst 3 (by kernel_rfl)).trans (hdep 3 (by simp) (by kernel_rfl))) ((at_dst 4 (by kernel_rfl)).trans (hdep 4 (by simp) (by kernel_rfl))) (LK.out w' hgr) (hK _ _ (Below.refl _ _) rfl)
    · exact wp_move (.tmp 22) rfl _ ((at_dst 5 (by kernel_rfl)).trans (hdep 5 (by simp) (by kernel_rfl))) (hK _ _ (Below.refl _ _) rfl)
    · exact MapS.st_extract (.tmp 16) 0 rfl _ _ ((at_dst 6 (by kernel_rfl)).trans (hdep 6 (by simp) (by kernel_rfl))) rfl (hK _ _ (Below.refl _ _) rfl)
    · exact MapS.st_extract (.tmp 16) 1 rfl _ _ ((at_dst 6 (by kernel_rfl)).trans (hdep 6 (by simp) (by kernel_rfl))) rfl (hK _ _ (Below.refl _ _) rfl)
    · exact st_assign (.tmp 23) _ rfl ((at_dst 7 (by kernel_rfl)).trans (hdep 7 (by simp) (by kernel_rfl))) (hK _ _ (Below.refl _ _) rfl)
  · intro vals w' hgr hG
    refine st_assign (.tmp 24) (.bool ok) rfl ((at_dst 8 (by kernel_rfl)).trans (hG 8 (by simp))) (wpAnyH_done (by kernel_rfl) ?_ _)
    have hU := Lib.hid (Draw.below_1 hgr)
    have HP2 := Lib.hid (HP.out.below hU.out)
    have HK2 := Lib.hid (HK.out.trans (Keep.of hU.out))
    have KQ2 := Lib.hid (KQ.out.below hU.out KQ.out.lt)
    have Q9 : vals 9 = .int .i64 u0 := hG 9 (by simp)
    clear hG hgr XQ XS LK hU HP HK KQ KS
    simp only [fill, dstAt, List.getElem?_cons_zero, List.getElem?_cons_succ, Option.bind_some, Act.put, List.setIfInBounds_toArray, List.set_cons_zero, List.set_cons_succ]
    rw [Q9]
    generalize vals 0 = y0, vals 1 = y1, vals 2 = y2, vals 3 = y3, vals 4 = y4, vals 5 = y5, vals 6 = y6, vals 7 = y7, vals 8 = y8 at *
    generalize w' = w2 at *
    clear Q9
    cases ok
    · go_wp2_with (refine Store.at_load 62 (.tmp 8) ?_ ?_; exact rfl; refine Loads.wpList_load_w rfl 62 (.tmp 8) rfl (w.heap.size + 1) rfl 62 (QA q) (0, 0) _ (KQ2.out) Try.underlying62 rfl (by kernel_rfl) ?_)
      refine (FCs.out _ _ HP2.out).mono ?_
      rintro e w3 ⟨rfl, hb⟩
      have HP3 := Lib.hid (HP2.out.below hb)
      have HK3 := Lib.hid (HK2.out.trans (Keep.of hb))
      have KQ3 := Lib.hid (KQ2.out.below hb KQ2.out.lt)
      clear hb HP2 HK2 KQ2
      go_wp2_with (refine Store.at_load 62 (.tmp 8) ?_ ?_; exact rfl; refine Loads.wpList_load_w rfl 62 (.tmp 8) rfl (w.heap.size + 1) rfl 62 (QA q) (0, 0) _ (KQ3.out) Try.underlying62 rfl (by kernel_rfl) ?_)
      refine (KC.out _ _ HP3.out).mono ?_
      rintro e w4 ⟨rfl, es4, hp4, hk4⟩
      have HP4 := Lib.hid hp4
      have HK4 := Lib.hid (HK3.out.trans hk4)
      clear hp4 hk4 HP3 HK3 KQ3 KC FCs RI
      rw [← HZ.out]
      by_cases m1 : z = -1
      · have g1 : (z == -1) = true := by rw [beq_iff_eq]; exact m1
        have e1 : Hid (findI rs q = 0) := Lib.hid (by rw [EI.out, if_pos m1])
        have e2 : Hid (findE rs q = 6) := Lib.hid (by rw [EE.out, if_pos m1])
        clear m1 HZ
        go_wp2_with fail
        go_ret2
        exact ⟨by rw [e1.out, e2.out]; rfl, _, HP4.out, HK4.out⟩
      · have g1 : (z == -1) = false := by rw [beq_eq_false_iff_ne]; exact m1
        have e1 : Hid (findI rs q = z) := Lib.hid (by rw [EI.out, if_neg m1])
        have e2 : Hid (findE rs q = 0) := Lib.hid (by rw [EE.out, if_neg m1])
        clear m1 HZ
        go_wp2_with fail
        go_ret2
        exact ⟨by rw [e1.out, e2.out]; rfl, _, HP4.out, HK4.out⟩
    · obtain rfl := RI.out rfl
      clear KC FCs RI KQ2
      by_cases m1 : u0 = -1
      · have g1 : (u0 == -1) = true := by rw [beq_iff_eq]; exact m1
        have e1 : Hid (findI rs q = 0) := Lib.hid (by rw [EI.out, if_pos m1])
        have e2 : Hid (findE rs q = 6) := Lib.hid (by rw [EE.out, if_pos m1])
        clear m1 HZ
        go_wp2_with fail
        go_ret2
        exact ⟨by rw [e1.out, e2.out]; rfl, _, HP2.out, HK2.out⟩
      · have g1 : (u0 == -1) = false := by rw [beq_eq_false_iff_ne]; exact m1
        have e1 : Hid (findI rs q = u0) := Lib.hid (by rw [EI.out, if_neg m1])
        have e2 : Hid (findE rs q = 0) := Lib.hid (by rw [EE.out, if_neg m1])
        clear m1 HZ
        go_wp2_with fail
        go_ret2
        exact ⟨by rw [e1.out, e2.out]; rfl, _, HP2.out, HK2.out⟩
theorem find_code (F : Nat → Prop) (gs : Nat) (rs : List RuleR) (q : Qu) (w : World) (h : SpdAt F w gs rs) (h1 : q.here.size ≤ maxT) (h2 : q.there.size ≤ maxT) :
    Calls Try.prog 12 #[.pointer (some ⟨gs, 0, none⟩), .agg (FA q), .bool q.out] w fun e w' => e = .returned (.tuple #[.int .i64 (findI rs q), .int .i64 (findE rs q)]) ∧ SpdAt F w' gs rs ∧ Keep F w w' := by
  obtain ⟨gm, A, c, es, hp⟩ := Pol.of h
  refine (find_pol F gs gm A _ c rs es q w hp h.few h1 h2).mono ?_
  rintro e w' ⟨rfl, es', hp', hk⟩
  exact ⟨rfl, hp'.at h.ok h.few, hk⟩
end Go.Proofs.Ytmomkjgnopcobaa.Spd5
