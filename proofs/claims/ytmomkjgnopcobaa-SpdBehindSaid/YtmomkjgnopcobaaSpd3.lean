/- The code's first. -/
import Derived.Test.YtmomkjgnopcobaaSpd1
set_option linter.unusedVariables false
namespace Go.Proofs.Ytmomkjgnopcobaa.Spd3
open Go.RowKit Go.Proofs.Ytmomkjgnopcobaa.Mem Go.Proofs.Ytmomkjgnopcobaa.Blk Go.Proofs.Ytmomkjgnopcobaa.Ahead Go.Proofs.Ytmomkjgnopcobaa.PickD Go.Proofs.Ytmomkjgnopcobaa.PickR1 Go.Proofs.Ytmomkjgnopcobaa.PickR2 Go.Proofs.Ytmomkjgnopcobaa.Pick1 Go.Proofs.Ytmomkjgnopcobaa.Pick2 Go.Proofs.Ytmomkjgnopcobaa.Pick3 Go.Proofs.Ytmomkjgnopcobaa.Pick4 Go.Proofs.Ytmomkjgnopcobaa.Free Go.Proofs.Ytmomkjgnopcobaa.Steps Go.Proofs.Ytmomkjgnopcobaa.Regs Go.Proofs.Ytmomkjgnopcobaa.ArgT Go.Proofs.Ytmomkjgnopcobaa.MapK Go.Proofs.Ytmomkjgnopcobaa.Quest Go.Proofs.Ytmomkjgnopcobaa.RowN Go.Proofs.Ytmomkjgnopcobaa.SpdD Go.Proofs.Ytmomkjgnopcobaa.Spd1

theorem flat_at : ∀ (rs : List RuleR) (i : Nat) (r : RuleR), rs[i]? = some r → ((rs.flatMap RuleR.cells).drop (i * 16)).take 16 = r.cells
  | a :: rs, 0, r, h => by
    obtain rfl : a = r := by simpa using h
    rw [Nat.zero_mul, List.drop_zero, List.flatMap_cons]
    exact List.take_left' (len_ra a)
  | a :: rs, i + 1, r, h => by
    rw [List.flatMap_cons, show (i + 1) * 16 = a.cells.length + i * 16 by rw [len_ra]; omega, List.drop_length_add_append]
    exact flat_at rs i r (by simpa using h)
theorem flat_len : ∀ rs : List RuleR, (rs.flatMap RuleR.cells).length = rs.length * 16
  | [] => rfl
  | a :: rs => by rw [List.flatMap_cons, List.length_append, flat_len rs, len_ra, List.length_cons]; omega
/-- A rule's cells in the policy's row. -/
theorem row_rule {w : World} {b n c : Nat} {rs : List RuleR} (h : RowAt InsR.RT 16 w (some ⟨b, 0, none⟩) n c (rs.flatMap RuleR.cells)) {i : Nat} {r : RuleR} (hr : rs[i]? = some r) : Part.At w b (i * 16) r.cells := fun j v hj => by
  refine h.cell rfl ?_
  rw [← flat_at rs i r hr, List.getElem?_take] at hj
  split at hj
  · rwa [List.getElem?_drop] at hj
  · cases hj
theorem first_some {rs : List RuleR} {q : Qu} {i : Nat} {r : RuleR} (hr : rs[i]? = some r) (ha : apB r q = true) (hb : ∀ k r', k < i → rs[k]? = some r' → apB r' q = false) : firstI rs q = (i : Int) := by
  have h : firstN rs q = some i := by
    unfold firstN
    rw [List.findIdx?_eq_some_iff_getElem]
    obtain ⟨hi, he⟩ := List.getElem?_eq_some_iff.1 hr
    refine ⟨hi, by rw [he]; exact ha, fun j hj => ?_⟩
    rw [hb j _ hj (List.getElem?_eq_getElem (by omega))]
    simp
  unfold firstI
  rw [h]
theorem first_none {rs : List RuleR} {q : Qu} (hb : ∀ k r', k < rs.length → rs[k]? = some r' → apB r' q = false) : firstI rs q = -1 := by
  have h : firstN rs q = none := by
    unfold firstN
    rw [List.findIdx?_eq_none_iff]
    intro x hx
    obtain ⟨k, hk⟩ := List.mem_iff_getElem?.1 hx
    exact hb k x (List.getElem?_eq_some_iff.1 hk).1 hk
  unfold firstI
  rw [h]
set_option maxRecDepth 100000 in
set_option maxHeartbeats 2000000 in
theorem first_code (gs gm : Nat) (A : Option Addr) (n c : Nat) (rs : List RuleR) (q : Qu) (w : World) (hs : Blk w gs 56 #[.slice A n c, .map (some gm)]) (hrow : RowAt InsR.RT 16 w A n c (rs.flatMap RuleR.cells)) (hn : rs.length = n) (hm : n ≤ 64) :
    Calls Try.prog 20 #[.pointer (some ⟨gs, 0, none⟩), .agg (QA q)] w fun e w' => e = .returned (.int .i64 (firstI rs q)) ∧ Below w.heap.size w w' := by
  have K0 := Lib.hid (Blk.new w 62 (QA q))
  have B0 := Lib.hid ((Below.refl w.heap.size w).alloc (Nat.le_refl _) (.cells (QA q) 62))
  have c0 : (w.alloc (.cells (QA q) 62)).cell? ⟨gs, 0, none⟩ = some (.slice A n c) := (hs.alloc _).cell 0
  have R0 := Lib.hid (hrow.below ((Below.refl w.heap.size w).alloc (Nat.le_refl _) (.cells (QA q) 62)))
  have RN := Lib.hid hn
  clear hs hrow hn
  go_enter Try.func20, Try.ntmps20
  go_wp2_with fail
  clear c0
  obtain ⟨w1, hw1⟩ : ∃ w1, w1 = w.alloc (.cells (QA q) 62) := ⟨_, rfl⟩
  rw [← hw1] at K0 B0 R0 ⊢
  have HW := Lib.hid hw1
  clear hw1
  go_loopw [12] (fun iv wr => ∃ i : Nat, iv = .int .i64 (i : Int) ∧ i ≤ n ∧ Hid (∀ (k : Nat) (r : RuleR), k < i → rs[k]? = some r → apB r q = false) ∧ Hid (Below w1.heap.size w1 wr)) (fun iv _ => n - (intOf iv).toNat)
  case atStart => exact ⟨0, rfl, by omega, Lib.hid fun k r hk => absurd hk (by omega), Lib.hid (Below.refl _ _)⟩
  case round =>
    obtain ⟨i, rfl, hi, HS, HB⟩ := hrel
    by_cases hlt : i < n
    · obtain ⟨b, X, rfl, hX, -, -⟩ := R0.out.some (by omega)
      have hbl := hX.lt
      clear hX
      have hr : rs[i]? = some (rs[i]'(by rw [RN.out]; exact hlt)) := List.getElem?_eq_getElem _
      generalize rs[i]'(by rw [RN.out]; exact hlt) = r at hr
      have HR := Lib.hid hr
      have CL : Hid (Part.At wr b (i * 16) r.cells) := Lib.hid ((row_rule R0.out hr).below HB.out hbl)
      have RP : (loadVar 35 ⟨b, i * 16, none⟩).run Try.prog wr = .ok (.agg (RA r)) wr := Part.run_part wr b (i * 16) 35 r.cells _ Try.underlying35 rfl (by kernel_rfl) CL.out
      have J := Blk.new wr 35 #[.int .i64 0, .string ⟨#[]⟩, .string ⟨#[]⟩, .string ⟨#[]⟩, .string ⟨#[]⟩, .int .i64 0, .int .i64 0, .int .i64 0, .int .i64 0, .int .i64 0, .bool false, .bool false, .int .i64 0, .bool false, .string ⟨#[]⟩, .string ⟨#[]⟩]
      have NK := Lib.hid (Part.setRow_blk J (RA r))
      have BX := Lib.hid (Part.setRow_bel ((Below.refl wr.heap.size wr).alloc (Nat.le_refl _) (.cells #[.int .i64 0, .string ⟨#[]⟩, .string ⟨#[]⟩, .string ⟨#[]⟩, .string ⟨#[]⟩, .int .i64 0, .int .i64 0, .int .i64 0, .int .i64 0, .int .i64 0, .bool false, .bool false, .int .i64 0, .bool false, .string ⟨#[]⟩, .string ⟨#[]⟩] 35)) (Nat.le_refl _) (RA r))
      have HX := Lib.hid (HB.out.trans (BX.out.mono HB.out.size))
      have KQ := Lib.hid (K0.out.below HX.out K0.out.lt)
      have one := Lib.hid (all_ra r)
      have AC := Lib.hid (applies_code r q)
      clear hr CL
      go_wp2_with (first
        | (refine Store.at_load 35 (.tmp 15) ?_ ?_; exact rfl; refine Part.wpList_load_part rfl 35 (.tmp 15) rfl b (i * 16) [.int .i64 r.x0, .string r.x1, .string r.x2, .string r.x3, .string r.x4, .int .i64 r.x5, .int .i64 r.x6, .int .i64 r.x7, .int .i64 r.x8, .int .i64 r.x9, .bool r.x10, .bool r.x11, .int .i64 r.x12, .bool r.x13, .string r.x14, .string r.x15] rfl RP ?_)
        | (refine Store.at_store 35 (.tmp 6) (.tmp 16) ?_ ?_; exact rfl; refine wpList_store_row rfl 35 (.tmp 6) (.tmp 16) rfl wr.heap.size (RA r) rfl rfl 35 _ J (by kernel_rfl) rfl one.out ?_)
        | (refine Store.at_load 35 (.tmp 6) ?_ ?_; exact rfl; refine Loads.wpList_load_w rfl 35 (.tmp 6) rfl wr.heap.size rfl 35 (RA r) (0, 0) _ (NK.out) Try.underlying35 rfl (by kernel_rfl) ?_)
        | (refine Store.at_load 62 (.tmp 3) ?_ ?_; exact rfl; refine Loads.wpList_load_w rfl 62 (.tmp 3) rfl w.heap.size rfl 62 (QA q) (0, 0) _ (KQ.out) Try.underlying62 rfl (by kernel_rfl) ?_))
      refine (AC.out _).mono ?_
      rintro e w5 ⟨rfl, hb⟩
      have BN := Lib.hid (HX.out.trans (hb.mono HX.out.size))
      clear J RP NK BX HX KQ one AC hb
      obtain ⟨z, hz⟩ : ∃ z, apB r q = z := ⟨_, rfl⟩
      rw [hz]
      have HZ := Lib.hid hz
      clear hz
      cases z
      · have HN : Hid (∀ (k : Nat) (r' : RuleR), k < i + 1 → rs[k]? = some r' → apB r' q = false) := Lib.hid fun k r' hk h' => by
          rcases Nat.lt_or_ge k i with z | z
          · exact HS.out k r' z h'
          · obtain rfl : k = i := by omega
            rw [Option.some.inj (h'.symm.trans HR.out)]
            exact HZ.out
        clear HS
        go_wp2_with fail
        go_roundw
        case rel => exact ⟨i + 1, by go_num, by omega, HN, BN⟩
        case measure => simp [intOf]; omega
      · have E := Lib.hid (first_some HR.out HZ.out HS.out)
        clear HS
        go_wp2_with fail
        go_ret
        exact ⟨by rw [E.out]; rfl, B0.out.trans (BN.out.mono B0.out.size)⟩
    · have E : Hid (firstI rs q = -1) := Lib.hid (first_none fun k r hk => HS.out k r (by rw [RN.out] at hk; omega))
      clear HS
      go_wp2_with fail
      go_ret
      exact ⟨by rw [E.out]; rfl, B0.out.trans (HB.out.mono B0.out.size)⟩
end Go.Proofs.Ytmomkjgnopcobaa.Spd3
