/- SpdFirst's walk. -/
import Derived.Test.YtmomkjgnopcobaaLawPl0
set_option linter.unusedVariables false
namespace Go.Proofs.Ytmomkjgnopcobaa.LawFirst16
open Go.RowKit Go.Proofs.Ytmomkjgnopcobaa.Mem Go.Proofs.Ytmomkjgnopcobaa.Blk Go.Proofs.Ytmomkjgnopcobaa.Ahead Go.Proofs.Ytmomkjgnopcobaa.PickD Go.Proofs.Ytmomkjgnopcobaa.PickR1 Go.Proofs.Ytmomkjgnopcobaa.PickR2 Go.Proofs.Ytmomkjgnopcobaa.Pick1 Go.Proofs.Ytmomkjgnopcobaa.Pick2 Go.Proofs.Ytmomkjgnopcobaa.Pick3 Go.Proofs.Ytmomkjgnopcobaa.Pick4 Go.Proofs.Ytmomkjgnopcobaa.Free Go.Proofs.Ytmomkjgnopcobaa.Steps Go.Proofs.Ytmomkjgnopcobaa.Regs Go.Proofs.Ytmomkjgnopcobaa.ArgT Go.Proofs.Ytmomkjgnopcobaa.MapK Go.Proofs.Ytmomkjgnopcobaa.Quest Go.Proofs.Ytmomkjgnopcobaa.RowN Go.Proofs.Ytmomkjgnopcobaa.SpdD Go.Proofs.Ytmomkjgnopcobaa.Spd1 Go.Proofs.Ytmomkjgnopcobaa.Spd3 Go.Proofs.Ytmomkjgnopcobaa.Spd4 Go.Proofs.Ytmomkjgnopcobaa.Spd5 Go.Proofs.Ytmomkjgnopcobaa.Spd6 Go.Proofs.Ytmomkjgnopcobaa.Spd7 Go.Proofs.Ytmomkjgnopcobaa.Spd8 Go.Proofs.Ytmomkjgnopcobaa.SpdA Go.Proofs.Ytmomkjgnopcobaa.Com Go.Sort Go.Proofs.Ytmomkjgnopcobaa.LawL16 Go.Proofs.Ytmomkjgnopcobaa.Few16 Go.Proofs.Ytmomkjgnopcobaa.LawPl0
attribute [local irreducible] wpQuiet
theorem first_inv (rs : List RuleR) (q : Qu) : (firstI rs q = -1 ∧ ∀ (k : Nat) (r : RuleR), rs[k]? = some r → apB r q = false) ∨ ∃ j : Nat, firstI rs q = (j : Int) ∧ j < rs.length ∧ ∀ (k : Nat) (r : RuleR), k ≤ j → rs[k]? = some r → apB r q = decide (k = j) := by
  cases h : firstN rs q with
  | none =>
    left
    refine ⟨by unfold firstI; rw [h], fun k r hr => ?_⟩
    unfold firstN at h
    rw [List.findIdx?_eq_none_iff] at h
    exact h r (List.mem_of_getElem? hr)
  | some j =>
    right
    have e : firstI rs q = (j : Int) := by unfold firstI; rw [h]
    unfold firstN at h
    rw [List.findIdx?_eq_some_iff_getElem] at h
    obtain ⟨hj, hp, hb⟩ := h
    refine ⟨j, e, hj, fun k r hk hr => ?_⟩
    obtain ⟨hlt, he⟩ := List.getElem?_eq_some_iff.1 hr
    by_cases hkj : k = j
    · subst hkj
      rw [he] at hp
      rw [hp, decide_eq_true rfl]
    · have := hb k (by omega)
      rw [he] at this
      rw [decide_eq_false hkj]
      simpa using this
theorem ent_matches : Enters Try.prog 13 := enters_of Try.func13 (by kernel_rfl) rfl
theorem mat_is (r : RuleR) (q : Qu) (v : Bool) (h : matB (pkR r) (flQ q) = v) (W : World) : Calls Try.prog 13 #[.agg #[.string r.x1, .string r.x2, .string r.x3, .string r.x4, .int .i64 r.x5, .int .i64 r.x6, .int .i64 r.x7, .int .i64 r.x8, .int .i64 r.x9], .agg (FA q)] W fun e w' => e = .returned (.bool v) ∧ Below W.heap.size W w' := by
  subst h
  exact matches_code (pkR r) (flQ q) W
set_option maxRecDepth 100000 in
set_option maxHeartbeats 16000000 in
theorem first_any (A0 : Option Addr) (n0 c0 : Nat) (ops : List Op16R) (a b : ByteArray) (x y z : Int) (out : Bool) (w : World) (h : Op16Rows w A0 n0 ops) (za : a.size ≤ 140737488355328 ∧ b.size ≤ 140737488355328) :
    Calls Try.prog 3 #[.slice A0 n0 c0, .agg (FA ⟨a, b, x, y, z, out⟩), .bool out] w fun e w' => e = .returned (.bool true) ∧ Below w.heap.size w w' := by
  have B0 := Lib.hid ((Below.refl w.heap.size w).alloc (Nat.le_refl _) (.cells (FA ⟨a, b, x, y, z, out⟩) 24))
  have K0 := Lib.hid (Blk.new w 24 (FA ⟨a, b, x, y, z, out⟩))
  have H0 := Lib.hid (ops_below h B0.out)
  have F1 := Lib.hid (few_any A0 n0 c0 ops _ H0.out trivial)
  have wr0 : IntKind.i64.wrap ((a.size : Int) + (b.size : Int)) = (a.size : Int) + (b.size : Int) := IntWalk.i64_in _ (by omega)
  have SA : Hid (a.size ≤ maxT ∧ b.size ≤ maxT) := Lib.hid (by unfold maxT; omega)
  clear h za
  go_enter Try.func3, Try.ntmps3
  go_wp2_with fail
  refine F1.out.mono ?_
  rintro e w1 ⟨fb, rfl, hfb, hb⟩
  have B1 := Lib.hid (B0.out.trans (hb.mono B0.out.size))
  have K1 := Lib.hid (K0.out.below hb K0.out.lt)
  have H1 := Lib.hid (ops_below H0.out hb)
  have FW := Lib.hid hfb
  have c0 : w1.cell? ⟨w.heap.size, 0, none⟩ = some (.string a) := K1.out.cell 0
  have c1 : w1.cell? ⟨w.heap.size, 1, none⟩ = some (.string b) := K1.out.cell 1
  clear hb hfb F1 B0 K0 H0
  cases fb
  · go_wp2_with fail
    go_ret
    exact ⟨rfl, B1.out⟩
  have N120 := Lib.hid (FW.out (by simp)).1
  clear FW
  by_cases q3 : 300 < a.size + b.size
  · have g3 : decide ((300 : Int) < (a.size : Int) + (b.size : Int)) = true := decide_eq_true (by omega)
    clear q3
    go_wp2_with fail
    go_ret
    exact ⟨rfl, B1.out⟩
  have g3 : decide ((300 : Int) < (a.size : Int) + (b.size : Int)) = false := decide_eq_false (by omega)
  have NC := Lib.hid (new_code (fun k => k < w1.heap.size) w1 (fun k h => h))
  clear q3
  go_wp2_with fail
  refine NC.out.mono ?_
  rintro e w3 ⟨⟨gs, rfl, h3⟩, b3⟩
  obtain ⟨F, hFd⟩ : ∃ F : Nat → Prop, F = fun k => k < w1.heap.size := ⟨_, rfl⟩
  rw [← hFd] at h3
  have FIN : Hid (∀ k, k < w1.heap.size → F k) := Lib.hid (by rw [hFd]; exact fun k h => h)
  have FLT : Hid (∀ k, F k → k < w1.heap.size) := Lib.hid (by rw [hFd]; exact fun k h => h)
  have H3 := Lib.hid h3
  have K3 := Lib.hid (Keep.of (F := F) b3)
  clear hFd h3 b3 NC c0 c1 g3 wr0
  go_wp2_with fail
  go_loopw [8] (fun iv wr => ∃ (i : Nat) (rs : List RuleR), iv = .int .i64 (i : Int) ∧ i ≤ n0 ∧ Hid (SpdAt F wr gs rs) ∧ Hid (Keep F w1 wr)) (fun iv _ => n0 - (intOf iv).toNat)
  case atStart => exact ⟨0, [], rfl, by omega, H3, K3⟩
  case round =>
    clear H3 K3
    obtain ⟨i, rs, rfl, hi, HS, HK⟩ := hrel
    have HF : Hid (∀ k, F k → k < wr.heap.size) := Lib.hid fun k hk => Nat.lt_of_lt_of_le (FLT.out k hk) HK.out.size
    by_cases hlt : i < n0
    · obtain ⟨b, o, op, rfl, hbl, hop, hok, hcl⟩ := ops_at H1.out hlt
      have LT := Lib.hid hlt
      have OKR := Lib.hid (ruO_ok hok)
      have CL := Lib.hid (at_keep hcl hbl (FIN.out _ hbl) HK.out)
      have BL := Lib.hid (Nat.lt_of_lt_of_le hbl HK.out.size)
      have nb := N120.out
      have d0 : wr.cell? ⟨b, o + i * 24, none⟩ = some (.int .i64 op.x0) := CL.out 0 _ rfl
      have d1 : wr.cell? ⟨b, o + i * 24 + 1, none⟩ = some (.int .i64 op.x1) := CL.out 1 _ rfl
      clear hop hok hcl hbl
      by_cases q1 : op.x0 = 1
      · have g1 : (op.x0 == 1) = true := by rw [beq_iff_eq]; exact q1
        have RC8 := Lib.hid (remove_code F gs rs op.x1 wr HS.out HF.out)
        clear q1
        go_wp2_with fail
        refine RC8.out.mono ?_
        rintro e w9 ⟨rfl, h9, k9⟩
        have HS3 := Lib.hid h9
        have HK3 := Lib.hid (HK.out.trans k9)
        clear RC8 h9 k9 HS HK HF CL BL OKR LT d0 d1 g1
        go_wp2_with fail
        go_roundw
        case rel => exact ⟨i + 1, _, by go_num, by omega, HS3, HK3⟩
        case measure => simp [intOf]; omega
      · have g1 : (op.x0 == 1) = false := by rw [beq_eq_false_iff_ne]; exact q1
        clear q1
        go_wp2_with fail
        clear d0 d1 g1
        have XO : Hid (∀ V, Below wr.drew.heap.size wr.drew V → Part.At V b (o + i * 24) op.cells) := Lib.hid fun V hV => Part.At.below (show Part.At wr.drew b (o + i * 24) op.cells from CL.out) hV BL.out
        refine wp_region_free [0, 1, 2, 3, 4, 5, 6, 7, 8, 9, 10] 11 [] (fun w1 w2 => Below w1.heap.size w1 w2) (fun k' w' v => match k' with
          | 0 => v = .pointer (some ⟨gs, 0, none⟩)
          | 1 => v = .slice (some ⟨b, o, none⟩) n0 c0
          | 2 => v = .int .i64 (((i : Nat) : Int))
          | 3 => v = .pointer (some ⟨b, o + i * 24, none⟩)
          | 4 => v = .pointer (some ⟨b, o + i * 24 + 1, none⟩)
          | 5 => v = .int .i64 op.x1
          | 6 => v = .slice (some ⟨b, o, none⟩) n0 c0
          | 7 => v = .int .i64 (((i : Nat) : Int))
          | 8 => v = .pointer (some ⟨b, o + i * 24, none⟩)
          | 9 => v = .pointer (some ⟨b, o + i * 24 + 2, none⟩)
          | _ => v = .agg (RA (ruO op))) (by kernel_rfl) (by kernel_rfl) (Below.refl _ _) (fun _ _ _ h k => h.trans (k.mono h.size)) (fun k' w1 w2 v h => match k' with
          | 0 => fun x => x
          | 1 => fun x => x
          | 2 => fun x => x
          | 3 => fun x => x
          | 4 => fun x => x
          | 5 => fun x => x
          | 6 => fun x => x
          | 7 => fun x => x
          | 8 => fun x => x
          | 9 => fun x => x
          | _ + 10 => fun x => x) (fun _ _ _ _ _ h => h) ?_ _ (by rfl) ?_
        · refine obs_cons (by rfl) (fun vals w' hgr hdep K hK => ?_) (obs_cons (by rfl) (fun vals w' hgr hdep K hK => ?_) (obs_cons (by rfl) (fun vals w' hgr hdep K hK => ?_) (obs_cons (by rfl) (fun vals w' hgr hdep K hK => ?_) (obs_cons (by rfl) (fun vals w' hgr hdep K hK => ?_) (obs_cons (by rfl) (fun vals w' hgr hdep K hK => ?_) (obs_cons (by rfl) (fun vals w' hgr hdep K hK => ?_) (obs_cons (by rfl) (fun vals w' hgr hdep K hK => ?_) (obs_cons (by rfl) (fun vals w' hgr hdep K hK => ?_) (obs_cons (by rfl) (fun vals w' hgr hdep K hK => ?_) (obs_cons (by rfl) (fun vals w' hgr hdep K hK => ?_) (obs_nil)))))))))))
          · exact wp_move (.tmp 7) rfl _ (at_out _ (by kernel_rfl) rfl) (hK _ _ (Below.refl _ _) rfl)
          · exact wp_move (.tmp 0) rfl _ (at_out _ (by kernel_rfl) rfl) (hK _ _ (Below.refl _ _) rfl)
          · exact wp_move (.tmp 8) rfl _ (at_out _ (by kernel_rfl) rfl) (hK _ _ (Below.refl _ _) rfl)
          · exact Part.st_elem_at (.tmp 50) (.tmp 51) rfl Try.underlying22 (by kernel_rfl) b o n0 c0 i ((at_dst 1 (by kernel_rfl)).trans (hdep 1 (by simp) (by kernel_rfl))) ((at_dst 2 (by kernel_rfl)).trans (hdep 2 (by simp) (by kernel_rfl))) LT.out (hK _ _ (Below.refl _ _) rfl)
          · exact wp_field (.tmp 52) rfl _ (.pointer (some ⟨b, o + i * 24 + 1, none⟩)) ((at_dst 3 (by kernel_rfl)).trans (hdep 3 (by simp) (by kernel_rfl))) (by kernel_rfl) (hK _ _ (Below.refl _ _) rfl)
          · exact wp_load1 (.tmp 53) rfl ⟨b, o + i * 24 + 1, none⟩ ((at_dst 4 (by kernel_rfl)).trans (hdep 4 (by simp) (by kernel_rfl))) Try.underlying3 rfl _ (XO.out w' hgr 1 _ rfl) (hK _ _ (Below.refl _ _) rfl)
          · exact wp_move (.tmp 0) rfl _ (at_out _ (by kernel_rfl) rfl) (hK _ _ (Below.refl _ _) rfl)
          · exact wp_move (.tmp 8) rfl _ (at_out _ (by kernel_rfl) rfl) (hK _ _ (Below.refl _ _) rfl)
          · exact Part.st_elem_at (.tmp 55) (.tmp 56) rfl Try.underlying22 (by kernel_rfl) b o n0 c0 i ((at_dst 6 (by kernel_rfl)).trans (hdep 6 (by simp) (by kernel_rfl))) ((at_dst 7 (by kernel_rfl)).trans (hdep 7 (by simp) (by kernel_rfl))) LT.out (hK _ _ (Below.refl _ _) rfl)
          · exact wp_field (.tmp 57) rfl _ (.pointer (some ⟨b, o + i * 24 + 2, none⟩)) ((at_dst 8 (by kernel_rfl)).trans (hdep 8 (by simp) (by kernel_rfl))) (by kernel_rfl) (hK _ _ (Below.refl _ _) rfl)
          · exact Part.st_load_part 35 (.tmp 58) rfl b (o + i * 24 + 2) [.int .i64 op.x2, .string op.x3, .string op.x4, .string op.x5, .string op.x6, .int .i64 op.x7, .int .i64 op.x8, .int .i64 op.x9, .int .i64 op.x10, .int .i64 op.x11, .bool op.x12, .bool op.x13, .int .i64 op.x14, .bool op.x15, .string op.x16, .string op.x17] ((at_dst 9 (by kernel_rfl)).trans (hdep 9 (by simp) (by kernel_rfl))) (Part.run_part _ _ _ _ _ _ Try.underlying35 rfl (by kernel_rfl) ((XO.out w' hgr).sub 2 16)) (hK _ _ (Below.refl _ _) rfl)
        · intro vals w' hgr hG
          refine wp_call 10 [.tmp 49, .tmp 54, .tmp 59] _ rfl ent_add [.pointer (some ⟨gs, 0, none⟩), .int .i64 op.x1, .agg (RA (ruO op))] (Spd7.list3 ((at_dst 0 (by kernel_rfl)).trans (hG 0 (by simp))) ((at_dst 5 (by kernel_rfl)).trans (hG 5 (by simp))) ((at_dst 10 (by kernel_rfl)).trans (hG 10 (by simp)))) (fun v w3 => (∃ k, v = .int .i64 k) ∧ SpdAt F w3 gs (addL rs op.x1 (ruO op)) ∧ Keep F w' w3) ((add_code F gs rs op.x1 (ruO op) w' (HS.out.below (Draw.below_1 hgr)) (fun k hk => Nat.lt_of_lt_of_le (HF.out k hk) (Draw.below_1 hgr).size) OKR.out).mono fun e w3 ⟨h1, h2, h3⟩ => ⟨_, h1, ⟨_, rfl⟩, h2, h3⟩) ?_
          rintro v w3 ⟨⟨k, rfl⟩, h3, k3⟩
          refine wpAnyH_done (by kernel_rfl) ?_ _
          have HS3 := Lib.hid h3
          have HK3 := Lib.hid (HK.out.trans ((Keep.of (F := F) (Draw.below_1 hgr)).trans k3))
          clear hG hgr h3 k3 XO HS HK
          simp only [fill, dstAt, List.getElem?_cons_zero, List.getElem?_cons_succ, Option.bind_some, Act.put, List.setIfInBounds_toArray, List.set_cons_zero, List.set_cons_succ]
          generalize vals 0 = u0, vals 1 = u1, vals 2 = u2, vals 3 = u3, vals 4 = u4, vals 5 = u5, vals 6 = u6, vals 7 = u7, vals 8 = u8, vals 9 = u9, vals 10 = u10 at *
          go_wp2_with fail
          go_roundw
          case rel => exact ⟨i + 1, _, by go_num, by omega, HS3, HK3⟩
          case measure => simp [intOf]; omega
    · have LC := Lib.hid (list_code F gs rs wr HS.out)
      go_wp2_with fail
      refine LC.out.mono ?_
      rintro e w5 ⟨⟨A1, rfl, l1, o1⟩, b5⟩
      have S5 := Lib.hid (wide HS.out b5)
      have L5 := Lib.hid l1
      have OW1 : Hid (∀ k, own A1 k → Fu F wr.heap.size w5.heap.size k) := Lib.hid (list_in l1 o1)
      have K5 := Lib.hid (HK.out.trans (Keep.of b5))
      have R5 := Lib.hid (show Blk w5 w.heap.size 24 (FA ⟨a, b, x, y, z, out⟩) from (K5.out.block _ (FIN.out _ K1.out.lt) K1.out.lt).trans K1.out)
      have FC := Lib.hid (find_code (Fu F wr.heap.size w5.heap.size) gs rs (⟨a, b, x, y, z, out⟩ : Qu) w5 S5.out SA.out.1 SA.out.2)
      have M64 := Lib.hid S5.out.few
      clear l1 o1 b5 LC HS HK HF S5
      obtain ⟨m, hm⟩ : ∃ m, m = rs.length := ⟨_, rfl⟩
      have ML := Lib.hid hm
      rw [← hm] at M64
      rw [← hm]
      clear hm
      go_wp2_with (refine Store.at_load 24 (.tmp 4) ?_ ?_; exact rfl; refine Loads.wpList_load_w rfl 24 (.tmp 4) rfl w.heap.size rfl 24 (FA ⟨a, b, x, y, z, out⟩) (0, 0) _ (R5.out) Try.underlying24 rfl (by kernel_rfl) ?_)
      refine FC.out.mono ?_
      rintro e w6 ⟨rfl, -, k6⟩
      have KW := Lib.hid (K5.out.trans (k6.mono fun k hk _ => .inl hk))
      have L6 := Lib.hid (list_keepG L5.out OW1.out k6)
      have K6 := Lib.hid (show Blk w6 w.heap.size 24 (FA ⟨a, b, x, y, z, out⟩) from (KW.out.block _ (FIN.out _ K1.out.lt) K1.out.lt).trans K1.out)
      clear k6 FC K5 R5 L5 OW1
      rcases first_inv rs (⟨a, b, x, y, z, out⟩ : Qu) with ⟨hf, hal⟩ | ⟨j, hf, hj, hal⟩
      · have e1 : findI rs (⟨a, b, x, y, z, out⟩ : Qu) = 0 := if_pos hf
        have e2 : findE rs (⟨a, b, x, y, z, out⟩ : Qu) = 6 := if_pos hf
        have AL := Lib.hid hal
        rw [e1, e2]
        clear hf hal e1 e2
        go_wp2_with fail
        go_loopw [12] (fun iv wr => ∃ i : Nat, iv = .int .i64 (i : Int) ∧ i ≤ m ∧ i ≤ m + 1 ∧ Hid (Below w6.heap.size w6 wr)) (fun iv _ => m - (intOf iv).toNat)
        case atStart => exact ⟨0, rfl, by omega, by omega, Lib.hid (Below.refl _ _)⟩
        case round =>
          obtain ⟨i, rfl, hi, hin, HB⟩ := hrel
          have mb := M64.out
          by_cases hlt : i < m ∧ i ≤ m
          · obtain ⟨hlt, hle⟩ := hlt
            have gl : decide ((i : Int) ≤ ((m : Nat) : Int)) = true := decide_eq_true (by omega)
            have gl' : decide (i ≤ m) = true := decide_eq_true hle
            obtain ⟨r, hr⟩ : ∃ r, rs[i]? = some r := ⟨_, List.getElem?_eq_getElem (by rw [← ML.out]; exact hlt)⟩
            obtain ⟨g1, X1, rfl, -, -⟩ := L6.out
            have AT : Part.At wr g1 (0 + i * 16) r.cells := list_at (L6.out.below HB.out) hr
            have gb : g1 < wr.heap.size := World.block_lt_of_cell? wr _ (AT 0 _ rfl)
            have AV : Hid (∀ d os, Part.At (grow (redrawn wr d) os) g1 (0 + i * 16) r.cells) := Lib.hid fun d os => AT.below (below_regrown wr d os) gb
            have FV : Hid (∀ d os, Blk (grow (redrawn wr d) os) w.heap.size 24 (FA ⟨a, b, x, y, z, out⟩)) := Lib.hid fun d os => Blk.below (K6.out.below HB.out K6.out.lt) (below_regrown wr d os) (Nat.lt_of_lt_of_le K6.out.lt HB.out.size)
            have cO : ∀ d os, (grow (redrawn wr d) os).cell? ⟨g1, i * 16 + 10, none⟩ = some (.bool r.x10) := fun d os => by have := AV.out d os 10 _ rfl; rwa [Nat.zero_add] at this
            have cI : ∀ d os, (grow (redrawn wr d) os).cell? ⟨g1, i * 16 + 11, none⟩ = some (.bool r.x11) := fun d os => by have := AV.out d os 11 _ rfl; rwa [Nat.zero_add] at this
            have p1 : ∀ d os, (grow (redrawn wr d) os).cell? ⟨g1, i * 16 + 1, none⟩ = some (.string r.x1) := fun d os => by have := AV.out d os 1 _ rfl; rwa [Nat.zero_add] at this
            have p2 : ∀ d os, (grow (redrawn wr d) os).cell? ⟨g1, i * 16 + 2, none⟩ = some (.string r.x2) := fun d os => by have := AV.out d os 2 _ rfl; rwa [Nat.zero_add] at this
            have p3 : ∀ d os, (grow (redrawn wr d) os).cell? ⟨g1, i * 16 + 3, none⟩ = some (.string r.x3) := fun d os => by have := AV.out d os 3 _ rfl; rwa [Nat.zero_add] at this
            have p4 : ∀ d os, (grow (redrawn wr d) os).cell? ⟨g1, i * 16 + 4, none⟩ = some (.string r.x4) := fun d os => by have := AV.out d os 4 _ rfl; rwa [Nat.zero_add] at this
            have p5 : ∀ d os, (grow (redrawn wr d) os).cell? ⟨g1, i * 16 + 5, none⟩ = some (.int .i64 r.x5) := fun d os => by have := AV.out d os 5 _ rfl; rwa [Nat.zero_add] at this
            have p6 : ∀ d os, (grow (redrawn wr d) os).cell? ⟨g1, i * 16 + 6, none⟩ = some (.int .i64 r.x6) := fun d os => by have := AV.out d os 6 _ rfl; rwa [Nat.zero_add] at this
            have p7 : ∀ d os, (grow (redrawn wr d) os).cell? ⟨g1, i * 16 + 7, none⟩ = some (.int .i64 r.x7) := fun d os => by have := AV.out d os 7 _ rfl; rwa [Nat.zero_add] at this
            have p8 : ∀ d os, (grow (redrawn wr d) os).cell? ⟨g1, i * 16 + 8, none⟩ = some (.int .i64 r.x8) := fun d os => by have := AV.out d os 8 _ rfl; rwa [Nat.zero_add] at this
            have p9 : ∀ d os, (grow (redrawn wr d) os).cell? ⟨g1, i * 16 + 9, none⟩ = some (.int .i64 r.x9) := fun d os => by have := AV.out d os 9 _ rfl; rwa [Nat.zero_add] at this
            have f0 : ∀ d os, (grow (redrawn wr d) os).cell? ⟨w.heap.size, 0, none⟩ = some (.string a) := fun d os => (FV.out d os).cell 0
            have f1 : ∀ d os, (grow (redrawn wr d) os).cell? ⟨w.heap.size, 1, none⟩ = some (.string b) := fun d os => (FV.out d os).cell 1
            have f2 : ∀ d os, (grow (redrawn wr d) os).cell? ⟨w.heap.size, 2, none⟩ = some (.int .i64 x) := fun d os => (FV.out d os).cell 2
            have f3 : ∀ d os, (grow (redrawn wr d) os).cell? ⟨w.heap.size, 3, none⟩ = some (.int .i64 y) := fun d os => (FV.out d os).cell 3
            have f4 : ∀ d os, (grow (redrawn wr d) os).cell? ⟨w.heap.size, 4, none⟩ = some (.int .i64 z) := fun d os => (FV.out d os).cell 4
            have AP := AL.out i r hr
            clear hr AT gb AV FV
            unfold apB at AP
            have ge : ((i : Int) == (m : Int)) = false := by rw [beq_eq_false_iff_ne]; omega
            rcases (show out = true ∨ out = false by cases out <;> simp) with rfl | rfl
            · have h1 : r.x10 = true ∨ r.x10 = false := by cases r.x10 <;> simp
              rcases h1 with g2 | g2
              · have hmv : matB (pkR r) (flQ (⟨a, b, x, y, z, true⟩ : Qu)) = false := by rw [g2] at AP; simpa using AP
                clear AP
                have MC := Lib.hid (mat_is r (⟨a, b, x, y, z, true⟩ : Qu) false hmv)
                clear hmv
                simp only [g2] at cO
                go_wp2_with fail
                refine wp_region_quiet_below (by kernel_rfl) (by kernel_rfl) ?_
                repeat (go_big_quiet_step (with_reducible exact Calls.regrown_of (MC.out _)))
                refine wpQuiet_nil ?_
                intro _ hw'
                obtain ⟨⟨dq, osq⟩, hw''⟩ := hw'
                subst hw''
                have HN := Lib.hid (HB.out.trans ((below_regrown wr dq osq).mono HB.out.size))
                clear cO cI p1 p2 p3 p4 p5 p6 p7 p8 p9 f0 f1 f2 f3 f4 HB MC
                generalize grow (redrawn wr dq) osq = wz at *
                go_wp2_with fail
                go_roundw
                case rel => exact ⟨i + 1, by go_num, by omega, by omega, HN⟩
                case measure => simp [intOf]; omega
              · clear AP
                simp only [g2] at cO
                go_wp2_with fail
                refine wp_region_quiet_below (by kernel_rfl) (by kernel_rfl) ?_
                repeat (go_big_quiet_step (fail))
                refine wpQuiet_nil ?_
                intro _ hw'
                obtain ⟨⟨dq, osq⟩, hw''⟩ := hw'
                subst hw''
                have HN := Lib.hid (HB.out.trans ((below_regrown wr dq osq).mono HB.out.size))
                clear cO cI p1 p2 p3 p4 p5 p6 p7 p8 p9 f0 f1 f2 f3 f4 HB
                generalize grow (redrawn wr dq) osq = wz at *
                go_wp2_with fail
                go_roundw
                case rel => exact ⟨i + 1, by go_num, by omega, by omega, HN⟩
                case measure => simp [intOf]; omega
            · have h1 : r.x11 = true ∨ r.x11 = false := by cases r.x11 <;> simp
              rcases h1 with g2 | g2
              · have hmv : matB (pkR r) (flQ (⟨a, b, x, y, z, false⟩ : Qu)) = false := by rw [g2] at AP; simpa using AP
                clear AP
                have MC := Lib.hid (mat_is r (⟨a, b, x, y, z, false⟩ : Qu) false hmv)
                clear hmv
                simp only [g2] at cI
                go_wp2_with fail
                refine wp_region_quiet_below (by kernel_rfl) (by kernel_rfl) ?_
                repeat (go_big_quiet_step (with_reducible exact Calls.regrown_of (MC.out _)))
                refine wpQuiet_nil ?_
                intro _ hw'
                obtain ⟨⟨dq, osq⟩, hw''⟩ := hw'
                subst hw''
                have HN := Lib.hid (HB.out.trans ((below_regrown wr dq osq).mono HB.out.size))
                clear cO cI p1 p2 p3 p4 p5 p6 p7 p8 p9 f0 f1 f2 f3 f4 HB MC
                generalize grow (redrawn wr dq) osq = wz at *
                go_wp2_with fail
                go_roundw
                case rel => exact ⟨i + 1, by go_num, by omega, by omega, HN⟩
                case measure => simp [intOf]; omega
              · clear AP
                simp only [g2] at cI
                go_wp2_with fail
                refine wp_region_quiet_below (by kernel_rfl) (by kernel_rfl) ?_
                repeat (go_big_quiet_step (fail))
                refine wpQuiet_nil ?_
                intro _ hw'
                obtain ⟨⟨dq, osq⟩, hw''⟩ := hw'
                subst hw''
                have HN := Lib.hid (HB.out.trans ((below_regrown wr dq osq).mono HB.out.size))
                clear cO cI p1 p2 p3 p4 p5 p6 p7 p8 p9 f0 f1 f2 f3 f4 HB
                generalize grow (redrawn wr dq) osq = wz at *
                go_wp2_with fail
                go_roundw
                case rel => exact ⟨i + 1, by go_num, by omega, by omega, HN⟩
                case measure => simp [intOf]; omega
          · by_cases hlm : i < m
            · have gl : decide ((i : Int) ≤ ((m : Nat) : Int)) = false := decide_eq_false (by omega)
              have gl' : decide (i ≤ m) = false := decide_eq_false (by omega)
              exfalso
              omega
            · have gm : decide ((i : Int) < (m : Int)) = false := decide_eq_false (by omega)
              have gm' : decide (i < m) = false := decide_eq_false hlm
              go_wp2_with fail
              refine (awake_any _).mono ?_
              rintro e wb ⟨rfl, bb⟩
              have BE := Lib.hid ((KW.out.trans (Keep.of HB.out)).trans (Keep.of bb))
              clear bb
              go_wp2_with fail
              go_ret
              exact ⟨rfl, B1.out.trans (BE.out.below B1.out.size (fun k hk => FIN.out k (Nat.lt_of_lt_of_le hk B1.out.size)))⟩
      · have e1 : findI rs (⟨a, b, x, y, z, out⟩ : Qu) = (j : Int) := (if_neg (by rw [hf]; omega)).trans hf
        have e2 : findE rs (⟨a, b, x, y, z, out⟩ : Qu) = 0 := if_neg (by rw [hf]; omega)
        have AL := Lib.hid hal
        rw [e1, e2]
        rw [← ML.out] at hj
        have gj : decide ((j : Int) < 0) = false := decide_eq_false (by omega)
        have gj2 : decide ((m : Int) < (j : Int)) = false := decide_eq_false (by omega)
        have gj3 : decide (m < j) = false := decide_eq_false (by omega)
        clear hf hal e1 e2
        go_wp2_with fail
        clear gj gj2 gj3
        go_loopw [12] (fun iv wr => ∃ i : Nat, iv = .int .i64 (i : Int) ∧ i ≤ m ∧ i ≤ j + 1 ∧ Hid (Below w6.heap.size w6 wr)) (fun iv _ => m - (intOf iv).toNat)
        case atStart => exact ⟨0, rfl, by omega, by omega, Lib.hid (Below.refl _ _)⟩
        case round =>
          obtain ⟨i, rfl, hi, hin, HB⟩ := hrel
          have mb := M64.out
          by_cases hlt : i < m ∧ i ≤ j
          · obtain ⟨hlt, hle⟩ := hlt
            have gl : decide ((i : Int) ≤ ((j : Nat) : Int)) = true := decide_eq_true (by omega)
            have gl' : decide (i ≤ j) = true := decide_eq_true hle
            obtain ⟨r, hr⟩ : ∃ r, rs[i]? = some r := ⟨_, List.getElem?_eq_getElem (by rw [← ML.out]; exact hlt)⟩
            obtain ⟨g1, X1, rfl, -, -⟩ := L6.out
            have AT : Part.At wr g1 (0 + i * 16) r.cells := list_at (L6.out.below HB.out) hr
            have gb : g1 < wr.heap.size := World.block_lt_of_cell? wr _ (AT 0 _ rfl)
            have AV : Hid (∀ d os, Part.At (grow (redrawn wr d) os) g1 (0 + i * 16) r.cells) := Lib.hid fun d os => AT.below (below_regrown wr d os) gb
            have FV : Hid (∀ d os, Blk (grow (redrawn wr d) os) w.heap.size 24 (FA ⟨a, b, x, y, z, out⟩)) := Lib.hid fun d os => Blk.below (K6.out.below HB.out K6.out.lt) (below_regrown wr d os) (Nat.lt_of_lt_of_le K6.out.lt HB.out.size)
            have cO : ∀ d os, (grow (redrawn wr d) os).cell? ⟨g1, i * 16 + 10, none⟩ = some (.bool r.x10) := fun d os => by have := AV.out d os 10 _ rfl; rwa [Nat.zero_add] at this
            have cI : ∀ d os, (grow (redrawn wr d) os).cell? ⟨g1, i * 16 + 11, none⟩ = some (.bool r.x11) := fun d os => by have := AV.out d os 11 _ rfl; rwa [Nat.zero_add] at this
            have p1 : ∀ d os, (grow (redrawn wr d) os).cell? ⟨g1, i * 16 + 1, none⟩ = some (.string r.x1) := fun d os => by have := AV.out d os 1 _ rfl; rwa [Nat.zero_add] at this
            have p2 : ∀ d os, (grow (redrawn wr d) os).cell? ⟨g1, i * 16 + 2, none⟩ = some (.string r.x2) := fun d os => by have := AV.out d os 2 _ rfl; rwa [Nat.zero_add] at this
            have p3 : ∀ d os, (grow (redrawn wr d) os).cell? ⟨g1, i * 16 + 3, none⟩ = some (.string r.x3) := fun d os => by have := AV.out d os 3 _ rfl; rwa [Nat.zero_add] at this
            have p4 : ∀ d os, (grow (redrawn wr d) os).cell? ⟨g1, i * 16 + 4, none⟩ = some (.string r.x4) := fun d os => by have := AV.out d os 4 _ rfl; rwa [Nat.zero_add] at this
            have p5 : ∀ d os, (grow (redrawn wr d) os).cell? ⟨g1, i * 16 + 5, none⟩ = some (.int .i64 r.x5) := fun d os => by have := AV.out d os 5 _ rfl; rwa [Nat.zero_add] at this
            have p6 : ∀ d os, (grow (redrawn wr d) os).cell? ⟨g1, i * 16 + 6, none⟩ = some (.int .i64 r.x6) := fun d os => by have := AV.out d os 6 _ rfl; rwa [Nat.zero_add] at this
            have p7 : ∀ d os, (grow (redrawn wr d) os).cell? ⟨g1, i * 16 + 7, none⟩ = some (.int .i64 r.x7) := fun d os => by have := AV.out d os 7 _ rfl; rwa [Nat.zero_add] at this
            have p8 : ∀ d os, (grow (redrawn wr d) os).cell? ⟨g1, i * 16 + 8, none⟩ = some (.int .i64 r.x8) := fun d os => by have := AV.out d os 8 _ rfl; rwa [Nat.zero_add] at this
            have p9 : ∀ d os, (grow (redrawn wr d) os).cell? ⟨g1, i * 16 + 9, none⟩ = some (.int .i64 r.x9) := fun d os => by have := AV.out d os 9 _ rfl; rwa [Nat.zero_add] at this
            have f0 : ∀ d os, (grow (redrawn wr d) os).cell? ⟨w.heap.size, 0, none⟩ = some (.string a) := fun d os => (FV.out d os).cell 0
            have f1 : ∀ d os, (grow (redrawn wr d) os).cell? ⟨w.heap.size, 1, none⟩ = some (.string b) := fun d os => (FV.out d os).cell 1
            have f2 : ∀ d os, (grow (redrawn wr d) os).cell? ⟨w.heap.size, 2, none⟩ = some (.int .i64 x) := fun d os => (FV.out d os).cell 2
            have f3 : ∀ d os, (grow (redrawn wr d) os).cell? ⟨w.heap.size, 3, none⟩ = some (.int .i64 y) := fun d os => (FV.out d os).cell 3
            have f4 : ∀ d os, (grow (redrawn wr d) os).cell? ⟨w.heap.size, 4, none⟩ = some (.int .i64 z) := fun d os => (FV.out d os).cell 4
            have AP := AL.out i r hle hr
            clear hr AT gb AV FV
            unfold apB at AP
            by_cases he : i = j
            · rw [decide_eq_true he] at AP
              have ge : ((i : Int) == ((j : Nat) : Int)) = true := by rw [beq_iff_eq]; omega
              clear he
              rcases (show out = true ∨ out = false by cases out <;> simp) with rfl | rfl
              · have h1 : r.x10 = true ∨ r.x10 = false := by cases r.x10 <;> simp
                rcases h1 with g2 | g2
                · have hmv : matB (pkR r) (flQ (⟨a, b, x, y, z, true⟩ : Qu)) = true := by rw [g2] at AP; simpa using AP
                  clear AP
                  have MC := Lib.hid (mat_is r (⟨a, b, x, y, z, true⟩ : Qu) true hmv)
                  clear hmv
                  simp only [g2] at cO
                  go_wp2_with fail
                  refine wp_region_quiet_below (by kernel_rfl) (by kernel_rfl) ?_
                  repeat (go_big_quiet_step (with_reducible exact Calls.regrown_of (MC.out _)))
                  refine wpQuiet_nil ?_
                  intro _ hw'
                  obtain ⟨⟨dq, osq⟩, hw''⟩ := hw'
                  subst hw''
                  have HN := Lib.hid (HB.out.trans ((below_regrown wr dq osq).mono HB.out.size))
                  clear cO cI p1 p2 p3 p4 p5 p6 p7 p8 p9 f0 f1 f2 f3 f4 HB MC
                  generalize grow (redrawn wr dq) osq = wz at *
                  go_wp2_with fail
                  go_roundw
                  case rel => exact ⟨i + 1, by go_num, by omega, by omega, HN⟩
                  case measure => simp [intOf]; omega
                · rw [g2] at AP
                  simp at AP
              · have h1 : r.x11 = true ∨ r.x11 = false := by cases r.x11 <;> simp
                rcases h1 with g2 | g2
                · have hmv : matB (pkR r) (flQ (⟨a, b, x, y, z, false⟩ : Qu)) = true := by rw [g2] at AP; simpa using AP
                  clear AP
                  have MC := Lib.hid (mat_is r (⟨a, b, x, y, z, false⟩ : Qu) true hmv)
                  clear hmv
                  simp only [g2] at cI
                  go_wp2_with fail
                  refine wp_region_quiet_below (by kernel_rfl) (by kernel_rfl) ?_
                  repeat (go_big_quiet_step (with_reducible exact Calls.regrown_of (MC.out _)))
                  refine wpQuiet_nil ?_
                  intro _ hw'
                  obtain ⟨⟨dq, osq⟩, hw''⟩ := hw'
                  subst hw''
                  have HN := Lib.hid (HB.out.trans ((below_regrown wr dq osq).mono HB.out.size))
                  clear cO cI p1 p2 p3 p4 p5 p6 p7 p8 p9 f0 f1 f2 f3 f4 HB MC
                  generalize grow (redrawn wr dq) osq = wz at *
                  go_wp2_with fail
                  go_roundw
                  case rel => exact ⟨i + 1, by go_num, by omega, by omega, HN⟩
                  case measure => simp [intOf]; omega
                · rw [g2] at AP
                  simp at AP
            · rw [decide_eq_false he] at AP
              have ge : ((i : Int) == ((j : Nat) : Int)) = false := by rw [beq_eq_false_iff_ne]; omega
              rcases (show out = true ∨ out = false by cases out <;> simp) with rfl | rfl
              · have h1 : r.x10 = true ∨ r.x10 = false := by cases r.x10 <;> simp
                rcases h1 with g2 | g2
                · have hmv : matB (pkR r) (flQ (⟨a, b, x, y, z, true⟩ : Qu)) = false := by rw [g2] at AP; simpa using AP
                  clear AP
                  have MC := Lib.hid (mat_is r (⟨a, b, x, y, z, true⟩ : Qu) false hmv)
                  clear hmv
                  simp only [g2] at cO
                  go_wp2_with fail
                  refine wp_region_quiet_below (by kernel_rfl) (by kernel_rfl) ?_
                  repeat (go_big_quiet_step (with_reducible exact Calls.regrown_of (MC.out _)))
                  refine wpQuiet_nil ?_
                  intro _ hw'
                  obtain ⟨⟨dq, osq⟩, hw''⟩ := hw'
                  subst hw''
                  have HN := Lib.hid (HB.out.trans ((below_regrown wr dq osq).mono HB.out.size))
                  clear cO cI p1 p2 p3 p4 p5 p6 p7 p8 p9 f0 f1 f2 f3 f4 HB MC
                  generalize grow (redrawn wr dq) osq = wz at *
                  go_wp2_with fail
                  go_roundw
                  case rel => exact ⟨i + 1, by go_num, by omega, by omega, HN⟩
                  case measure => simp [intOf]; omega
                · clear AP
                  simp only [g2] at cO
                  go_wp2_with fail
                  refine wp_region_quiet_below (by kernel_rfl) (by kernel_rfl) ?_
                  repeat (go_big_quiet_step (fail))
                  refine wpQuiet_nil ?_
                  intro _ hw'
                  obtain ⟨⟨dq, osq⟩, hw''⟩ := hw'
                  subst hw''
                  have HN := Lib.hid (HB.out.trans ((below_regrown wr dq osq).mono HB.out.size))
                  clear cO cI p1 p2 p3 p4 p5 p6 p7 p8 p9 f0 f1 f2 f3 f4 HB
                  generalize grow (redrawn wr dq) osq = wz at *
                  go_wp2_with fail
                  go_roundw
                  case rel => exact ⟨i + 1, by go_num, by omega, by omega, HN⟩
                  case measure => simp [intOf]; omega
              · have h1 : r.x11 = true ∨ r.x11 = false := by cases r.x11 <;> simp
                rcases h1 with g2 | g2
                · have hmv : matB (pkR r) (flQ (⟨a, b, x, y, z, false⟩ : Qu)) = false := by rw [g2] at AP; simpa using AP
                  clear AP
                  have MC := Lib.hid (mat_is r (⟨a, b, x, y, z, false⟩ : Qu) false hmv)
                  clear hmv
                  simp only [g2] at cI
                  go_wp2_with fail
                  refine wp_region_quiet_below (by kernel_rfl) (by kernel_rfl) ?_
                  repeat (go_big_quiet_step (with_reducible exact Calls.regrown_of (MC.out _)))
                  refine wpQuiet_nil ?_
                  intro _ hw'
                  obtain ⟨⟨dq, osq⟩, hw''⟩ := hw'
                  subst hw''
                  have HN := Lib.hid (HB.out.trans ((below_regrown wr dq osq).mono HB.out.size))
                  clear cO cI p1 p2 p3 p4 p5 p6 p7 p8 p9 f0 f1 f2 f3 f4 HB MC
                  generalize grow (redrawn wr dq) osq = wz at *
                  go_wp2_with fail
                  go_roundw
                  case rel => exact ⟨i + 1, by go_num, by omega, by omega, HN⟩
                  case measure => simp [intOf]; omega
                · clear AP
                  simp only [g2] at cI
                  go_wp2_with fail
                  refine wp_region_quiet_below (by kernel_rfl) (by kernel_rfl) ?_
                  repeat (go_big_quiet_step (fail))
                  refine wpQuiet_nil ?_
                  intro _ hw'
                  obtain ⟨⟨dq, osq⟩, hw''⟩ := hw'
                  subst hw''
                  have HN := Lib.hid (HB.out.trans ((below_regrown wr dq osq).mono HB.out.size))
                  clear cO cI p1 p2 p3 p4 p5 p6 p7 p8 p9 f0 f1 f2 f3 f4 HB
                  generalize grow (redrawn wr dq) osq = wz at *
                  go_wp2_with fail
                  go_roundw
                  case rel => exact ⟨i + 1, by go_num, by omega, by omega, HN⟩
                  case measure => simp [intOf]; omega
          · by_cases hlm : i < m
            · have gl : decide ((i : Int) ≤ ((j : Nat) : Int)) = false := decide_eq_false (by omega)
              have gl' : decide (i ≤ j) = false := decide_eq_false (by omega)
              go_wp2_with fail
              refine (awake_any _).mono ?_
              rintro e wb ⟨rfl, bb⟩
              have BE := Lib.hid ((KW.out.trans (Keep.of HB.out)).trans (Keep.of bb))
              clear bb
              go_wp2_with fail
              go_ret
              exact ⟨rfl, B1.out.trans (BE.out.below B1.out.size (fun k hk => FIN.out k (Nat.lt_of_lt_of_le hk B1.out.size)))⟩
            · have gm : decide ((i : Int) < (m : Int)) = false := decide_eq_false (by omega)
              have gm' : decide (i < m) = false := decide_eq_false hlm
              go_wp2_with fail
              refine (awake_any _).mono ?_
              rintro e wb ⟨rfl, bb⟩
              have BE := Lib.hid ((KW.out.trans (Keep.of HB.out)).trans (Keep.of bb))
              clear bb
              go_wp2_with fail
              go_ret
              exact ⟨rfl, B1.out.trans (BE.out.below B1.out.size (fun k hk => FIN.out k (Nat.lt_of_lt_of_le hk B1.out.size)))⟩
end Go.Proofs.Ytmomkjgnopcobaa.LawFirst16
