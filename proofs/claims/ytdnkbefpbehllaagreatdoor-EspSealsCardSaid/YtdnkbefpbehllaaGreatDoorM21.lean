/- The contract of the document's Round. -/
import Derived.Test.YtdnkbefpbehllaaGreatDoorM05
import Derived.Test.YtdnkbefpbehllaaGreatDoorM20
import Derived.Test.YtdnkbefpbehllaaGreatDoorM07
import Derived.Test.YtdnkbefpbehllaaGreatDoorM15
set_option linter.unusedVariables false
namespace Go.Proofs.YtdnkbefpbehllaaGreatDoor.ShaQ
open Go.RowKit Go.Proofs.YtdnkbefpbehllaaGreatDoor.Sums Go.Proofs.YtdnkbefpbehllaaGreatDoor.Mem Go.Proofs.YtdnkbefpbehllaaGreatDoor.Blk Go.Proofs.YtdnkbefpbehllaaGreatDoor.Bits Go.Proofs.YtdnkbefpbehllaaGreatDoor.Bits3 Go.Proofs.YtdnkbefpbehllaaGreatDoor.Ints Go.Proofs.YtdnkbefpbehllaaGreatDoor.IntsO Go.Proofs.YtdnkbefpbehllaaGreatDoor.Free Go.Proofs.YtdnkbefpbehllaaGreatDoor.Steps Go.Proofs.YtdnkbefpbehllaaGreatDoor.Ops Go.Proofs.YtdnkbefpbehllaaGreatDoor.ShaD Go.Proofs.YtdnkbefpbehllaaGreatDoor.ShaR1 Go.Proofs.YtdnkbefpbehllaaGreatDoor.ShaC Go.Proofs.YtdnkbefpbehllaaGreatDoor.ShaW

theorem nat_and {a b : Nat} (h1 : a < 4611686018427387904) (h2 : b < 4611686018427387904) : bits .and .i64 (a : Int) (b : Int) = ((a &&& b : Nat) : Int) := by
  have := i64_and (a := (a : Int)) (b := (b : Int)) (by omega) (by omega) (by omega) (by omega)
  simpa using this
theorem ent_turn : Enters Tryz.prog 95 := enters_of Tryz.func95 (by kernel_rfl) rfl
theorem stI_nats {l : List Int} (h : stI l = true) : ints (nats l) = l ∧ W32 (nats l) ∧ (nats l).length = 8 := by
  simp only [stI, okI, Bool.and_eq_true, List.all_eq_true, decide_eq_true_eq] at h
  refine ⟨?_, ?_, by rw [nats_len]; exact h.2⟩
  · unfold ints nats
    rw [List.map_map]
    refine (List.map_congr_left fun z hz => ?_).trans (List.map_id l)
    have := h.1 z hz
    simp only [Function.comp, id]
    omega
  · intro x hx
    obtain ⟨z, hz, rfl⟩ := List.mem_map.1 hx
    have := h.1 z hz
    unfold M
    omega
theorem run_slicei_8 (w : World) (a b c d e f g h : Int) : (Instr.buildSlice 78 8 #[(0, .int .i64 a), (1, .int .i64 b), (2, .int .i64 c), (3, .int .i64 d), (4, .int .i64 e), (5, .int .i64 f), (6, .int .i64 g), (7, .int .i64 h)]).run Tryz.prog w = .ok (.slice (some ⟨w.heap.size, 0, none⟩) 8 8) (w.alloc (.cells #[.int .i64 a, .int .i64 b, .int .i64 c, .int .i64 d, .int .i64 e, .int .i64 f, .int .i64 g, .int .i64 h] 3)) := by kernel_rfl
theorem st_slicei_8 {o : Oper} {a : Act} {w : World} {K : Act → World → Prop} {Q : Exit → Act → World → Prop} (x1 x2 x3 x4 x5 x6 x7 x8 : Operand) (ho : o.op = .buildSlice 78 8 #[(0, x1), (1, x2), (2, x3), (3, x4), (4, x5), (5, x6), (6, x7), (7, x8)]) (u1 u2 u3 u4 u5 u6 u7 u8 : Int) (h1 : a.eval x1 = .int .i64 u1) (h2 : a.eval x2 = .int .i64 u2) (h3 : a.eval x3 = .int .i64 u3) (h4 : a.eval x4 = .int .i64 u4) (h5 : a.eval x5 = .int .i64 u5) (h6 : a.eval x6 = .int .i64 u6) (h7 : a.eval x7 = .int .i64 u7) (h8 : a.eval x8 = .int .i64 u8)
    (hK : K (a.put o.dst (.slice (some ⟨w.heap.size, 0, none⟩) 8 8)) (w.alloc (.cells #[.int .i64 u1, .int .i64 u2, .int .i64 u3, .int .i64 u4, .int .i64 u5, .int .i64 u6, .int .i64 u7, .int .i64 u8] 3))) : Step Tryz.prog o a w K Q := by
  constructor
  have hr : (execOp a.eval o).run Tryz.prog w = .ok (.value (.slice (some ⟨w.heap.size, 0, none⟩) 8 8)) (w.alloc (.cells #[.int .i64 u1, .int .i64 u2, .int .i64 u3, .int .i64 u4, .int .i64 u5, .int .i64 u6, .int .i64 u7, .int .i64 u8] 3)) := by
    simp [execOp, ho, h1, h2, h3, h4, h5, h6, h7, h8, run_slicei_8 w, Result.andThen]
  unfold Oper.wp
  rw [hr]
  exact hK
/-- A row of ints, put behind another one, in the walk. -/
theorem wpList_append_ints {w : World} {ops : Array Oper} {rest : List Oper} {o : Oper} {a : Act} {Q : Exit → Act → World → Prop} (hgd : o.guard = none) (s x : Operand)
    (ho : o.op = .call { callee := .builtin .append, args := #[s, x], argTypes := #[78, 78] })
    (base : Nat) (v : Value) (l : List Nat) (hs : a.eval s = v) (h : IOwn w base v l) (g p c : Nat) (ks : List Nat) (hx : a.eval x = .slice (some ⟨g, p, none⟩) ks.length c)
    (hk : ∀ i, i < ks.length → w.cell? ⟨g, p + i, none⟩ = some (.int .i64 ((ks.getD i 0 : Nat) : Int))) (h0 : 0 < ks.length)
    (hsm : l.length + ks.length ≤ 1048576) (hbase : base ≤ w.heap.size)
    (hK : ∀ v' w', IOwn w' base v' (l ++ ks) → w.grownBy w' v.ownBlock → wpList Tryz.prog ops Q rest (a.put o.dst v') w') : wpList Tryz.prog ops Q (o :: rest) a w := by
  refine wpList_plain hgd fun K' hK' => ?_
  obtain ⟨i, hi, hz, hsz, hby⟩ := info_parts int_info
  refine Go.wp_append_lies w s x 78 ho base 3 i (.int .i64 0) 1 8 Tryz.underlying78 hi hz hsz hby rfl (by decide) v l.length (ivals l) hs h ⟨g, p, none⟩ ks.length c (ivals ks) hx (by rw [ivals_len]; omega)
    (fun j u hu => ?_) (ivals_one ks) h0 (by simp only [maxLen]; omega) (by omega) hbase _ rfl fun g' cap w' ow gr _ _ => ?_
  · have hj : j < ks.length := by
      rw [← ivals_len]
      exact (List.getElem?_eq_some_iff.1 hu).1
    rw [add_plain, hk j hj, ← ivals_get hj, hu]
  · refine hK' _ _ (hK _ w' ?_ gr)
    unfold IOwn
    rw [List.length_append, ivals_app]
    exact ow

/-- The first j places are sums. -/
def mixd (F S : List Nat) (j : Nat) : List Nat := (List.range 8).map fun i => if i < j then (F.getD i 0 + S.getD i 0) % M else F.getD i 0
theorem mixd_len (F S : List Nat) (j : Nat) : (mixd F S j).length = 8 := by simp [mixd]
theorem mixd_get (F S : List Nat) {j : Nat} (h : j < 8) : (mixd F S j).getD j 0 = F.getD j 0 := by
  rw [List.getD_eq_getElem?_getD, mixd, List.getElem?_map, List.getElem?_range h]
  simp
theorem mixd_zero {F : List Nat} (S : List Nat) (h : F.length = 8) : mixd F S 0 = F := by
  apply List.ext_getElem
  · rw [mixd_len, h]
  · intro i h1 h2
    simp only [mixd, List.getElem_map, List.getElem_range, Nat.not_lt_zero, if_false]
    rw [List.getD_eq_getElem?_getD, List.getElem?_eq_getElem h2]
    rfl
theorem mixd_set (F S : List Nat) (j : Nat) : (mixd F S j).set j ((F.getD j 0 + S.getD j 0) % M) = mixd F S (j + 1) := by
  apply List.ext_getElem
  · simp [mixd]
  · intro i h1 h2
    rw [List.getElem_set]
    simp only [mixd, List.getElem_map, List.getElem_range]
    by_cases q : j = i
    · subst q
      rw [if_pos rfl, if_pos (by omega)]
    · rw [if_neg q]
      by_cases r : i < j
      · rw [if_pos r, if_pos (by omega)]
      · rw [if_neg r, if_neg (by omega)]
theorem mixd_full (S B : List Nat) : mixd (sgo (words B) 64 0 S) S 8 = round S B := by
  unfold mixd round
  refine List.map_congr_left fun i hi => ?_
  rw [if_pos (List.mem_range.1 hi)]

theorem round_no1 (A : Option Addr) (n c : Nat) (A2 : Option Addr) (m c2 : Nat) (w : World) (hm : m ≠ 64) (h3 : m ≤ 140737488355328) :
    Calls Tryz.prog 86 #[.slice A n c, .slice A2 m c2] w fun e w' => e = .returned (.tuple #[.slice none 0 0, .int .i64 1]) ∧ Below w.heap.size w w' := by
  have C := Lib.hid (words_no A2 m c2 w hm h3)
  clear hm h3
  go_enter Tryz.func86, Tryz.ntmps86
  go_wp2_with fail
  refine C.out.mono ?_
  rintro e w' ⟨rfl, rfl⟩
  go_wp2_with fail
  go_ret2
  exact ⟨rfl, Below.refl _ _⟩
theorem round_no2 (A : Option Addr) (n c : Nat) (l : List Int) (A2 : Option Addr) (c2 : Nat) (bs : List Int) (w : World) (B B2 : Nat) (h : HoldsI w B A n c l) (hB : B ≤ w.heap.size) (h2 : Holds w B2 A2 64 c2 bs) (hB2 : B2 ≤ w.heap.size) (hs : stI l = false) :
    Calls Tryz.prog 86 #[.slice A n c, .slice A2 64 c2] w fun e w' => e = .returned (.tuple #[.slice none 0 0, .int .i64 1]) ∧ Below w.heap.size w w' := by
  have C := Lib.hid (words_ref A2 c2 bs w B2 h2 hB2)
  have HS := Lib.hid h
  have SF := Lib.hid hs
  clear h h2 hs
  go_enter Tryz.func86, Tryz.ntmps86
  go_wp2_with fail
  refine C.out.mono ?_
  rintro e w' ⟨v, rfl, _, hb⟩
  have HB := Lib.hid hb
  have ST := Lib.hid (state_ref A n c l w' B (HS.out.below (hb.mono hB)))
  rw [SF.out] at ST
  clear hb
  go_wp2_with fail
  refine ST.out.mono ?_
  rintro e w' ⟨rfl, rfl⟩
  go_wp2_with fail
  go_ret2
  exact ⟨rfl, HB.out⟩

set_option maxHeartbeats 4000000 in
set_option maxRecDepth 100000 in
theorem round_ref (A : Option Addr) (c : Nat) (l : List Int) (A2 : Option Addr) (c2 : Nat) (bs : List Int) (w : World) (B B2 : Nat) (h : HoldsI w B A 8 c l) (hB : B ≤ w.heap.size) (h2 : Holds w B2 A2 64 c2 bs) (hB2 : B2 ≤ w.heap.size) (hs : stI l = true) :
    Calls Tryz.prog 86 #[.slice A 8 c, .slice A2 64 c2] w fun e w' => ∃ v, e = .returned (.tuple #[v, .int .i64 0]) ∧ IOwn w' w.heap.size v (round (nats l) (nats bs)) ∧ Below w.heap.size w w' := by
  obtain ⟨q, p, rfl, hqB, hcell⟩ := h.2.2.2 (by decide)
  have C := Lib.hid (words_ref A2 c2 bs w B2 h2 hB2)
  have SN := Lib.hid (stI_nats hs)
  have ST := Lib.hid (fun W hW => state_ref (some ⟨q, p, none⟩) 8 c l W B (h.below hW))
  rw [hs] at ST
  have QB : Hid (q < w.heap.size) := Lib.hid (by omega)
  have SCL : Hid (∀ W : World, Below w.heap.size w W → ∀ i, i < 8 → W.cell? ⟨q, p + i, none⟩ = some (.int .i64 (((nats l).getD i 0 : Nat) : Int))) := Lib.hid fun W hW i hi => by
    rw [hW.cell (p := ⟨q, p + i, none⟩) QB.out, hcell i hi]
    have := ints_getD (nats l) i
    rw [SN.out.1] at this
    rw [this]
  have HBB := Lib.hid hB
  have WB0 : Hid (W32 (words (nats bs))) := Lib.hid (words_lt (nats_lt fun z hz => h2.2.2.2.1 z hz))
  obtain ⟨S0, hS0⟩ : ∃ S0, S0 = nats l := ⟨_, rfl⟩
  rw [← hS0] at SN SCL ⊢
  obtain ⟨BB, hBB⟩ : ∃ BB, BB = nats bs := ⟨_, rfl⟩
  rw [← hBB] at C WB0 ⊢
  clear h h2 hs hcell hqB hS0 hBB hB hB2
  go_enter Tryz.func86, Tryz.ntmps86
  go_wp2_with fail
  refine C.out.mono ?_
  rintro e w2 ⟨v, rfl, ow, hb⟩
  have B2 := Lib.hid hb
  obtain ⟨gw, cw, rfl, gb1, gb2, hcw1, hcw2⟩ := ow.form (by rw [words_len]; decide)
  have OW := Lib.hid ow
  rw [words_len] at ⊢
  have ST2 := Lib.hid (ST.out w2 (hb.mono HBB.out))
  clear hb ow C ST
  go_wp2_with fail
  refine ST2.out.mono ?_
  rintro e w' ⟨rfl, rfl⟩
  go_wp2_with fail
  refine (constants_ref w2).mono ?_
  rintro e w3 ⟨rfl, rk, hb⟩
  have B3 := Lib.hid hb
  have RK := Lib.hid rk
  have OW3 := Lib.hid (OW.out.up hb)
  obtain ⟨gk, hgk⟩ : ∃ gk, gk = w2.heap.size := ⟨_, rfl⟩
  have GK : Hid (w.heap.size ≤ gk) := Lib.hid (by rw [hgk]; exact B2.out.size)
  rw [← hgk] at RK ⊢
  have BB3 := Lib.hid (B2.out.trans (hb.mono B2.out.size))
  clear hb rk hgk ST2 OW
  go_wp2_with (at_builtin
               refine wpList_append_ints rfl (.tmp 31) (.tmp 32) rfl w3.heap.size (.slice none 0 0) [] rfl (IOwn.nil _ _) q p c S0 (by rw [SN.out.2.2]; rfl) (fun i hi => SCL.out w3 BB3.out i (by rw [← SN.out.2.2]; exact hi)) (by rw [SN.out.2.2]; decide) (by rw [SN.out.2.2]; decide) (Nat.le_refl _) ?_)
  intro v w4 os gr
  have B4 := Lib.hid ((Below.refl w3.heap.size w3).grown gr (Nat.le_refl _) fun g hg => ((IOwn.nil w3 w3.heap.size).lt g hg).1)
  have OS : Hid (IOwn w4 w3.heap.size v S0) := Lib.hid os
  have BW4 := Lib.hid (BB3.out.trans (B4.out.mono BB3.out.size))
  have W3S : Hid (w.heap.size ≤ w3.heap.size) := Lib.hid BB3.out.size
  have KC : Hid (∀ W : World, Below w3.heap.size w3 W → ∀ i, i < 72 → W.cell? ⟨gk, i, none⟩ = some (.int .i64 ((K.getD i 0 : Nat) : Int))) := Lib.hid fun W hW i hi => (RK.out.up hW).cell i (by rw [K_len]; exact hi)
  have WC : Hid (∀ W : World, Below w3.heap.size w3 W → ∀ i, i < 64 → W.cell? ⟨gw, i, none⟩ = some (.int .i64 (((words BB).getD i 0 : Nat) : Int))) := Lib.hid fun W hW i hi => IOwn.cell (OW3.out.up hW) (by rw [words_len]; exact hi)
  have WB := WB0
  obtain ⟨F, hF⟩ : ∃ F, F = sgo (words BB) 64 0 S0 := ⟨_, rfl⟩
  have HFH := Lib.hid hF
  have FL : Hid (F.length = 8 ∧ W32 F) := Lib.hid (by rw [hF]; exact ⟨sgo_len _ _ _ _ SN.out.2.2, sgo_lt _ _ _ _ SN.out.2.1⟩)
  clear os gr RK OW3 hF gb1 gb2 B2 B3 hcw1 hcw2
  go_wp2_with fail
  go_loopw [9, 10] (fun sv kv wr => ∃ (j : Nat) (S : List Nat), kv = .int .i64 (j : Int) ∧ j ≤ 64 ∧ Hid (S.length = 8) ∧ Hid (W32 S) ∧ Hid (sgo (words BB) (64 - j) j S = F) ∧ Hid (IOwn wr w3.heap.size sv S) ∧ Hid (1 ≤ j → ∃ g, sv = .slice (some ⟨g, 0, none⟩) 8 8 ∧ IRow wr g S ∧ w3.heap.size ≤ g) ∧ Hid (Below w3.heap.size w3 wr)) (fun _ kv _ => 64 - (intOf kv).toNat)
  case atStart => exact ⟨0, S0, rfl, by omega, Lib.hid SN.out.2.2, Lib.hid SN.out.2.1, Lib.hid HFH.out.symm, OS, Lib.hid (fun q => by omega), B4⟩
  case round =>
    obtain ⟨j, S, rfl, hj, HL, HW, HE, HO, HR, HB⟩ := hrel
    clear OS B4 BW4
    by_cases hlt : j < 64
    · obtain ⟨g, cv, rfl, gb1, gb2, hcv, _⟩ := HO.out.form (by rw [HL.out]; decide)
      have HOL : Hid (IOwn wr w3.heap.size (.slice (some ⟨g, 0, none⟩) S.length cv) S) := HO
      have CL : Hid (∀ W : World, Below wr.heap.size wr W → ∀ i, i < 8 → W.cell? ⟨g, i, none⟩ = some (.int .i64 ((S.getD i 0 : Nat) : Int))) := Lib.hid fun W hW i hi => IOwn.cell (HOL.out.up hW) (by rw [HL.out]; exact hi)
      have CS : Hid (∀ W : World, Below wr.heap.size wr W → W.cell? ⟨g, 0, none⟩ = some (.int .i64 ((S.getD 0 0 : Nat) : Int)) ∧ W.cell? ⟨g, 1, none⟩ = some (.int .i64 ((S.getD 1 0 : Nat) : Int)) ∧ W.cell? ⟨g, 2, none⟩ = some (.int .i64 ((S.getD 2 0 : Nat) : Int)) ∧ W.cell? ⟨g, 3, none⟩ = some (.int .i64 ((S.getD 3 0 : Nat) : Int)) ∧ W.cell? ⟨g, 4, none⟩ = some (.int .i64 ((S.getD 4 0 : Nat) : Int)) ∧ W.cell? ⟨g, 5, none⟩ = some (.int .i64 ((S.getD 5 0 : Nat) : Int)) ∧ W.cell? ⟨g, 6, none⟩ = some (.int .i64 ((S.getD 6 0 : Nat) : Int)) ∧ W.cell? ⟨g, 7, none⟩ = some (.int .i64 ((S.getD 7 0 : Nat) : Int))) := Lib.hid fun W hW => ⟨CL.out W hW 0 (by decide), CL.out W hW 1 (by decide), CL.out W hW 2 (by decide), CL.out W hW 3 (by decide), CL.out W hW 4 (by decide), CL.out W hW 5 (by decide), CL.out W hW 6 (by decide), CL.out W hW 7 (by decide)⟩
      have BSZ := HB.out.size
      have KW : Hid (∀ W : World, Below wr.heap.size wr W → W.cell? ⟨gk, j, none⟩ = some (.int .i64 ((K.getD j 0 : Nat) : Int)) ∧ W.cell? ⟨gw, j, none⟩ = some (.int .i64 (((words BB).getD j 0 : Nat) : Int))) := Lib.hid fun W hW => ⟨KC.out W (HB.out.trans (hW.mono BSZ)) j (by omega), WC.out W (HB.out.trans (hW.mono BSZ)) j hlt⟩
      rw [HL.out] at HO ⊢
      have ST : stp S (K.getD j 0) ((words BB).getD j 0) = [(S.getD 7 0 + hi1 (S.getD 4 0) + ch (S.getD 4 0) (S.getD 5 0) (S.getD 6 0) + K.getD j 0 + (words BB).getD j 0 + (hi0 (S.getD 0 0) + maj (S.getD 0 0) (S.getD 1 0) (S.getD 2 0))) % M, S.getD 0 0, S.getD 1 0, S.getD 2 0, (S.getD 3 0 + (S.getD 7 0 + hi1 (S.getD 4 0) + ch (S.getD 4 0) (S.getD 5 0) (S.getD 6 0) + K.getD j 0 + (words BB).getD j 0)) % M, S.getD 4 0, S.getD 5 0, S.getD 6 0] := rfl
      have HE2 : Hid (sgo (words BB) (64 - (j + 1)) (j + 1) (stp S (K.getD j 0) ((words BB).getD j 0)) = F) := Lib.hid (by
        have := HE.out
        rw [show 64 - j = (64 - (j + 1)) + 1 by omega, sgo] at this
        exact this)
      have SL2 : Hid (W32 (stp S (K.getD j 0) ((words BB).getD j 0))) := Lib.hid (stp_lt HW.out _ _)
      have d0 := HW.out.get 0
      have d1 := HW.out.get 1
      have d2 := HW.out.get 2
      have d3 := HW.out.get 3
      have d4 := HW.out.get 4
      have d5 := HW.out.get 5
      have d6 := HW.out.get 6
      have d7 := HW.out.get 7
      have bk := K_lt.get j
      have bw := WB.out.get j
      generalize K.getD j 0 = kk at *
      generalize (words BB).getD j 0 = ww at *
      generalize S.getD 0 0 = s0 at *
      generalize S.getD 1 0 = s1 at *
      generalize S.getD 2 0 = s2 at *
      generalize S.getD 3 0 = s3 at *
      generalize S.getD 4 0 = s4 at *
      generalize S.getD 5 0 = s5 at *
      generalize S.getD 6 0 = s6 at *
      generalize S.getD 7 0 = s7 at *
      have T1 := Lib.hid (fun W => turn_ref s4 6 d4 (by decide) W)
      have T2 := Lib.hid (fun W => turn_ref s4 11 d4 (by decide) W)
      have T3 := Lib.hid (fun W => turn_ref s4 25 d4 (by decide) W)
      have T4 := Lib.hid (fun W => turn_ref s0 2 d0 (by decide) W)
      have T5 := Lib.hid (fun W => turn_ref s0 13 d0 (by decide) W)
      have T6 := Lib.hid (fun W => turn_ref s0 22 d0 (by decide) W)
      have r1 := rot_lt d4 (show 6 ≤ 31 by decide)
      have r2 := rot_lt d4 (show 11 ≤ 31 by decide)
      have r3 := rot_lt d4 (show 25 ≤ 31 by decide)
      have r4 := rot_lt d0 (show 2 ≤ 31 by decide)
      have r5 := rot_lt d0 (show 13 ≤ 31 by decide)
      have r6 := rot_lt d0 (show 22 ≤ 31 by decide)
      have L1 : hi1 s4 = rot s4 6 ^^^ rot s4 11 ^^^ rot s4 25 := rfl
      have L0 : hi0 s0 = rot s0 2 ^^^ rot s0 13 ^^^ rot s0 22 := rfl
      have CH : ch s4 s5 s6 = s4 &&& s5 ^^^ (4294967295 - s4) &&& s6 := rfl
      have MJ : maj s0 s1 s2 = s0 &&& s1 ^^^ s0 &&& s2 ^^^ s1 &&& s2 := rfl
      generalize rot s4 6 = ra at *
      generalize rot s4 11 = rb at *
      generalize rot s4 25 = rc at *
      generalize rot s0 2 = rd at *
      generalize rot s0 13 = re at *
      generalize rot s0 22 = rf at *
      generalize hi1 s4 = h1 at *
      generalize hi0 s0 = h0 at *
      generalize ch s4 s5 s6 = cc at *
      generalize maj s0 s1 s2 = mj at *
      have z0 : s0 < 4294967296 := d0
      have z4 : s4 < 4294967296 := d4
      unfold M at d1 d2 d3 d5 d6 d7 bk bw ST
      have a1 : bits .and .i64 (s4 : Int) (s5 : Int) = ((s4 &&& s5 : Nat) : Int) := nat_and (by omega) (by omega)
      have l1 : s4 &&& s5 < 2 ^ 32 := Nat.and_lt_two_pow _ (by omega)
      obtain ⟨n1, hn1⟩ : ∃ n1, n1 = 4294967295 - s4 := ⟨_, rfl⟩
      have a2 : IntKind.i64.wrap (4294967295 - (s4 : Int)) = (n1 : Int) := by rw [IntWalk.i64_in _ (by omega)]; omega
      rw [← hn1] at CH
      have a3 : bits .and .i64 (n1 : Int) (s6 : Int) = ((n1 &&& s6 : Nat) : Int) := nat_and (by omega) (by omega)
      have l2 : n1 &&& s6 < 2 ^ 32 := Nat.and_lt_two_pow _ (by omega)
      generalize s4 &&& s5 = p1 at *
      generalize n1 &&& s6 = p2 at *
      have a4 : bits .xor .i64 (p1 : Int) (p2 : Int) = (cc : Int) := by rw [CH]; exact i64_xor (by omega) (by omega)
      have lc : cc < 2 ^ 32 := by rw [CH]; exact Nat.xor_lt_two_pow l1 l2
      have b1 : bits .and .i64 (s0 : Int) (s1 : Int) = ((s0 &&& s1 : Nat) : Int) := nat_and (by omega) (by omega)
      have b2 : bits .and .i64 (s0 : Int) (s2 : Int) = ((s0 &&& s2 : Nat) : Int) := nat_and (by omega) (by omega)
      have b3 : bits .and .i64 (s1 : Int) (s2 : Int) = ((s1 &&& s2 : Nat) : Int) := nat_and (by omega) (by omega)
      have l3 : s0 &&& s1 < 2 ^ 32 := Nat.and_lt_two_pow _ (by omega)
      have l4 : s0 &&& s2 < 2 ^ 32 := Nat.and_lt_two_pow _ (by omega)
      have l5 : s1 &&& s2 < 2 ^ 32 := Nat.and_lt_two_pow _ (by omega)
      generalize s0 &&& s1 = q1 at *
      generalize s0 &&& s2 = q2 at *
      generalize s1 &&& s2 = q4 at *
      have b4 : bits .xor .i64 (q1 : Int) (q2 : Int) = ((q1 ^^^ q2 : Nat) : Int) := i64_xor (by omega) (by omega)
      have l6 : q1 ^^^ q2 < 2 ^ 32 := Nat.xor_lt_two_pow l3 l4
      generalize q1 ^^^ q2 = q3 at *
      have b5 : bits .xor .i64 (q3 : Int) (q4 : Int) = (mj : Int) := by rw [MJ]; exact i64_xor (by omega) (by omega)
      have lm : mj < 2 ^ 32 := by rw [MJ]; exact Nat.xor_lt_two_pow l6 l5
      have l7 : ra ^^^ rb < 2 ^ 33 := Nat.xor_lt_two_pow (by omega) (by omega)
      have l8 : rd ^^^ re < 2 ^ 33 := Nat.xor_lt_two_pow (by omega) (by omega)
      have X1 : Hid (bits .xor .i64 (ra : Int) (rb : Int) = ((ra ^^^ rb : Nat) : Int)) := Lib.hid (i64_xor (by omega) (by omega))
      have X3 : Hid (bits .xor .i64 (rd : Int) (re : Int) = ((rd ^^^ re : Nat) : Int)) := Lib.hid (i64_xor (by omega) (by omega))
      generalize ra ^^^ rb = m1 at *
      generalize rd ^^^ re = m2 at *
      have X2 : Hid (bits .xor .i64 (m1 : Int) (rc : Int) = (h1 : Int)) := Lib.hid (by rw [L1]; exact i64_xor (by omega) (by omega))
      have X4 : Hid (bits .xor .i64 (m2 : Int) (rf : Int) = (h0 : Int)) := Lib.hid (by rw [L0]; exact i64_xor (by omega) (by omega))
      have lh1 : h1 < 2 ^ 33 := by rw [L1]; exact Nat.xor_lt_two_pow l7 (by omega)
      have lh0 : h0 < 2 ^ 33 := by rw [L0]; exact Nat.xor_lt_two_pow l8 (by omega)
      obtain ⟨tt, htt⟩ : ∃ tt, tt = s7 + h1 + cc + kk + ww := ⟨_, rfl⟩
      obtain ⟨uu, huu⟩ : ∃ uu, uu = h0 + mj := ⟨_, rfl⟩
      rw [← htt, ← huu] at ST
      have TE : Hid ((s7 : Int) + (h1 : Int) + (cc : Int) + (kk : Int) + (ww : Int) = (tt : Int)) := Lib.hid (by omega)
      have UE : Hid (IntKind.i64.wrap ((h0 : Int) + (mj : Int)) = (uu : Int)) := Lib.hid (by rw [IntWalk.i64_in _ (by omega)]; omega)
      have lt' : tt < 2 ^ 36 := by omega
      have lu : uu < 2 ^ 36 := by omega
      have lt : tt < 68719476736 := lt'
      have lu' : uu < 68719476736 := lu
      obtain ⟨e0, he0⟩ : ∃ e0, e0 = (tt + uu) % 4294967296 := ⟨_, rfl⟩
      obtain ⟨e4, he4⟩ : ∃ e4, e4 = (s3 + tt) % 4294967296 := ⟨_, rfl⟩
      rw [← he0, ← he4] at ST
      have E0 : Hid (((tt : Int) + (uu : Int)) % 4294967296 = (e0 : Int)) := Lib.hid (by omega)
      have E4 : Hid (((s3 : Int) + (tt : Int)) % 4294967296 = (e4 : Int)) := Lib.hid (by omega)
      rw [ST] at HE2 SL2
      have lb1 : h1 < 8589934592 := lh1
      have lb2 : cc < 4294967296 := lc
      have jb : j ≤ 100 := by omega
      obtain ⟨c0, _, _, _, c4, _, _, _⟩ := CS.out wr (Below.refl _ _)
      clear L0 L1 CH MJ ST htt huu he0 he4 hn1 r1 r2 r3 r4 r5 r6 l1 l2 l3 l4 l5 l6 l7 l8 lh0 lh1 lc lm lt' lu d0 d4 HL HW HE HO HR CL KC WC
      go_wp2_with fail
      clear c0 c4
      obtain ⟨_, _, _, _, _, c5, c6, _⟩ := CS.out wr (Below.refl _ _)
      go_quiet (fail)
      have GA := Lib.hid (below_drewN (Below.refl wr.heap.size wr) nq)
      generalize wr.drewN nq = wa at *
      clear c5 c6 a1 a2 a3 a4
      obtain ⟨_, c1, c2, _, _, _, _, _⟩ := CS.out wa GA.out
      go_wp2_with fail
      go_quiet (fail)
      have GB := Lib.hid (GA.out.trans ((below_drewN (Below.refl wa.heap.size wa) nq).mono GA.out.size))
      generalize wa.drewN nq = wb at *
      clear c1 c2 b1 b2 b3 b4 b5 GA
      have XC : Hid (∀ w' : World, Below wb.drew.heap.size wb.drew w' → w'.cell? ⟨g, 7, none⟩ = some (.int .i64 (s7 : Int)) ∧ w'.cell? ⟨gk, j, none⟩ = some (.int .i64 (kk : Int)) ∧ w'.cell? ⟨gw, j, none⟩ = some (.int .i64 (ww : Int))) := Lib.hid fun w' hw => by
        have hx := GB.out.trans (((below_drewN (Below.refl wb.heap.size wb) 1).trans hw).mono GB.out.size)
        have := CS.out w' hx
        exact ⟨this.2.2.2.2.2.2.2, (KW.out w' hx).1, (KW.out w' hx).2⟩
      go_wp2_with fail
      refine wp_region_free [0, 1, 2, 3, 4, 5, 6, 7, 8, 9, 10, 11, 12, 13, 14, 15, 16, 17, 18, 19, 20, 21, 22] 23 [24] (fun w1 w2 => Below w1.heap.size w1 w2) (fun k' w' v => match k' with
        | 0 => v = .slice (some ⟨g, 0, none⟩) 8 cv
        | 1 => v = .pointer (some ⟨g, 7, none⟩)
        | 2 => v = .int .i64 ((s7 : Int))
        | 3 => v = .int .i64 ((s4 : Int))
        | 4 => v = .int .i64 ((ra : Int))
        | 5 => v = .int .i64 ((s4 : Int))
        | 6 => v = .int .i64 ((rb : Int))
        | 7 => v = .int .i64 ((m1 : Int))
        | 8 => v = .int .i64 ((s4 : Int))
        | 9 => v = .int .i64 ((rc : Int))
        | 10 => v = .int .i64 ((h1 : Int))
        | 11 => v = .int .i64 ((s7 : Int) + ((h1 : Int)))
        | 12 => v = .int .i64 ((cc : Int))
        | 13 => v = .int .i64 ((s7 : Int) + ((h1 : Int)) + ((cc : Int)))
        | 14 => v = .slice (some ⟨gk, 0, none⟩) 72 72
        | 15 => v = .int .i64 ((j : Int))
        | 16 => v = .pointer (some ⟨gk, j, none⟩)
        | 17 => v = .int .i64 ((kk : Int))
        | 18 => v = .int .i64 ((s7 : Int) + ((h1 : Int)) + ((cc : Int)) + ((kk : Int)))
        | 19 => v = .slice (some ⟨gw, 0, none⟩) 64 cw
        | 20 => v = .int .i64 ((j : Int))
        | 21 => v = .pointer (some ⟨gw, j, none⟩)
        | _ => v = .int .i64 ((ww : Int))) (by kernel_rfl) (by kernel_rfl) (Below.refl _ _) (fun _ _ _ h k => h.trans (k.mono h.size)) (fun k' w1 w2 v h => match k' with
        | 0 => fun x => x
        | 1 => fun x => x
        | 2 => fun x => x
        | 3 => fun x => x
        | 4 => fun x => x
        | 5 => fun x => x
        | 6 => fun x => x
        | 7 => fun x => x
        | 8 => fun x => x
        | 9 => fun x => x
        | 10 => fun x => x
        | 11 => fun x => x
        | 12 => fun x => x
        | 13 => fun x => x
        | 14 => fun x => x
        | 15 => fun x => x
        | 16 => fun x => x
        | 17 => fun x => x
        | 18 => fun x => x
        | 19 => fun x => x
        | 20 => fun x => x
        | 21 => fun x => x
        | _ + 22 => fun x => x) (fun _ _ _ _ _ h => h) ?_ _ (by rfl) ?_
      · refine obs_cons (by rfl) (fun vals w' hgr hdep K hK => ?_) (obs_cons (by rfl) (fun vals w' hgr hdep K hK => ?_) (obs_cons (by rfl) (fun vals w' hgr hdep K hK => ?_) (obs_cons (by rfl) (fun vals w' hgr hdep K hK => ?_) (obs_cons (by rfl) (fun vals w' hgr hdep K hK => ?_) (obs_cons (by rfl) (fun vals w' hgr hdep K hK => ?_) (obs_cons (by rfl) (fun vals w' hgr hdep K hK => ?_) (obs_cons (by rfl) (fun vals w' hgr hdep K hK => ?_) (obs_cons (by rfl) (fun vals w' hgr hdep K hK => ?_) (obs_cons (by rfl) (fun vals w' hgr hdep K hK => ?_) (obs_cons (by rfl) (fun vals w' hgr hdep K hK => ?_) (obs_cons (by rfl) (fun vals w' hgr hdep K hK => ?_) (obs_cons (by rfl) (fun vals w' hgr hdep K hK => ?_) (obs_cons (by rfl) (fun vals w' hgr hdep K hK => ?_) (obs_cons (by rfl) (fun vals w' hgr hdep K hK => ?_) (obs_cons (by rfl) (fun vals w' hgr hdep K hK => ?_) (obs_cons (by rfl) (fun vals w' hgr hdep K hK => ?_) (obs_cons (by rfl) (fun vals w' hgr hdep K hK => ?_) (obs_cons (by rfl) (fun vals w' hgr hdep K hK => ?_) (obs_cons (by rfl) (fun vals w' hgr hdep K hK => ?_) (obs_cons (by rfl) (fun vals w' hgr hdep K hK => ?_) (obs_cons (by rfl) (fun vals w' hgr hdep K hK => ?_) (obs_cons (by rfl) (fun vals w' hgr hdep K hK => ?_) (obs_nil)))))))))))))))))))))))
        · exact wp_move (.tmp 9) rfl _ (at_out _ (by kernel_rfl) rfl) (hK _ _ (Below.refl _ _) rfl)
        · exact st_int_at0 (.tmp 75) (.const (.int .i64 7)) rfl g 8 cv 7 _ ((at_dst 0 (by kernel_rfl)).trans (hdep 0 (by simp) (by kernel_rfl))) rfl rfl (by decide) (hK _ _ (Below.refl _ _) rfl)
        · exact wp_load1 (.tmp 76) rfl ⟨g, 7, none⟩ ((at_dst 1 (by kernel_rfl)).trans (hdep 1 (by simp) (by kernel_rfl))) Tryz.underlying3 rfl _ ((XC.out w' hgr).1) (hK _ _ (Below.refl _ _) rfl)
        · exact wp_move (.tmp 12) rfl _ (at_out _ (by kernel_rfl) rfl) (hK _ _ (Below.refl _ _) rfl)
        · exact wp_call 95 [.tmp 78, .const (.int .i64 6)] _ rfl ent_turn [.int .i64 (s4 : Int), .int .i64 6] (congrArg (fun z => [z, Value.int .i64 6]) ((at_dst 3 (by kernel_rfl)).trans (hdep 3 (by simp) (by kernel_rfl)))) (fun v w'' => v = .int .i64 (ra : Int) ∧ Below w'.heap.size w' w'') ((T1.out w').mono fun e w'' ⟨h1, h2⟩ => ⟨_, h1, rfl, h2⟩) (fun v w'' ⟨h1, h2⟩ => hK v _ h2 h1)
        · exact wp_move (.tmp 12) rfl _ (at_out _ (by kernel_rfl) rfl) (hK _ _ (Below.refl _ _) rfl)
        · exact wp_call 95 [.tmp 80, .const (.int .i64 11)] _ rfl ent_turn [.int .i64 (s4 : Int), .int .i64 11] (congrArg (fun z => [z, Value.int .i64 11]) ((at_dst 5 (by kernel_rfl)).trans (hdep 5 (by simp) (by kernel_rfl)))) (fun v w'' => v = .int .i64 (rb : Int) ∧ Below w'.heap.size w' w'') ((T2.out w').mono fun e w'' ⟨h1, h2⟩ => ⟨_, h1, rfl, h2⟩) (fun v w'' ⟨h1, h2⟩ => hK v _ h2 h1)
        · exact wp_bin (.tmp 79) (.tmp 81) rfl _ _ _ ((at_dst 4 (by kernel_rfl)).trans (hdep 4 (by simp) (by kernel_rfl))) ((at_dst 6 (by kernel_rfl)).trans (hdep 6 (by simp) (by kernel_rfl))) (b_xor _ _ _ _ _ _ X1.out) (hK _ _ (Below.refl _ _) rfl)
        · exact wp_move (.tmp 12) rfl _ (at_out _ (by kernel_rfl) rfl) (hK _ _ (Below.refl _ _) rfl)
        · exact wp_call 95 [.tmp 83, .const (.int .i64 25)] _ rfl ent_turn [.int .i64 (s4 : Int), .int .i64 25] (congrArg (fun z => [z, Value.int .i64 25]) ((at_dst 8 (by kernel_rfl)).trans (hdep 8 (by simp) (by kernel_rfl)))) (fun v w'' => v = .int .i64 (rc : Int) ∧ Below w'.heap.size w' w'') ((T3.out w').mono fun e w'' ⟨h1, h2⟩ => ⟨_, h1, rfl, h2⟩) (fun v w'' ⟨h1, h2⟩ => hK v _ h2 h1)
        · exact wp_bin (.tmp 82) (.tmp 84) rfl _ _ _ ((at_dst 7 (by kernel_rfl)).trans (hdep 7 (by simp) (by kernel_rfl))) ((at_dst 9 (by kernel_rfl)).trans (hdep 9 (by simp) (by kernel_rfl))) (b_xor _ _ _ _ _ _ X2.out) (hK _ _ (Below.refl _ _) rfl)
        · exact wp_bin (.tmp 77) (.tmp 85) rfl _ _ _ ((at_dst 2 (by kernel_rfl)).trans (hdep 2 (by simp) (by kernel_rfl))) ((at_dst 10 (by kernel_rfl)).trans (hdep 10 (by simp) (by kernel_rfl))) (b_add _ _ _ _ _ (by omega) (by omega)) (hK _ _ (Below.refl _ _) rfl)
        · exact wp_move (.tmp 13) rfl _ (at_out _ (by kernel_rfl) rfl) (hK _ _ (Below.refl _ _) rfl)
        · exact wp_bin (.tmp 86) (.tmp 87) rfl _ _ _ ((at_dst 11 (by kernel_rfl)).trans (hdep 11 (by simp) (by kernel_rfl))) ((at_dst 12 (by kernel_rfl)).trans (hdep 12 (by simp) (by kernel_rfl))) (b_add _ _ _ _ _ (by omega) (by omega)) (hK _ _ (Below.refl _ _) rfl)
        · exact wp_move (.tmp 8) rfl _ (at_out _ (by kernel_rfl) rfl) (hK _ _ (Below.refl _ _) rfl)
        · exact wp_move (.tmp 10) rfl _ (at_out _ (by kernel_rfl) rfl) (hK _ _ (Below.refl _ _) rfl)
        · exact st_int_at0 (.tmp 89) (.tmp 90) rfl gk 72 72 j _ ((at_dst 14 (by kernel_rfl)).trans (hdep 14 (by simp) (by kernel_rfl))) ((at_dst 15 (by kernel_rfl)).trans (hdep 15 (by simp) (by kernel_rfl))) rfl (by omega) (hK _ _ (Below.refl _ _) rfl)
        · exact wp_load1 (.tmp 91) rfl ⟨gk, j, none⟩ ((at_dst 16 (by kernel_rfl)).trans (hdep 16 (by simp) (by kernel_rfl))) Tryz.underlying3 rfl _ ((XC.out w' hgr).2.1) (hK _ _ (Below.refl _ _) rfl)
        · exact wp_bin (.tmp 88) (.tmp 92) rfl _ _ _ ((at_dst 13 (by kernel_rfl)).trans (hdep 13 (by simp) (by kernel_rfl))) ((at_dst 17 (by kernel_rfl)).trans (hdep 17 (by simp) (by kernel_rfl))) (b_add _ _ _ _ _ (by omega) (by omega)) (hK _ _ (Below.refl _ _) rfl)
        · exact wp_move (.tmp 6) rfl _ (at_out _ (by kernel_rfl) rfl) (hK _ _ (Below.refl _ _) rfl)
        · exact wp_move (.tmp 10) rfl _ (at_out _ (by kernel_rfl) rfl) (hK _ _ (Below.refl _ _) rfl)
        · exact st_int_at0 (.tmp 94) (.tmp 95) rfl gw 64 cw j _ ((at_dst 19 (by kernel_rfl)).trans (hdep 19 (by simp) (by kernel_rfl))) ((at_dst 20 (by kernel_rfl)).trans (hdep 20 (by simp) (by kernel_rfl))) rfl hlt (hK _ _ (Below.refl _ _) rfl)
        · exact wp_load1 (.tmp 96) rfl ⟨gw, j, none⟩ ((at_dst 21 (by kernel_rfl)).trans (hdep 21 (by simp) (by kernel_rfl))) Tryz.underlying3 rfl _ ((XC.out w' hgr).2.2) (hK _ _ (Below.refl _ _) rfl)
      · intro vals w' hgr hG
        refine wp_bin (.tmp 93) (.tmp 97) rfl _ _ _ ((at_dst 18 (by kernel_rfl)).trans (hG 18 (by simp))) ((at_dst 22 (by kernel_rfl)).trans (hG 22 (by simp))) ((b_add _ _ _ _ _ (by omega) (by omega)).trans (by rw [TE.out])) ?_
        refine wpAnyH_next 24 _ rfl rfl (by kernel_rfl) (st_assign (.tmp 98) _ rfl (put_tmps_eq (fill_size _ _ _) (by kernel_rfl)) ⟨trivial, wpAnyH_done (by kernel_rfl) ?_ _⟩)
        have GC := Lib.hid (GB.out.trans (((below_drewN (Below.refl wb.heap.size wb) 1).trans hgr).mono GB.out.size))
        clear hG hgr GB XC KW T1 T2 T3 X1 X2
        simp only [fill, dstAt, List.getElem?_cons_zero, List.getElem?_cons_succ, Option.bind_some, Act.put, List.setIfInBounds_toArray, List.set_cons_zero, List.set_cons_succ]
        generalize vals 0 = v0, vals 1 = v1, vals 2 = v2, vals 3 = v3, vals 4 = v4, vals 5 = v5, vals 6 = v6, vals 7 = v7, vals 8 = v8, vals 9 = v9, vals 10 = v10, vals 11 = v11, vals 12 = v12, vals 13 = v13, vals 14 = v14, vals 15 = v15, vals 16 = v16, vals 17 = v17, vals 18 = v18, vals 19 = v19, vals 20 = v20, vals 21 = v21, vals 22 = v22
        generalize w' = w4' at *
        go_wp2_with fail
        refine (T4.out _).mono ?_
        rintro e w5 ⟨rfl, hb1⟩
        have G5 := Lib.hid (GC.out.trans (hb1.mono GC.out.size))
        clear hb1 GC
        go_wp2_with fail
        refine (T5.out _).mono ?_
        rintro e w6 ⟨rfl, hb1⟩
        have G6 := Lib.hid (G5.out.trans (hb1.mono G5.out.size))
        clear hb1 G5
        have x3 := X3.out
        have x4 := X4.out
        have ue := UE.out
        go_wp2_with fail
        refine (T6.out _).mono ?_
        rintro e w7 ⟨rfl, hb1⟩
        have G7 := Lib.hid (G6.out.trans (hb1.mono G6.out.size))
        clear hb1 G6
        go_wp2_with fail
        clear x3 x4 ue
        have YC : Hid (∀ W : World, Below w7.drew.heap.size w7.drew W → W.cell? ⟨g, 0, none⟩ = some (.int .i64 (s0 : Int)) ∧ W.cell? ⟨g, 1, none⟩ = some (.int .i64 (s1 : Int)) ∧ W.cell? ⟨g, 2, none⟩ = some (.int .i64 (s2 : Int)) ∧ W.cell? ⟨g, 3, none⟩ = some (.int .i64 (s3 : Int)) ∧ W.cell? ⟨g, 4, none⟩ = some (.int .i64 (s4 : Int)) ∧ W.cell? ⟨g, 5, none⟩ = some (.int .i64 (s5 : Int)) ∧ W.cell? ⟨g, 6, none⟩ = some (.int .i64 (s6 : Int)) ∧ W.cell? ⟨g, 7, none⟩ = some (.int .i64 (s7 : Int))) := Lib.hid fun w' hw => CS.out w' (G7.out.trans (((below_drewN (Below.refl w7.heap.size w7) 1).trans hw).mono G7.out.size))
        refine wp_region_free [0, 1, 2, 3, 4, 5, 6, 7, 8, 9, 10, 11, 12, 13, 14, 15, 16, 17, 18, 19, 20, 21, 22, 23, 24, 25, 26, 27] 28 [29] (fun w1 w2 => Below w1.heap.size w1 w2) (fun k' w' v => match k' with
          | 0 => v = .int .i64 ((tt : Int))
          | 1 => v = .int .i64 ((uu : Int))
          | 2 => v = .int .i64 ((tt : Int) + ((uu : Int)))
          | 3 => v = .int .i64 ((e0 : Int))
          | 4 => v = .slice (some ⟨g, 0, none⟩) 8 cv
          | 5 => v = .pointer (some ⟨g, 0, none⟩)
          | 6 => v = .int .i64 ((s0 : Int))
          | 7 => v = .slice (some ⟨g, 0, none⟩) 8 cv
          | 8 => v = .pointer (some ⟨g, 1, none⟩)
          | 9 => v = .int .i64 ((s1 : Int))
          | 10 => v = .slice (some ⟨g, 0, none⟩) 8 cv
          | 11 => v = .pointer (some ⟨g, 2, none⟩)
          | 12 => v = .int .i64 ((s2 : Int))
          | 13 => v = .slice (some ⟨g, 0, none⟩) 8 cv
          | 14 => v = .pointer (some ⟨g, 3, none⟩)
          | 15 => v = .int .i64 ((s3 : Int))
          | 16 => v = .int .i64 ((tt : Int))
          | 17 => v = .int .i64 ((s3 : Int) + ((tt : Int)))
          | 18 => v = .int .i64 ((e4 : Int))
          | 19 => v = .slice (some ⟨g, 0, none⟩) 8 cv
          | 20 => v = .pointer (some ⟨g, 4, none⟩)
          | 21 => v = .int .i64 ((s4 : Int))
          | 22 => v = .slice (some ⟨g, 0, none⟩) 8 cv
          | 23 => v = .pointer (some ⟨g, 5, none⟩)
          | 24 => v = .int .i64 ((s5 : Int))
          | 25 => v = .slice (some ⟨g, 0, none⟩) 8 cv
          | 26 => v = .pointer (some ⟨g, 6, none⟩)
          | _ => v = .int .i64 ((s6 : Int))) (by kernel_rfl) (by kernel_rfl) (Below.refl _ _) (fun _ _ _ h k => h.trans (k.mono h.size)) (fun k' w1 w2 v h => match k' with
          | 0 => fun x => x
          | 1 => fun x => x
          | 2 => fun x => x
          | 3 => fun x => x
          | 4 => fun x => x
          | 5 => fun x => x
          | 6 => fun x => x
          | 7 => fun x => x
          | 8 => fun x => x
          | 9 => fun x => x
          | 10 => fun x => x
          | 11 => fun x => x
          | 12 => fun x => x
          | 13 => fun x => x
          | 14 => fun x => x
          | 15 => fun x => x
          | 16 => fun x => x
          | 17 => fun x => x
          | 18 => fun x => x
          | 19 => fun x => x
          | 20 => fun x => x
          | 21 => fun x => x
          | 22 => fun x => x
          | 23 => fun x => x
          | 24 => fun x => x
          | 25 => fun x => x
          | 26 => fun x => x
          | _ + 27 => fun x => x) (fun _ _ _ _ _ h => h) ?_ _ (by rfl) ?_
        · refine obs_cons (by rfl) (fun vals w' hgr hdep K hK => ?_) (obs_cons (by rfl) (fun vals w' hgr hdep K hK => ?_) (obs_cons (by rfl) (fun vals w' hgr hdep K hK => ?_) (obs_cons (by rfl) (fun vals w' hgr hdep K hK => ?_) (obs_cons (by rfl) (fun vals w' hgr hdep K hK => ?_) (obs_cons (by rfl) (fun vals w' hgr hdep K hK => ?_) (obs_cons (by rfl) (fun vals w' hgr hdep K hK => ?_) (obs_cons (by rfl) (fun vals w' hgr hdep K hK => ?_) (obs_cons (by rfl) (fun vals w' hgr hdep K hK => ?_) (obs_cons (by rfl) (fun vals w' hgr hdep K hK => ?_) (obs_cons (by rfl) (fun vals w' hgr hdep K hK => ?_) (obs_cons (by rfl) (fun vals w' hgr hdep K hK => ?_) (obs_cons (by rfl) (fun vals w' hgr hdep K hK => ?_) (obs_cons (by rfl) (fun vals w' hgr hdep K hK => ?_) (obs_cons (by rfl) (fun vals w' hgr hdep K hK => ?_) (obs_cons (by rfl) (fun vals w' hgr hdep K hK => ?_) (obs_cons (by rfl) (fun vals w' hgr hdep K hK => ?_) (obs_cons (by rfl) (fun vals w' hgr hdep K hK => ?_) (obs_cons (by rfl) (fun vals w' hgr hdep K hK => ?_) (obs_cons (by rfl) (fun vals w' hgr hdep K hK => ?_) (obs_cons (by rfl) (fun vals w' hgr hdep K hK => ?_) (obs_cons (by rfl) (fun vals w' hgr hdep K hK => ?_) (obs_cons (by rfl) (fun vals w' hgr hdep K hK => ?_) (obs_cons (by rfl) (fun vals w' hgr hdep K hK => ?_) (obs_cons (by rfl) (fun vals w' hgr hdep K hK => ?_) (obs_cons (by rfl) (fun vals w' hgr hdep K hK => ?_) (obs_cons (by rfl) (fun vals w' hgr hdep K hK => ?_) (obs_cons (by rfl) (fun vals w' hgr hdep K hK => ?_) (obs_nil))))))))))))))))))))))))))))
          · exact wp_move (.tmp 15) rfl _ (at_out _ (by kernel_rfl) rfl) (hK _ _ (Below.refl _ _) rfl)
          · exact wp_move (.tmp 16) rfl _ (at_out _ (by kernel_rfl) rfl) (hK _ _ (Below.refl _ _) rfl)
          · exact wp_bin (.tmp 109) (.tmp 110) rfl _ _ _ ((at_dst 0 (by kernel_rfl)).trans (hdep 0 (by simp) (by kernel_rfl))) ((at_dst 1 (by kernel_rfl)).trans (hdep 1 (by simp) (by kernel_rfl))) (b_add _ _ _ _ _ (by omega) (by omega)) (hK _ _ (Below.refl _ _) rfl)
          · exact wp_bin (.tmp 111) (.const (.int .i64 4294967296)) rfl _ _ _ ((at_dst 2 (by kernel_rfl)).trans (hdep 2 (by simp) (by kernel_rfl))) rfl ((b_rem _ _ _ _ _ (by omega) (by omega) (by decide)).trans (by rw [E0.out])) (hK _ _ (Below.refl _ _) rfl)
          · exact wp_move (.tmp 9) rfl _ (at_out _ (by kernel_rfl) rfl) (hK _ _ (Below.refl _ _) rfl)
          · exact st_int_at0 (.tmp 113) (.const (.int .i64 0)) rfl g 8 cv 0 _ ((at_dst 4 (by kernel_rfl)).trans (hdep 4 (by simp) (by kernel_rfl))) rfl rfl (by decide) (hK _ _ (Below.refl _ _) rfl)
          · exact wp_load1 (.tmp 114) rfl ⟨g, 0, none⟩ ((at_dst 5 (by kernel_rfl)).trans (hdep 5 (by simp) (by kernel_rfl))) Tryz.underlying3 rfl _ ((YC.out w' hgr).1) (hK _ _ (Below.refl _ _) rfl)
          · exact wp_move (.tmp 9) rfl _ (at_out _ (by kernel_rfl) rfl) (hK _ _ (Below.refl _ _) rfl)
          · exact st_int_at0 (.tmp 116) (.const (.int .i64 1)) rfl g 8 cv 1 _ ((at_dst 7 (by kernel_rfl)).trans (hdep 7 (by simp) (by kernel_rfl))) rfl rfl (by decide) (hK _ _ (Below.refl _ _) rfl)
          · exact wp_load1 (.tmp 117) rfl ⟨g, 1, none⟩ ((at_dst 8 (by kernel_rfl)).trans (hdep 8 (by simp) (by kernel_rfl))) Tryz.underlying3 rfl _ ((YC.out w' hgr).2.1) (hK _ _ (Below.refl _ _) rfl)
          · exact wp_move (.tmp 9) rfl _ (at_out _ (by kernel_rfl) rfl) (hK _ _ (Below.refl _ _) rfl)
          · exact st_int_at0 (.tmp 119) (.const (.int .i64 2)) rfl g 8 cv 2 _ ((at_dst 10 (by kernel_rfl)).trans (hdep 10 (by simp) (by kernel_rfl))) rfl rfl (by decide) (hK _ _ (Below.refl _ _) rfl)
          · exact wp_load1 (.tmp 120) rfl ⟨g, 2, none⟩ ((at_dst 11 (by kernel_rfl)).trans (hdep 11 (by simp) (by kernel_rfl))) Tryz.underlying3 rfl _ ((YC.out w' hgr).2.2.1) (hK _ _ (Below.refl _ _) rfl)
          · exact wp_move (.tmp 9) rfl _ (at_out _ (by kernel_rfl) rfl) (hK _ _ (Below.refl _ _) rfl)
          · exact st_int_at0 (.tmp 122) (.const (.int .i64 3)) rfl g 8 cv 3 _ ((at_dst 13 (by kernel_rfl)).trans (hdep 13 (by simp) (by kernel_rfl))) rfl rfl (by decide) (hK _ _ (Below.refl _ _) rfl)
          · exact wp_load1 (.tmp 123) rfl ⟨g, 3, none⟩ ((at_dst 14 (by kernel_rfl)).trans (hdep 14 (by simp) (by kernel_rfl))) Tryz.underlying3 rfl _ ((YC.out w' hgr).2.2.2.1) (hK _ _ (Below.refl _ _) rfl)
          · exact wp_move (.tmp 15) rfl _ (at_out _ (by kernel_rfl) rfl) (hK _ _ (Below.refl _ _) rfl)
          · exact wp_bin (.tmp 124) (.tmp 125) rfl _ _ _ ((at_dst 15 (by kernel_rfl)).trans (hdep 15 (by simp) (by kernel_rfl))) ((at_dst 16 (by kernel_rfl)).trans (hdep 16 (by simp) (by kernel_rfl))) (b_add _ _ _ _ _ (by omega) (by omega)) (hK _ _ (Below.refl _ _) rfl)
          · exact wp_bin (.tmp 126) (.const (.int .i64 4294967296)) rfl _ _ _ ((at_dst 17 (by kernel_rfl)).trans (hdep 17 (by simp) (by kernel_rfl))) rfl ((b_rem _ _ _ _ _ (by omega) (by omega) (by decide)).trans (by rw [E4.out])) (hK _ _ (Below.refl _ _) rfl)
          · exact wp_move (.tmp 9) rfl _ (at_out _ (by kernel_rfl) rfl) (hK _ _ (Below.refl _ _) rfl)
          · exact st_int_at0 (.tmp 128) (.const (.int .i64 4)) rfl g 8 cv 4 _ ((at_dst 19 (by kernel_rfl)).trans (hdep 19 (by simp) (by kernel_rfl))) rfl rfl (by decide) (hK _ _ (Below.refl _ _) rfl)
          · exact wp_load1 (.tmp 129) rfl ⟨g, 4, none⟩ ((at_dst 20 (by kernel_rfl)).trans (hdep 20 (by simp) (by kernel_rfl))) Tryz.underlying3 rfl _ ((YC.out w' hgr).2.2.2.2.1) (hK _ _ (Below.refl _ _) rfl)
          · exact wp_move (.tmp 9) rfl _ (at_out _ (by kernel_rfl) rfl) (hK _ _ (Below.refl _ _) rfl)
          · exact st_int_at0 (.tmp 131) (.const (.int .i64 5)) rfl g 8 cv 5 _ ((at_dst 22 (by kernel_rfl)).trans (hdep 22 (by simp) (by kernel_rfl))) rfl rfl (by decide) (hK _ _ (Below.refl _ _) rfl)
          · exact wp_load1 (.tmp 132) rfl ⟨g, 5, none⟩ ((at_dst 23 (by kernel_rfl)).trans (hdep 23 (by simp) (by kernel_rfl))) Tryz.underlying3 rfl _ ((YC.out w' hgr).2.2.2.2.2.1) (hK _ _ (Below.refl _ _) rfl)
          · exact wp_move (.tmp 9) rfl _ (at_out _ (by kernel_rfl) rfl) (hK _ _ (Below.refl _ _) rfl)
          · exact st_int_at0 (.tmp 134) (.const (.int .i64 6)) rfl g 8 cv 6 _ ((at_dst 25 (by kernel_rfl)).trans (hdep 25 (by simp) (by kernel_rfl))) rfl rfl (by decide) (hK _ _ (Below.refl _ _) rfl)
          · exact wp_load1 (.tmp 135) rfl ⟨g, 6, none⟩ ((at_dst 26 (by kernel_rfl)).trans (hdep 26 (by simp) (by kernel_rfl))) Tryz.underlying3 rfl _ ((YC.out w' hgr).2.2.2.2.2.2.1) (hK _ _ (Below.refl _ _) rfl)
        · intro vals w' hgr hG
          refine st_slicei_8 (.tmp 112) (.tmp 115) (.tmp 118) (.tmp 121) (.tmp 127) (.tmp 130) (.tmp 133) (.tmp 136) rfl (e0 : Int) (s0 : Int) (s1 : Int) (s2 : Int) (e4 : Int) (s4 : Int) (s5 : Int) (s6 : Int) ((at_dst 3 (by kernel_rfl)).trans (hG 3 (by simp))) ((at_dst 6 (by kernel_rfl)).trans (hG 6 (by simp))) ((at_dst 9 (by kernel_rfl)).trans (hG 9 (by simp))) ((at_dst 12 (by kernel_rfl)).trans (hG 12 (by simp))) ((at_dst 18 (by kernel_rfl)).trans (hG 18 (by simp))) ((at_dst 21 (by kernel_rfl)).trans (hG 21 (by simp))) ((at_dst 24 (by kernel_rfl)).trans (hG 24 (by simp))) ((at_dst 27 (by kernel_rfl)).trans (hG 27 (by simp))) ?_
          refine wpAnyH_next 29 _ rfl rfl (by kernel_rfl) (st_assign (.tmp 137) _ rfl (put_tmps_eq (fill_size _ _ _) (by kernel_rfl)) ⟨trivial, wpAnyH_done (by kernel_rfl) ?_ _⟩)
          have G8 := G7.out.trans (((below_drewN (Below.refl w7.heap.size w7) 1).trans hgr).mono G7.out.size)
          have W8 : w3.heap.size ≤ w'.heap.size := Nat.le_trans BSZ G8.size
          have RX : Hid (IRow (w'.alloc (.cells #[.int .i64 (e0 : Int), .int .i64 (s0 : Int), .int .i64 (s1 : Int), .int .i64 (s2 : Int), .int .i64 (e4 : Int), .int .i64 (s4 : Int), .int .i64 (s5 : Int), .int .i64 (s6 : Int)] 3)) w'.heap.size [e0, s0, s1, s2, e4, s4, s5, s6]) := Lib.hid (IRow.new w' [e0, s0, s1, s2, e4, s4, s5, s6])
          have OX : Hid (IOwn (w'.alloc (.cells #[.int .i64 (e0 : Int), .int .i64 (s0 : Int), .int .i64 (s1 : Int), .int .i64 (s2 : Int), .int .i64 (e4 : Int), .int .i64 (s4 : Int), .int .i64 (s5 : Int), .int .i64 (s6 : Int)] 3)) w3.heap.size (.slice (some ⟨w'.heap.size, 0, none⟩) 8 8) [e0, s0, s1, s2, e4, s4, s5, s6]) := Lib.hid (IOwn.of_row RX.out W8 (by simp))
          have BX : Hid (Below w3.heap.size w3 (w'.alloc (.cells #[.int .i64 (e0 : Int), .int .i64 (s0 : Int), .int .i64 (s1 : Int), .int .i64 (s2 : Int), .int .i64 (e4 : Int), .int .i64 (s4 : Int), .int .i64 (s5 : Int), .int .i64 (s6 : Int)] 3))) := Lib.hid ((HB.out.trans (G8.mono BSZ)).alloc W8 _)
          obtain ⟨g9, hg9⟩ : ∃ g9, g9 = w'.heap.size := ⟨_, rfl⟩
          have G9 : Hid (w3.heap.size ≤ g9) := Lib.hid (by rw [hg9]; exact W8)
          clear hG hgr G8 W8 YC G7 HB
          simp only [fill, dstAt, List.getElem?_cons_zero, List.getElem?_cons_succ, Option.bind_some, Act.put, List.setIfInBounds_toArray, List.set_cons_zero, List.set_cons_succ]
          generalize w'.alloc (.cells #[.int .i64 (e0 : Int), .int .i64 (s0 : Int), .int .i64 (s1 : Int), .int .i64 (s2 : Int), .int .i64 (e4 : Int), .int .i64 (s4 : Int), .int .i64 (s5 : Int), .int .i64 (s6 : Int)] 3) = w9 at *
          rw [← hg9] at RX OX ⊢
          clear hg9
          generalize vals 0 = p0', vals 1 = p1', vals 2 = p2', vals 3 = p3', vals 4 = p4', vals 5 = p5', vals 6 = p6', vals 7 = p7', vals 8 = p8', vals 9 = p9', vals 10 = p10', vals 11 = p11', vals 12 = p12', vals 13 = p13', vals 14 = p14', vals 15 = p15', vals 16 = p16', vals 17 = p17', vals 18 = p18', vals 19 = p19', vals 20 = p20', vals 21 = p21', vals 22 = p22', vals 23 = p23', vals 24 = p24', vals 25 = p25', vals 26 = p26', vals 27 = p27'
          go_wp2_with fail
          go_roundw
          case rel => exact ⟨j + 1, [e0, s0, s1, s2, e4, s4, s5, s6], by go_num, by omega, Lib.hid rfl, SL2, HE2, OX, Lib.hid (fun _ => ⟨g9, rfl, RX.out, G9.out⟩), BX⟩
          case measure => simp [intOf]; omega
    · obtain rfl : j = 64 := by omega
      have SF : Hid (S = F) := Lib.hid HE.out
      obtain ⟨g, rfl, hrow, hg⟩ := HR.out (by decide)
      rw [SF.out] at hrow
      have GW : Hid (w.heap.size ≤ g) := Lib.hid (Nat.le_trans W3S.out hg)
      have GL := Lib.hid hrow.lt
      have R0 : Hid (IRow wr g (mixd F S0 0)) := Lib.hid (by rw [mixd_zero S0 FL.out.1]; exact hrow)
      have RF : Hid (mixd F S0 8 = round S0 BB) := Lib.hid (by rw [HFH.out]; exact mixd_full S0 BB)
      have BW := Lib.hid (BB3.out.trans (HB.out.mono W3S.out))
      generalize wr = wo at *
      clear HO HR HE hrow hg HL HW HB KC WC
      go_wp2_with fail
      go_loopw [17] (fun kv wr => ∃ j : Nat, kv = .int .i64 (j : Int) ∧ j ≤ 8 ∧ Hid (IRow wr g (mixd F S0 j)) ∧ Hid (Below g wo wr)) (fun kv _ => 8 - (intOf kv).toNat)
      case atStart => exact ⟨0, rfl, by omega, R0, Lib.hid (Below.refl _ _)⟩
      case round =>
        obtain ⟨j, rfl, hj, HR, HB⟩ := hrel
        clear R0
        by_cases hlt : j < 8
        · have x1 := FL.out.2.get j
          have x2 := SN.out.2.1.get j
          have FY : Hid ((F.getD j 0 + S0.getD j 0) % M = (F.getD j 0 + S0.getD j 0) % M) := Lib.hid rfl
          obtain ⟨y, hy⟩ : ∃ y, y = (F.getD j 0 + S0.getD j 0) % M := ⟨_, rfl⟩
          have MY : Hid ((mixd F S0 j).set j y = mixd F S0 (j + 1)) := Lib.hid (by rw [hy]; exact mixd_set F S0 j)
          have ZC : Hid (∀ W : World, Below wr.drew.heap.size wr.drew W → W.cell? ⟨g, j, none⟩ = some (.int .i64 ((F.getD j 0 : Nat) : Int)) ∧ W.cell? ⟨q, p + j, none⟩ = some (.int .i64 ((S0.getD j 0 : Nat) : Int))) := Lib.hid fun W hW => by
            have hx := (below_drewN (Below.refl wr.heap.size wr) 1).trans hW
            have c1 := (IRow.up HR.out hx).cell j (by rw [mixd_len]; exact hlt)
            rw [mixd_get F S0 hlt] at c1
            exact ⟨c1, SCL.out W ((BW.out.trans (HB.out.mono GW.out)).trans (hx.mono (Nat.le_trans GW.out (Nat.le_of_lt HR.out.lt)))) j hlt⟩
          generalize F.getD j 0 = x at *
          generalize S0.getD j 0 = z at *
          unfold M at x1 x2 hy
          have YE : Hid (((x : Int) + (z : Int)) % 4294967296 = (y : Int)) := Lib.hid (by omega)
          clear hy FY
          go_wp2_with fail
          refine wp_region_free [0, 1, 2, 3, 4, 5, 6, 7, 8, 9, 10, 11] 12 [13] (fun w1 w2 => Below w1.heap.size w1 w2) (fun k' w' v => match k' with
            | 0 => v = .slice (some ⟨g, 0, none⟩) 8 8
            | 1 => v = .int .i64 ((j : Int))
            | 2 => v = .slice (some ⟨g, 0, none⟩) 8 8
            | 3 => v = .int .i64 ((j : Int))
            | 4 => v = .pointer (some ⟨g, j, none⟩)
            | 5 => v = .int .i64 ((x : Int))
            | 6 => v = .slice (some ⟨q, p, none⟩) 8 c
            | 7 => v = .int .i64 ((j : Int))
            | 8 => v = .pointer (some ⟨q, p + j, none⟩)
            | 9 => v = .int .i64 ((z : Int))
            | 10 => v = .int .i64 ((x : Int) + ((z : Int)))
            | _ => v = .int .i64 ((y : Int))) (by kernel_rfl) (by kernel_rfl) (Below.refl _ _) (fun _ _ _ h k => h.trans (k.mono h.size)) (fun k' w1 w2 v h => match k' with
            | 0 => fun x => x
            | 1 => fun x => x
            | 2 => fun x => x
            | 3 => fun x => x
            | 4 => fun x => x
            | 5 => fun x => x
            | 6 => fun x => x
            | 7 => fun x => x
            | 8 => fun x => x
            | 9 => fun x => x
            | 10 => fun x => x
            | _ + 11 => fun x => x) (fun _ _ _ _ _ h => h) ?_ _ (by rfl) ?_
          · refine obs_cons (by rfl) (fun vals w' hgr hdep K hK => ?_) (obs_cons (by rfl) (fun vals w' hgr hdep K hK => ?_) (obs_cons (by rfl) (fun vals w' hgr hdep K hK => ?_) (obs_cons (by rfl) (fun vals w' hgr hdep K hK => ?_) (obs_cons (by rfl) (fun vals w' hgr hdep K hK => ?_) (obs_cons (by rfl) (fun vals w' hgr hdep K hK => ?_) (obs_cons (by rfl) (fun vals w' hgr hdep K hK => ?_) (obs_cons (by rfl) (fun vals w' hgr hdep K hK => ?_) (obs_cons (by rfl) (fun vals w' hgr hdep K hK => ?_) (obs_cons (by rfl) (fun vals w' hgr hdep K hK => ?_) (obs_cons (by rfl) (fun vals w' hgr hdep K hK => ?_) (obs_cons (by rfl) (fun vals w' hgr hdep K hK => ?_) (obs_nil))))))))))))
            · exact wp_move (.tmp 9) rfl _ (at_out _ (by kernel_rfl) rfl) (hK _ _ (Below.refl _ _) rfl)
            · exact wp_move (.tmp 17) rfl _ (at_out _ (by kernel_rfl) rfl) (hK _ _ (Below.refl _ _) rfl)
            · exact wp_move (.tmp 9) rfl _ (at_out _ (by kernel_rfl) rfl) (hK _ _ (Below.refl _ _) rfl)
            · exact wp_move (.tmp 17) rfl _ (at_out _ (by kernel_rfl) rfl) (hK _ _ (Below.refl _ _) rfl)
            · exact st_int_at0 (.tmp 144) (.tmp 145) rfl g 8 8 j _ ((at_dst 2 (by kernel_rfl)).trans (hdep 2 (by simp) (by kernel_rfl))) ((at_dst 3 (by kernel_rfl)).trans (hdep 3 (by simp) (by kernel_rfl))) rfl hlt (hK _ _ (Below.refl _ _) rfl)
            · exact wp_load1 (.tmp 146) rfl ⟨g, j, none⟩ ((at_dst 4 (by kernel_rfl)).trans (hdep 4 (by simp) (by kernel_rfl))) Tryz.underlying3 rfl _ ((ZC.out w' hgr).1) (hK _ _ (Below.refl _ _) rfl)
            · exact wp_move (.tmp 0) rfl _ (at_out _ (by kernel_rfl) rfl) (hK _ _ (Below.refl _ _) rfl)
            · exact wp_move (.tmp 17) rfl _ (at_out _ (by kernel_rfl) rfl) (hK _ _ (Below.refl _ _) rfl)
            · exact st_int_at (.tmp 148) (.tmp 149) rfl q p 8 c j _ ((at_dst 6 (by kernel_rfl)).trans (hdep 6 (by simp) (by kernel_rfl))) ((at_dst 7 (by kernel_rfl)).trans (hdep 7 (by simp) (by kernel_rfl))) rfl hlt (hK _ _ (Below.refl _ _) rfl)
            · exact wp_load1 (.tmp 150) rfl ⟨q, p + j, none⟩ ((at_dst 8 (by kernel_rfl)).trans (hdep 8 (by simp) (by kernel_rfl))) Tryz.underlying3 rfl _ ((ZC.out w' hgr).2) (hK _ _ (Below.refl _ _) rfl)
            · exact wp_bin (.tmp 147) (.tmp 151) rfl _ _ _ ((at_dst 5 (by kernel_rfl)).trans (hdep 5 (by simp) (by kernel_rfl))) ((at_dst 9 (by kernel_rfl)).trans (hdep 9 (by simp) (by kernel_rfl))) (b_add _ _ _ _ _ (by omega) (by omega)) (hK _ _ (Below.refl _ _) rfl)
            · exact wp_bin (.tmp 152) (.const (.int .i64 4294967296)) rfl _ _ _ ((at_dst 10 (by kernel_rfl)).trans (hdep 10 (by simp) (by kernel_rfl))) rfl ((b_rem _ _ _ _ _ (by omega) (by omega) (by decide)).trans (by rw [YE.out])) (hK _ _ (Below.refl _ _) rfl)
          · intro vals w' hgr hG
            refine st_int_at0 (.tmp 142) (.tmp 143) rfl g 8 8 j _ ((at_dst 0 (by kernel_rfl)).trans (hG 0 (by simp))) ((at_dst 1 (by kernel_rfl)).trans (hG 1 (by simp))) rfl hlt ?_
            have W8 := IRow.up HR.out ((below_drewN (Below.refl wr.heap.size wr) 1).trans hgr)
            refine wpAnyH_next 13 _ rfl rfl (by kernel_rfl) (st_store1 (.tmp 154) (.tmp 153) rfl ⟨g, j, none⟩ (put_tmps_eq (fill_size _ _ _) (by kernel_rfl)) _ (put_tmps_ne (by rfl) ((at_dst 11 (by kernel_rfl)).trans (hG 11 (by simp)))) _ (W8.cell j (by rw [mixd_len]; exact hlt)) (W8.free j) ⟨trivial, wpAnyH_done (by kernel_rfl) ?_ _⟩)
            have R2 : Hid (IRow (w'.setCell ⟨g, j, none⟩ (.int .i64 (y : Int))) g (mixd F S0 (j + 1))) := Lib.hid (by have := W8.put j y; rw [MY.out] at this; exact this)
            have B9 : Hid (Below g wo (w'.setCell ⟨g, j, none⟩ (.int .i64 (y : Int)))) := Lib.hid (((below_drewN HB.out 1).trans (hgr.mono (Nat.le_of_lt HR.out.lt))).setCell (p := ⟨g, j, none⟩) (Nat.le_refl _) (.int .i64 (y : Int)))
            clear hG hgr W8 HR HB ZC
            simp only [fill, dstAt, List.getElem?_cons_zero, List.getElem?_cons_succ, Option.bind_some, Act.put, List.setIfInBounds_toArray, List.set_cons_zero, List.set_cons_succ]
            generalize w'.setCell ⟨g, j, none⟩ (.int .i64 (y : Int)) = w9 at *
            generalize vals 0 = z0, vals 1 = z1, vals 2 = z2, vals 3 = z3, vals 4 = z4, vals 5 = z5, vals 6 = z6, vals 7 = z7, vals 8 = z8, vals 9 = z9, vals 10 = z10, vals 11 = z11
            go_wp2_with fail
            go_roundw
            case rel => exact ⟨j + 1, by go_num, by omega, R2, B9⟩
            case measure => simp [intOf]; omega
        · obtain rfl : j = 8 := by omega
          have OF : Hid (IOwn wr w.heap.size (.slice (some ⟨g, 0, none⟩) 8 8) (round S0 BB)) := Lib.hid (by
            have := IOwn.of_row HR.out GW.out (by rw [mixd_len]; decide)
            rw [mixd_len, RF.out] at this
            exact this)
          have BF := Lib.hid (BW.out.trans (HB.out.mono GW.out))
          clear HR HB
          go_wp2_with fail
          go_ret2
          exact ⟨_, rfl, OF.out, BF.out⟩
end Go.Proofs.YtdnkbefpbehllaaGreatDoor.ShaQ

/- The contract of the document's Of: the digest of bytes. -/
set_option linter.unusedVariables false
namespace Go.Proofs.YtdnkbefpbehllaaGreatDoor.ShaO
open Go.RowKit Go.Proofs.YtdnkbefpbehllaaGreatDoor.Sums Go.Proofs.YtdnkbefpbehllaaGreatDoor.Mem Go.Proofs.YtdnkbefpbehllaaGreatDoor.Blk Go.Proofs.YtdnkbefpbehllaaGreatDoor.Bits Go.Proofs.YtdnkbefpbehllaaGreatDoor.Bits3 Go.Proofs.YtdnkbefpbehllaaGreatDoor.Ints Go.Proofs.YtdnkbefpbehllaaGreatDoor.IntsO Go.Proofs.YtdnkbefpbehllaaGreatDoor.Steps Go.Proofs.YtdnkbefpbehllaaGreatDoor.Ops Go.Proofs.YtdnkbefpbehllaaGreatDoor.CutA Go.Proofs.YtdnkbefpbehllaaGreatDoor.ShaD Go.Proofs.YtdnkbefpbehllaaGreatDoor.ShaR1 Go.Proofs.YtdnkbefpbehllaaGreatDoor.ShaC Go.Proofs.YtdnkbefpbehllaaGreatDoor.ShaW Go.Proofs.YtdnkbefpbehllaaGreatDoor.ShaQ

theorem four_any (z : Int) (w : World) (z0 : 0 ≤ z) (z1 : z ≤ 4294967295) :
    Calls Tryz.prog 30 #[.int .i64 z] w fun e w' => ∃ A, e = .returned (.slice A 4 4) ∧ Holds w' w'.heap.size A 4 4 [z / 16777216, z / 65536 % 256, z / 256 % 256, z % 256] ∧ Below w.heap.size w w' := by
  have e1 : z.tdiv 16777216 = z / 16777216 := Int.tdiv_eq_ediv_of_nonneg z0
  have e2 : z.tdiv 65536 = z / 65536 := Int.tdiv_eq_ediv_of_nonneg z0
  have e3 : z.tdiv 256 = z / 256 := Int.tdiv_eq_ediv_of_nonneg z0
  have e4 : z.tmod 256 = z % 256 := Int.tmod_eq_emod_of_nonneg z0
  have e5 : (z / 65536).tmod 256 = z / 65536 % 256 := Int.tmod_eq_emod_of_nonneg (by omega)
  have e6 : (z / 256).tmod 256 = z / 256 % 256 := Int.tmod_eq_emod_of_nonneg (by omega)
  have f1 : IntKind.u8.wrap (z / 16777216) = z / 16777216 := by rw [IntKind.wrap_u8]; omega
  have f2 : IntKind.u8.wrap (z / 65536 % 256) = z / 65536 % 256 := by rw [IntKind.wrap_u8]; omega
  have f3 : IntKind.u8.wrap (z / 256 % 256) = z / 256 % 256 := by rw [IntKind.wrap_u8]; omega
  have f4 : IntKind.u8.wrap (z % 256) = z % 256 := by rw [IntKind.wrap_u8]; omega
  have HL := Lib.hid (Holds.lit w [z / 16777216, z / 65536 % 256, z / 256 % 256, z % 256] #[.int .u8 (z / 16777216), .int .u8 (z / 65536 % 256), .int .u8 (z / 256 % 256), .int .u8 (z % 256)] rfl (by simp [maxLen]) (fun y hy => by simp at hy; omega))
  go_enter Tryz.func30, Tryz.ntmps30
  go_wp2_with fail
  go_ret
  exact ⟨_, rfl, by simpa using HL.out, (Below.refl _ _).alloc (Nat.le_refl _) _⟩
theorem four_nat (n : Nat) : [(n : Int) / 16777216, (n : Int) / 65536 % 256, (n : Int) / 256 % 256, (n : Int) % 256] = ints (four n) := by
  simp [ints, four]
theorem four_ref (n : Nat) (hn : n < 4294967296) (w : World) :
    Calls Tryz.prog 30 #[.int .i64 (n : Int)] w fun e w' => ∃ A, e = .returned (.slice A 4 4) ∧ Holds w' w'.heap.size A 4 4 (ints (four n)) ∧ Below w.heap.size w w' := by
  have := four_any (n : Int) w (by omega) (by omega)
  rw [four_nat] at this
  exact this
theorem ints_app (a b : List Nat) : ints (a ++ b) = ints a ++ ints b := by simp [ints]
theorem ints_len (a : List Nat) : (ints a).length = a.length := by simp [ints]
theorem ints_drop (a : List Nat) (k : Nat) : ints (a.drop k) = (ints a).drop k := by simp [ints, List.map_drop]
theorem ints_take (a : List Nat) (k : Nat) : ints (a.take k) = (ints a).take k := by simp [ints, List.map_take]
theorem ints_zeros (k : Nat) : ints (List.replicate (k + 1) 0) = ints (List.replicate k 0) ++ [0] := by
  rw [List.replicate_succ', ints_app]; rfl
theorem zeros_stop {n k : Nat} (h : k ≤ zeros n) : ((n + 1 + k) % 64 = 56) ↔ k = zeros n := by
  unfold zeros at *; omega
theorem run_cut_k (g : Nat) (w : World) : (Instr.sliceAt 78 (.slice (some ⟨g, 0, none⟩) 72 72) (some (.int .i64 64)) none none).run Tryz.prog w = .ok (.slice (some ⟨g, 64, none⟩) 8 8) w := by
  have he : (sizeOf (Tryz.prog.elem 78)).run Tryz.prog w = .ok 1 w := by kernel_rfl
  have e := run_slice_l (P := Tryz.prog) (w := w) (t := 78) (a := some ⟨g, 0, none⟩) (len := 72) (cap := 72) (ht := (by kernel_rfl)) .i64 64 (by omega) (by omega)
  rw [run_sliceAt_slice (P := Tryz.prog) (h := (by kernel_rfl)), e, he]
  rfl
theorem start_ok : stI (ints ShaD.start) = true := by decide +kernel
theorem start_len : ShaD.start.length = 8 := by decide
theorem start_lt : W32 ShaD.start := fun x hx => K_lt x (List.mem_of_mem_drop hx)
theorem start_get (j : Nat) : (ints ShaD.start).getD j 0 = ((K.getD (64 + j) 0 : Nat) : Int) := by
  rw [ints_getD, ShaD.start, List.getD_eq_getElem?_getD, List.getElem?_drop, ← List.getD_eq_getElem?_getD]
theorem stI_of {S : List Nat} (h : S.length = 8) (hl : W32 S) : stI (ints S) = true := by
  simp only [stI, okI, Bool.and_eq_true, List.all_eq_true, decide_eq_true_eq]
  refine ⟨fun z hz => ?_, by rw [ints_len]; exact h⟩
  obtain ⟨x, hx, rfl⟩ := List.mem_map.1 hz
  have := hl x hx
  unfold M at this
  omega
theorem row_next (B : List Nat) (k : Nat) : ints (B ++ 128 :: List.replicate k 0) ++ [0] = ints (B ++ 128 :: List.replicate (k + 1) 0) := by
  rw [List.replicate_succ']; simp [ints]
theorem row_pad {B : List Nat} {n : Nat} (h : B.length = n) : ints (B ++ 128 :: List.replicate (zeros n) 0) ++ (ints (four (8 * n / M)) ++ (ints (four (8 * n % M)) ++ [])) = ints (pad B) := by
  subst h
  simp only [pad, ints, List.map_append, List.map_cons, List.append_nil, List.append_assoc, List.cons_append]
theorem flat_next {F : List Nat} {j : Nat} (h : j < F.length) : (F.take (j + 1)).flatMap four = (F.take j).flatMap four ++ four (F.getD j 0) := by
  rw [List.take_add_one, List.flatMap_append, List.getD_eq_getElem?_getD, List.getElem?_eq_getElem h]
  simp
def lenOf : Value → Nat
  | .slice _ m _ => m
  | _ => 0

set_option maxHeartbeats 2000000 in
set_option maxRecDepth 100000 in
theorem of_ref (A : Option Addr) (n c : Nat) (bs : List Int) (w : World) (B : Nat) (h : Holds w B A n c bs) (hB : B ≤ w.heap.size) (hn : n ≤ 1000000) :
    Calls Tryz.prog 70 #[.slice A n c] w fun e w' => ∃ v, e = .returned v ∧ Owns w' w.heap.size v 32 (ints (digest (nats bs))) ∧ Below w.heap.size w w' := by
  have H1 : Hid (Holds (w.alloc (.cells #[.int .u8 128] 5)) (w.heap.size + 1) A n c bs) := Lib.hid ((h.below ((Below.refl _ w).alloc hB _)).more (by omega))
  have H2 : Hid (Holds (w.alloc (.cells #[.int .u8 128] 5)) (w.heap.size + 1) (some ⟨w.heap.size, 0, none⟩) 1 1 [128]) := Lib.hid (Holds.lit w [128] _ rfl (by simp [maxLen]) (fun z hz => by simp at hz; omega))
  have BA : Hid (Below w.heap.size w (w.alloc (.cells #[.int .u8 128] 5))) := Lib.hid ((Below.refl _ w).alloc (Nat.le_refl _) _)
  have BI : Hid (ints (nats bs) = bs) := Lib.hid (ints_nats fun z hz => h.2.2.2.1 z hz)
  have BL : Hid ((nats bs).length = n) := Lib.hid ((nats_len bs).trans h.1)
  obtain ⟨BN, hBN⟩ : ∃ BN, BN = nats bs := ⟨_, rfl⟩
  rw [← hBN] at BI BL ⊢
  obtain ⟨D, hD⟩ : ∃ D, D = digest BN := ⟨_, rfl⟩
  rw [← hD]
  have DN := Lib.hid hD
  clear h hB hBN hD
  go_enter Tryz.func70, Tryz.ntmps70
  go_wp2_with fail
  refine (Both.both_lit (w := w.alloc (.cells #[.int .u8 128] 5)) (B := w.heap.size + 1) (by simp) [⟨A, n, c, bs⟩, ⟨some ⟨w.heap.size, 0, none⟩, 1, 1, [128]⟩] _ _ rfl (Both.mem2 H1.out H2.out) _ 2 (by simp) rfl (by decide) (by show n + (1 + 0) ≤ 1048576; omega)).mono ?_
  rintro e w1 ⟨A1, c1, rfl, _, o1, hb⟩
  have e1 : Both.flat [⟨A, n, c, bs⟩, ⟨some ⟨w.heap.size, 0, none⟩, 1, 1, [128]⟩] = ints (BN ++ 128 :: List.replicate 0 0) := by
    rw [ints_app, BI.out]; rfl
  have e0 : Both.total [⟨A, n, c, bs⟩, ⟨some ⟨w.heap.size, 0, none⟩, 1, 1, [128]⟩] = n + 1 := rfl
  rw [e1, e0] at o1
  rw [e0]
  have O1 : Hid (Owns w1 w.heap.size (.slice A1 (n + 1) c1) (n + 1) (ints (BN ++ 128 :: List.replicate 0 0))) := Lib.hid (o1.mono (by simp))
  have B1 : Hid (Below w.heap.size w w1) := Lib.hid (BA.out.trans (hb.mono BA.out.size))
  clear o1 hb e1 e0 H1 H2 BA BI
  go_wp2_with fail
  go_loopw [3] (fun mv wr => ∃ (k N : Nat), Hid (N = n + 1 + k) ∧ Hid (k ≤ zeros n) ∧ Hid (Owns wr w.heap.size mv N (ints (BN ++ 128 :: List.replicate k 0))) ∧ Hid (Below w.heap.size w wr)) (fun mv _ => n + 200 - lenOf mv)
  case atStart => exact ⟨0, n + 1, Lib.hid rfl, Lib.hid (Nat.zero_le _), O1, B1⟩
  case round =>
    obtain ⟨k, N, HN, HK, HO, HB⟩ := hrel
    clear O1 B1
    obtain ⟨Am, cm, rfl, _⟩ := HO.out.slice
    have nb : N ≤ 1000100 := by have := HN.out; have := HK.out; unfold zeros at this; omega
    have nlt : Hid (N ≤ n + 65) := Lib.hid (by have := HN.out; have := HK.out; unfold zeros at this; omega)
    obtain ⟨r, hr⟩ : ∃ r, r = N % 64 := ⟨_, rfl⟩
    have em : (N : Int).tmod 64 = (r : Int) := by rw [Int.tmod_eq_emod_of_nonneg (by omega)]; omega
    have ZS : Hid (r = 56 ↔ k = zeros n) := Lib.hid (by rw [hr, HN.out]; exact zeros_stop HK.out)
    clear hr
    by_cases hz : k = zeros n
    · have g : ((r : Int) != 56) = false := by have := ZS.out.2 hz; subst this; rfl
      have HO2 : Hid (Owns wr w.heap.size (.slice Am N cm) N (ints (BN ++ 128 :: List.replicate (zeros n) 0))) := Lib.hid (by rw [← hz]; exact HO.out)
      have NE : Hid (N = n + 1 + zeros n) := Lib.hid (by rw [← hz]; exact HN.out)
      obtain ⟨m8, hm8⟩ : ∃ m8, m8 = 8 * n := ⟨_, rfl⟩
      have f1 : IntKind.i64.wrap (8 * (n : Int)) = (m8 : Int) := by rw [IntWalk.i64_in _ (by omega)]; omega
      obtain ⟨hi, hhi⟩ : ∃ hi, hi = m8 / 4294967296 := ⟨_, rfl⟩
      obtain ⟨lo, hlo⟩ : ∃ lo, lo = m8 % 4294967296 := ⟨_, rfl⟩
      have f2 : (m8 : Int).tdiv 4294967296 = (hi : Int) := by rw [Int.tdiv_eq_ediv_of_nonneg (by omega)]; omega
      have f3 : (m8 : Int).tmod 4294967296 = (lo : Int) := by rw [Int.tmod_eq_emod_of_nonneg (by omega)]; omega
      have f4 : IntKind.i64.wrap (hi : Int) = (hi : Int) := IntWalk.i64_in _ (by omega)
      have PD := Lib.hid (row_pad BL.out)
      unfold M at PD
      rw [← hm8, ← hhi, ← hlo] at PD
      have C1 := Lib.hid (fun W => four_ref hi (by omega) W)
      have C2 := Lib.hid (fun W => four_ref lo (by omega) W)
      generalize wr = wo at *
      clear ZS hz HK HN HO hm8 hhi hlo nlt
      go_wp2_with fail
      refine (C1.out _).mono ?_
      rintro e w5 ⟨A4, rfl, h4, hb⟩
      have B5 := Lib.hid hb
      have H4 := Lib.hid h4
      clear hb h4
      go_wp2_with fail
      refine (C2.out _).mono ?_
      rintro e w6 ⟨A5, rfl, h5, hb⟩
      have H5 := Lib.hid h5
      have H46 := Lib.hid ((H4.out.below hb).more hb.size)
      have B6 := Lib.hid (B5.out.trans (hb.mono B5.out.size))
      have HM6 := Lib.hid ((HO2.out.holds.below B6.out).more B6.out.size)
      clear hb h5 H4 B5 f1 f2 f3 f4 em g
      go_wp2_with fail
      refine (Both.both_lit (B := w6.heap.size) (Nat.le_refl _) [⟨Am, N, cm, ints (BN ++ 128 :: List.replicate (zeros n) 0)⟩, ⟨A4, 4, 4, ints (four hi)⟩, ⟨A5, 4, 4, ints (four lo)⟩] _ _ rfl (Both.mem3 HM6.out H46.out H5.out) _ 3 rfl rfl (by decide) (by show N + (4 + (4 + 0)) ≤ 1048576; omega)).mono ?_
      rintro e w7 ⟨A7, c7, rfl, h7, _, hb⟩
      obtain ⟨L, hL⟩ : ∃ L, L = N + 8 := ⟨_, rfl⟩
      have e0 : Both.total [⟨Am, N, cm, ints (BN ++ 128 :: List.replicate (zeros n) 0)⟩, ⟨A4, 4, 4, ints (four hi)⟩, ⟨A5, 4, 4, ints (four lo)⟩] = L := by rw [hL]; rfl
      have e1 : Both.flat [⟨Am, N, cm, ints (BN ++ 128 :: List.replicate (zeros n) 0)⟩, ⟨A4, 4, 4, ints (four hi)⟩, ⟨A5, 4, 4, ints (four lo)⟩] = ints (pad BN) := PD.out
      rw [e0, e1] at h7
      rw [e0]
      have H7 := Lib.hid h7
      have B7 := Lib.hid (HB.out.trans ((B6.out.trans (hb.mono B6.out.size)).mono HB.out.size))
      have PL : Hid ((pad BN).length = L ∧ L % 64 = 0) := Lib.hid (by
        have q := pad_len BN
        have e : (pad BN).length = L := by rw [q.2, BL.out, hL, NE.out]; omega
        exact ⟨e, by rw [← e]; exact q.1⟩)
      have lb : L ≤ 1000200 := by omega
      have DG : Hid (D = (bgo (L / 64) ShaD.start (pad BN)).flatMap four) := Lib.hid (by rw [DN.out]; unfold digest final; rw [PL.out.1])
      obtain ⟨P, hP⟩ : ∃ P, P = pad BN := ⟨_, rfl⟩
      rw [← hP] at H7 PL DG
      obtain ⟨gm, pm, rfl, _, _⟩ := H7.out.2.2.2.2 (by omega)
      obtain ⟨T, hT⟩ : ∃ T, T = L / 64 := ⟨_, rfl⟩
      have HT : Hid (L = 64 * T) := Lib.hid (by have := PL.out.2; omega)
      rw [← hT] at DG
      clear hb h7 e0 e1 hL PD hP hT DN H46 H5 HM6 B6 HO2 NE HB BL
      go_wp2_with fail
      refine (constants_ref w7).mono ?_
      rintro e w8 ⟨rfl, rk, hb⟩
      obtain ⟨gk, hgk⟩ : ∃ gk, gk = w7.heap.size := ⟨_, rfl⟩
      rw [← hgk] at rk ⊢
      have slk : ∀ W : World, (Instr.sliceAt 78 (.slice (some ⟨gk, 0, none⟩) 72 72) (some (.int .i64 64)) none none).run Tryz.prog W = .ok (.slice (some ⟨gk, 64, none⟩) 8 8) W := fun W => run_cut_k gk W
      have S8 : Hid (HoldsI w8 w8.heap.size (some ⟨gk, 64, none⟩) 8 8 (ints ShaD.start)) := Lib.hid ⟨by rw [ints_len, start_len], by decide, fun z hz => by
          obtain ⟨x, hx, rfl⟩ := List.mem_map.1 hz
          have := start_lt x hx
          unfold M at this
          omega, fun _ => ⟨gk, 64, rfl, rk.lt, fun j hj => by
          rw [start_get]
          exact rk.cell (64 + j) (by rw [K_len]; omega)⟩⟩
      have H8 := Lib.hid ((H7.out.below hb).more hb.size)
      have B8 := Lib.hid (B7.out.trans (hb.mono B7.out.size))
      clear hb rk hgk H7 B7
      go_wp2_with fail
      clear slk
      go_loopw [4, 5] (fun sv iv wr => ∃ (k i : Nat) (S : List Nat) (As : Option Addr) (cs : Nat), sv = .slice As 8 cs ∧ iv = .int .i64 (i : Int) ∧ Hid (i = 64 * k) ∧ Hid (k ≤ T) ∧ Hid (S.length = 8 ∧ W32 S) ∧ Hid (HoldsI wr wr.heap.size As 8 cs (ints S)) ∧ Hid (bgo (T - k) S (P.drop i) = bgo T ShaD.start P) ∧ Hid (Below w8.heap.size w8 wr)) (fun _ iv _ => L + 64 - (intOf iv).toNat)
      case atStart => exact ⟨0, 0, ShaD.start, _, _, rfl, rfl, Lib.hid rfl, Lib.hid (Nat.zero_le _), Lib.hid ⟨start_len, start_lt⟩, S8, Lib.hid rfl, Lib.hid (Below.refl _ _)⟩
      case round =>
        obtain ⟨k, i, S, As, cs, rfl, rfl, HI, HKT, HSL, HS, HE, HB⟩ := hrel
        clear S8
        have lT := HT.out
        have li := HI.out
        have lk := HKT.out
        by_cases hlt : k < T
        · obtain ⟨i2, hi2⟩ : ∃ i2, i2 = i + 64 := ⟨_, rfl⟩
          have f : IntKind.i64.wrap ((i : Int) + 64) = (i2 : Int) := by rw [IntWalk.i64_in _ (by omega)]; omega
          have g1 : decide ((i : Int) < (L : Int)) = true := decide_eq_true (by omega)
          have g2 : ((i : Int) < (L : Int)) = True := eq_true (by omega)
          have hnc := H8.out.2.1
          have slc : ∀ W : World, (Instr.sliceAt 25 (.slice (some ⟨gm, pm, none⟩) L c7) (some (.int .i64 (i : Int))) (some (.int .i64 (i2 : Int))) none).run Tryz.prog W = .ok (.slice (some (adr gm pm c7 i)) 64 (c7 - i)) W := fun W => by
            have := cutA_lh gm pm L c7 i i2 W (by omega) (by omega)
            rwa [show i2 - i = 64 by omega] at this
          have HC : Hid (Holds wr w8.heap.size (some (adr gm pm c7 i)) 64 (c7 - i) (ints ((P.drop i).take 64))) := Lib.hid (by
            have := cutA_holds (H8.out.below HB.out) (show i ≤ i2 by omega) (by omega)
            rw [show i2 - i = 64 by omega] at this
            rw [ints_take, ints_drop]
            exact this)
          have RR := Lib.hid (round_ref As cs (ints S) (some (adr gm pm c7 i)) (c7 - i) (ints ((P.drop i).take 64)) wr wr.heap.size w8.heap.size HS.out (Nat.le_refl _) HC.out HB.out.size (stI_of HSL.out.1 HSL.out.2))
          rw [nats_ints, nats_ints] at RR
          have HE2 : Hid (bgo (T - (k + 1)) (round S ((P.drop i).take 64)) (P.drop i2) = bgo T ShaD.start P) := Lib.hid (by
            have := HE.out
            rw [show T - k = (T - (k + 1)) + 1 by omega, bgo, List.drop_drop] at this
            rw [hi2]
            exact this)
          have HI2 : Hid (i2 = 64 * (k + 1) ∧ k + 1 ≤ T) := Lib.hid (by omega)
          have MS : Hid (i < L) := Lib.hid (by omega)
          have I2 := Lib.hid hi2
          clear lT li lk hi2 hlt HC HE HI HKT hnc
          go_wp2_with fail
          refine RR.out.mono ?_
          rintro e w9 ⟨v, rfl, ow, hb⟩
          obtain ⟨g9, c9, rfl, _, _, _, _⟩ := ow.form (by rw [round_len]; decide)
          have HS9 := HoldsI.of_own ow (round_lt _ _) (by rw [round_len]; decide)
          rw [round_len] at HS9 ⊢
          have HS2 := Lib.hid HS9
          have HB2 := Lib.hid (HB.out.trans (hb.mono HB.out.size))
          have SL2 : Hid ((round S ((P.drop i).take 64)).length = 8 ∧ W32 (round S ((P.drop i).take 64))) := Lib.hid ⟨round_len _ _, round_lt _ _⟩
          obtain ⟨S2, hS2⟩ : ∃ S2, S2 = round S ((P.drop i).take 64) := ⟨_, rfl⟩
          rw [← hS2] at HS2 HE2 SL2
          clear ow hb HS9 hS2 RR HS HB slc g1 g2
          go_wp2_with fail
          go_roundw
          case rel => exact ⟨k + 1, i2, S2, _, _, rfl, by go_num, Lib.hid HI2.out.1, Lib.hid HI2.out.2, SL2, HS2, HE2, HB2⟩
          case measure => have := MS.out; have := I2.out; simp [intOf]; omega
        · obtain rfl : k = T := by omega
          have SF : Hid (S.flatMap four = D) := Lib.hid (by
            have := HE.out
            rw [Nat.sub_self, bgo] at this
            rw [DG.out, this])
          have g1 : decide ((i : Int) < (L : Int)) = false := decide_eq_false (by omega)
          have g2 : ((i : Int) < (L : Int)) = False := eq_false (by omega)
          have BW := Lib.hid (B8.out.trans (HB.out.mono B8.out.size))
          obtain ⟨b, o, rfl, _, _⟩ := HS.out.2.2.2 (by decide)
          generalize wr = wp at *
          clear lT li lk hlt HE HB B8 H8 HT HI HKT DG PL
          go_wp2_with fail
          clear g1 g2
          go_loopw [8, 9] (fun ov kv wr => ∃ (j q : Nat), kv = .int .i64 (j : Int) ∧ j ≤ 8 ∧ Hid (q = 4 * j) ∧ Hid (Owns wr wp.heap.size ov q (ints ((S.take j).flatMap four))) ∧ Hid (Below wp.heap.size wp wr)) (fun _ kv _ => 8 - (intOf kv).toNat)
          case atStart => exact ⟨0, 0, rfl, by omega, Lib.hid rfl, Lib.hid (Owns.nil _ _), Lib.hid (Below.refl _ _)⟩
          case round =>
            obtain ⟨j, q, rfl, hj, HQ, HO, HB⟩ := hrel
            by_cases hlt : j < 8
            · obtain ⟨b', o', eb, _, hc⟩ := (HS.out.below HB.out).2.2.2 (by decide)
              injection eb with eb
              injection eb with eb1 eb2
              subst eb1 eb2
              have c1 := hc j hlt
              rw [ints_getD] at c1
              have xb := HSL.out.2.get j
              have FN := Lib.hid (flat_next (F := S) (j := j) (by rw [HSL.out.1]; exact hlt))
              generalize S.getD j 0 = x at *
              have C4 := Lib.hid (fun W => four_ref x xb W)
              have QB : q ≤ 32 := by have := HQ.out; omega
              have HQ2 : Hid (q + 4 = 4 * (j + 1)) := Lib.hid (by have := HQ.out; omega)
              unfold M at xb
              clear hc
              go_wp2_with fail
              refine (C4.out _).mono ?_
              rintro e w9 ⟨A4, rfl, h4, hb⟩
              have O9 := Lib.hid (HO.out.below hb (Nat.le_refl _))
              have B9 := Lib.hid (HB.out.trans (hb.mono HB.out.size))
              have H9 := Lib.hid h4
              clear hb h4 c1
              go_wp2_with (at_builtin
                           refine wpList_append_bytes rfl (.tmp 57) (.tmp 62) rfl wp.heap.size _ q _ rfl O9.out w9.heap.size A4 4 4 _ rfl H9.out (by omega) B9.out.size ?_
                           intro v1 w10 o10 g10 hat10)
              have OX : Hid (Owns w10 wp.heap.size v1 (q + 4) (ints ((S.take (j + 1)).flatMap four))) := Lib.hid (by rw [FN.out, ints_app]; exact o10)
              have BX := Lib.hid (B9.out.grown g10 B9.out.size fun g hg => (O9.out.lt g hg).1)
              clear o10 g10 hat10 O9 B9 H9 HO HB
              go_roundw
              case rel => exact ⟨j + 1, q + 4, by go_num, by omega, HQ2, OX, BX⟩
              case measure => simp [intOf]; omega
            · obtain rfl : j = 8 := by omega
              have OF : Hid (Owns wr w.heap.size _ 32 (ints D)) := Lib.hid (by
                have := HO.out.mono BW.out.size
                rw [List.take_of_length_le (by rw [HSL.out.1]; exact Nat.le_refl _), SF.out, HQ.out] at this
                exact this)
              have BF := Lib.hid (BW.out.trans (HB.out.mono BW.out.size))
              clear HO HB
              go_wp2_with fail
              go_ret
              exact ⟨_, rfl, OF.out, BF.out⟩
    · have g : ((r : Int) != 56) = true := by
        rw [bne_iff_ne]
        intro q
        exact hz (ZS.out.1 (by omega))
      have zb : Bytes [0] := fun z hz => by simp at hz; omega
      have HK2 : Hid (k + 1 ≤ zeros n) := Lib.hid (by have := HK.out; omega)
      have HBS := HB.out.size
      clear ZS hz
      go_wp2_with (at_builtin
                   refine wpList_append_bytes rfl (.tmp 18) (.tmp 19) rfl w.heap.size _ N _ rfl (HO.out.alloc _) _ _ 1 1 [0] rfl (Holds.lit wr [0] _ rfl (by simp [maxLen]) zb) (by omega) (by simp; omega) ?_
                   intro v1 w9 o9 g9 hat9)
      rw [row_next] at o9
      have OX := Lib.hid o9
      have BX := Lib.hid ((HB.out.alloc HBS _).grown g9 (by simp; omega) fun g hg => (HO.out.lt g hg).1)
      have VX : Hid (lenOf v1 = N + 1) := Lib.hid (by
        obtain ⟨A', c', e, _⟩ := o9.slice
        rw [e]; rfl)
      have HN2 : Hid (N + 1 = n + 1 + (k + 1)) := Lib.hid (by have := HN.out; omega)
      clear o9 g9 hat9 HO HB HBS
      go_roundw
      case rel => exact ⟨k + 1, N + 1, HN2, HK2, OX, BX⟩
      case measure =>
        have := nlt.out
        rw [VX.out]
        show n + 200 - (N + 1) < n + 200 - N
        omega
end Go.Proofs.YtdnkbefpbehllaaGreatDoor.ShaO

