/- The contract of the code's Keys. -/
import Derived.Test.YtdnkbefpbehllaaDoorM15
import Derived.Test.YtdnkbefpbehllaaDoorM16
import Derived.Laws.CopyOwn
set_option linter.unusedVariables false
namespace Go.Proofs.YtdnkbefpbehllaaDoor.Aes8
open Go.RowKit Go.PlainAid Go.Proofs.YtdnkbefpbehllaaDoor.Sums Go.Proofs.YtdnkbefpbehllaaDoor.Mem Go.Proofs.YtdnkbefpbehllaaDoor.Blk Go.Proofs.YtdnkbefpbehllaaDoor.Bits3 Go.Proofs.YtdnkbefpbehllaaDoor.Ints Go.Proofs.YtdnkbefpbehllaaDoor.CutA Go.Proofs.YtdnkbefpbehllaaDoor.AesF Go.Proofs.YtdnkbefpbehllaaDoor.AesB Go.Proofs.YtdnkbefpbehllaaDoor.AesK Go.Proofs.YtdnkbefpbehllaaDoor.AesR2 Go.Proofs.YtdnkbefpbehllaaDoor.AesR3 Go.Proofs.YtdnkbefpbehllaaDoor.Aes1 Go.Proofs.YtdnkbefpbehllaaDoor.Aes2 Go.Proofs.YtdnkbefpbehllaaDoor.Aes3 Go.Proofs.YtdnkbefpbehllaaDoor.Aes4 Go.Proofs.YtdnkbefpbehllaaDoor.Aes5 Go.Proofs.YtdnkbefpbehllaaDoor.Aes6
open Go.Proofs.YtdnkbefpbehllaaDoor.AesKy (bput bput_zero bput_next bput_len bput_byt)

/-- A row filled up with zeros. -/
def pad (o : List Nat) (L : Nat) : List Nat := o ++ List.replicate (L - o.length) 0
theorem pad_len {o : List Nat} {L : Nat} (h : o.length ≤ L) : (pad o L).length = L := by simp [pad]; omega
theorem pad_get {o : List Nat} {L i : Nat} (h : i < o.length) : (pad o L).getD i 0 = o.getD i 0 := by
  rw [List.getD_eq_getElem?_getD, List.getD_eq_getElem?_getD, pad, List.getElem?_append_left h]
theorem pad_set {o : List Nat} {L : Nat} (z : Nat) (h : o.length < L) : (pad o L).set o.length z = pad (o ++ [z]) L := by
  obtain ⟨k, hk⟩ : ∃ k, L - o.length = k + 1 := ⟨L - o.length - 1, by omega⟩
  unfold pad
  rw [hk, List.replicate_succ, List.set_append_right _ _ (Nat.le_refl _), Nat.sub_self, List.set_cons_zero, List.length_append, List.length_singleton, show L - (o.length + 1) = k by omega, List.append_assoc]
  rfl
theorem pad_full {o : List Nat} {L : Nat} (h : o.length = L) : pad o L = o := by simp [pad, h]
theorem word_is (o : List Nat) (a : Nat) : ∀ j, j < 4 → ([o.getD a 0, o.getD (a + 1) 0, o.getD (a + 2) 0, o.getD (a + 3) 0] : List Nat).getD j 0 = o.getD (a + j) 0 := by
  intro j hj
  rcases (show j = 0 ∨ j = 1 ∨ j = 2 ∨ j = 3 by omega) with rfl | rfl | rfl | rfl <;> rfl
theorem wboxed_is (x y z t : Nat) (hb : Byt [x, y, z, t]) (gx : Nat) (w : World) (hx : ARow w gx 114 boxes) :
    Calls Tryd.prog 54 #[.agg (bcells [x, y, z, t]), .pointer (some ⟨gx, 0, none⟩)] w fun e w' => e = .returned (.agg (bcells [Box x, Box y, Box z, Box t])) ∧ Below w.heap.size w w' := wboxed _ rfl hb gx w hx
theorem bcells_list (l : List Nat) : (l.map fun n : Nat => Value.int .u8 (n : Int)).toArray = bcells l := rfl
/-- What holds between words. -/
structure Kt (w0 wr : World) (gk gx : Nat) (o : List Nat) (L : Nat) : Prop where
  row : BRow wr gk (pad o L)
  byt : Byt o
  box : ARow wr gx 114 boxes
  bel : Below w0.heap.size w0 wr
  ge : w0.heap.size ≤ gk
/-- What holds within a word. -/
structure Ku (w0 wr : World) (gk gx gw : Nat) (o tw : List Nat) (b k L : Nat) : Prop where
  row : BRow wr gk (pad (bput tw o b k) L)
  wrd : ARow wr gw 104 tw
  box : ARow wr gx 114 boxes
  bel : Below w0.heap.size w0 wr
  ge : w0.heap.size ≤ gk
  gt : gk < gw
  nx : gk ≠ gx

theorem bcells_mem {l : List Nat} {j : Nat} {v : Value} (h : (bcells l).toList[j]? = some v) : j < l.length ∧ v = .int .u8 ((l.getD j 0 : Nat) : Int) := by
  have hj : j < l.length := by
    rcases Nat.lt_or_ge j l.length with h' | h'
    · exact h'
    · rw [List.getElem?_eq_none (by simpa [bcells] using h')] at h; cases h
  refine ⟨hj, ?_⟩
  have e := bcells_get l j hj
  have : (bcells l)[j]? = some v := by simpa using h
  rw [this] at e
  injection e
/-- A row copied to the head of a row that is known whole. -/
theorem wpList_copy_b {w : World} {ops : Array Oper} {rest : List Oper} {o : Oper} {a : Act} {Q : Exit → Act → World → Prop} (hgd : o.guard = none) (d s : Operand)
    (ho : o.op = .call { callee := .builtin .copy, args := #[d, s], argTypes := #[25, 25] }) (g dLen dCap : Nat) (ad : Addr) (sLen sCap : Nat) (hd : a.eval d = .slice (some ⟨g, 0, none⟩) dLen dCap) (hs : a.eval s = .slice (some ad) sLen sCap)
    (zl l nl : List Nat) (hg : BRow w g zl) (hl : l.length = sLen) (hle : sLen ≤ dLen) (hfit : sLen ≤ zl.length) (hsrc : ∀ j, j < l.length → w.cell? (ad.add j) = some (.int .u8 ((l.getD j 0 : Nat) : Int))) (hn : l ++ zl.drop l.length = nl)
    (h : wpList Tryd.prog ops Q rest (a.put o.dst (.int .i64 (sLen : Int))) (w.setRow g (bcells nl))) : wpList Tryd.prog ops Q (o :: rest) a w := by
  have cl : (bcells l).toList.length = sLen := by simp [bcells, hl]
  refine wpList_copy_own hgd d s _ _ ho 5 Tryd.underlying25 (by kernel_rfl) g 0 dLen dCap ad sLen sCap hd hs (bcells zl) _ hg (bcells l).toList (by rw [cl]; exact (Nat.min_eq_left hle).symm) (fun j v hv => ?_) (by rw [cl, bcells_size]; omega) (fun v hv => ?_) ?_
  · obtain ⟨hj, rfl⟩ := bcells_mem hv
    exact hsrc j hj
  · simp [bcells] at hv
    obtain ⟨z, _, rfl⟩ := hv
    rfl
  · have e : ((bcells zl).toList.take 0 ++ ((bcells l).toList ++ (bcells zl).toList.drop (0 + (bcells l).toList.length))).toArray = bcells nl := by
      rw [← hn]
      simp [bcells, List.map_drop]
    rw [e, cl]
    exact h
theorem BRow.setRow {w : World} {g : Nat} {l : List Nat} (h : BRow w g l) (m : List Nat) : BRow (w.setRow g (bcells m)) g m := setRow_heap _ _ _ _ _ _ h
theorem lt_of_blk {w : World} {g : Nat} {o : Obj} (h : w.heap[g]? = some o) : g < w.heap.size := (Array.getElem?_eq_some_iff.1 h).1
set_option maxHeartbeats 1000000 in
theorem keys_bad (A : Option Addr) (n c : Nat) (w : World) (hn : n ≤ 140737488355328) (h1 : n ≠ 16) (h2 : n ≠ 32) :
    Calls Tryd.prog 45 #[.slice A n c] w fun e w' => e = .returned (.tuple #[.slice none 0 0, .int .i64 1]) ∧ w = w' := by
  have g1 : ((n : Int) != 16) = true := by simp; omega
  have g2 : ((n : Int) != 32) = true := by simp; omega
  clear h1 h2
  go_enter Tryd.func45, Tryd.ntmps45
  go_wp2_with fail
  go_ret2
  exact ⟨rfl, rfl⟩

set_option maxHeartbeats 4000000 in
set_option maxRecDepth 100000 in
theorem keys_16 (A : Option Addr) (c : Nat) (ks : List Int) (w : World) (B : Nat) (h : Holds w B A 16 c ks) (hB : B ≤ w.heap.size) :
    Calls Tryd.prog 45 #[.slice A 16 c] w fun e w' => ∃ g, e = .returned (.tuple #[.slice (some ⟨g, 0, none⟩) 176 176, .int .i64 0]) ∧ w.heap.size ≤ g ∧ BRow w' g (keys (nats ks)) ∧ Below w.heap.size w w' := by
  obtain ⟨q, p, rfl, _⟩ := h.2.2.2.2 (by decide)
  have OL : Hid ((nats ks).length = 16) := Lib.hid ((nats_len ks).trans h.1)
  have OB0 : Hid (Byt (nats ks)) := Lib.hid (nats_byt h.2.2.2.1)
  have E0 : Hid (kgo 4 (44 - 4) 4 1 (nats ks) = keys (nats ks)) := Lib.hid (by unfold keys; rw [OL.out])
  have KL : Hid ((keys (nats ks)).length = 176) := Lib.hid (by rw [keys_len (by rw [OL.out]; decide), OL.out]; rfl)
  have IN := Lib.hid (ints_nats (l := ks) (fun z hz => h.2.2.2.1 z hz))
  have HH := Lib.hid h
  obtain ⟨K0, hK0⟩ : ∃ K0, K0 = nats ks := ⟨_, rfl⟩
  rw [← hK0] at OL OB0 E0 KL IN ⊢
  obtain ⟨R, hR⟩ : ∃ R, R = keys K0 := ⟨_, rfl⟩
  rw [← hR] at E0 KL ⊢
  have mk : ∀ W : World, (Instr.makeSlice 25 (.int .i64 176) (.int .i64 176)).run Tryd.prog W = .ok (.slice (some ⟨W.heap.size, 0, none⟩) 176 176) (W.alloc (.cells (bcells (List.replicate 176 0)) 5)) := fun W => make_b 176 (by decide) W
  obtain ⟨ZL, hZL⟩ : ∃ ZL, ZL = List.replicate 176 0 := ⟨_, rfl⟩
  rw [← hZL] at mk
  have ZLl : Hid (ZL.length = 176) := Lib.hid (by rw [hZL, List.length_replicate])
  have ZP : Hid (pad K0 176 = K0 ++ ZL.drop 16) := Lib.hid (by rw [hZL, List.drop_replicate, pad, OL.out])
  have hz : ∀ v : World, (zeroValue 104).run Tryd.prog v = .ok (.agg (bcells (List.replicate 4 0))) v := zero_4
  obtain ⟨Z, hZ⟩ : ∃ Z, Z = List.replicate 4 0 := ⟨_, rfl⟩
  rw [← hZ] at hz
  have ZLen : Hid (Z.length = 4) := Lib.hid (by rw [hZ, List.length_replicate])
  have SC : Hid (∀ W : World, Calls Tryd.prog 52 #[.int .i64 16] W fun e w' => e = .returned (.int .i64 176) ∧ W = w') := Lib.hid (sched_no 16 (by decide))
  have HZH := Lib.hid hz
  clear h hK0 hR hZL hZ hz
  go_enter Tryd.func45, Tryd.ntmps45
  go_wp2_with fail
  refine (SC.out _).mono ?_
  rintro e w' ⟨rfl, rfl⟩
  go_wp2_with fail
  clear mk
  have RK0 : Hid (BRow (w.alloc (.cells (bcells ZL) 5)) w.heap.size ZL) := Lib.hid (BRow.new w ZL)
  have BK0 := Lib.hid ((Below.refl w.heap.size w).alloc (Nat.le_refl _) (.cells (bcells ZL) 5))
  obtain ⟨gk, hgk⟩ : ∃ gk, gk = w.heap.size := ⟨_, rfl⟩
  have GK := Lib.hid hgk
  generalize w.alloc (.cells (bcells ZL) 5) = w1 at *
  rw [← hgk] at RK0 ⊢
  clear hgk
  refine (boxes_no w1).mono ?_
  rintro e w2 ⟨gx, rfl, hgx, hr, hb⟩
  have HX0 := Lib.hid hr
  have RK1 := Lib.hid (RK0.out.up hb)
  have BK1 := Lib.hid (BK0.out.trans (hb.mono BK0.out.size))
  have GX : Hid (gk ≠ gx) := Lib.hid (by have := RK0.out.lt; omega)
  have SRC : Hid (∀ j, j < K0.length → w2.cell? ((⟨q, p, none⟩ : Addr).add j) = some (.int .u8 ((K0.getD j 0 : Nat) : Int))) := Lib.hid fun j hj => by
    rw [add_plain]
    have := cell_getD (HH.out.below (BK1.out.mono hB)) j (by rw [← OL.out]; exact hj)
    rwa [← IN.out, ints_getD] at this
  have KT : Hid (Kt w (w2.setRow gk (bcells (pad K0 176))) gk gx K0 176) := Lib.hid
    ⟨BRow.setRow RK1.out _, OB0.out, ARow.farRow HX0.out GX.out _, Aes3.below_setRow BK1.out (by rw [GK.out]; exact Nat.le_refl _), by rw [GK.out]; exact Nat.le_refl _⟩
  clear hr hb hgx RK0 BK0 HH IN
  go_wp2_with (first
    | (refine wpList_copy_b rfl (.tmp 23) (.tmp 24) rfl gk 176 176 ⟨q, p, none⟩ 16 c rfl rfl ZL K0 (pad K0 176) RK1.out OL.out (by decide) (by rw [ZLl.out]; decide) SRC.out (by rw [ZP.out, OL.out]) ?_))
  clear RK1 BK1 HX0 ZP ZLl SRC
  generalize w2.setRow gk (bcells (pad K0 176)) = w3 at *
  have A0 : Hid (16 = 4 * 4 ∧ 4 ≤ 4 ∧ 4 ≤ 44) := Lib.hid (by decide)
  have T0 : Hid (1 < 256) := Lib.hid (by decide)
  go_loopw [6, 7] (fun tv kv wr => ∃ i a turn : Nat, ∃ o : List Nat, kv = .int .i64 (a : Int) ∧ tv = .int .u8 (turn : Int) ∧ Hid (a = 4 * i ∧ 4 ≤ i ∧ i ≤ 44) ∧ Hid (turn < 256) ∧ Hid (o.length = a) ∧ Hid (kgo 4 (44 - i) i turn o = R) ∧ Hid (Kt w wr gk gx o 176)) (fun _ kv _ => 176 - (intOf kv).toNat)
  case atStart => exact ⟨4, 16, 1, K0, rfl, rfl, A0, T0, OL, E0, KT⟩
  case round =>
    obtain ⟨i, a, turn, o, rfl, rfl, HA, TL, HO, HE, HT⟩ := hrel
    clear A0 T0 OL E0 KT OB0
    generalize wr = wo at *
    have la := HA.out
    by_cases hlt : a < 176
    · have OB := Lib.hid HT.out.byt
      have s4 : IntKind.i64.wrap ((a : Int) - 4) = ((a - 4 : Nat) : Int) := by rw [IntWalk.i64_in _ (by omega)]; omega
      obtain ⟨b4, hb4⟩ : ∃ b4, b4 = a - 4 := ⟨_, rfl⟩
      rw [← hb4] at s4
      have sl : ∀ W : World, (Instr.sliceAt 25 (.slice (some ⟨gk, 0, none⟩) 176 176) (some (.int .i64 (b4 : Int))) none none).run Tryd.prog W = .ok (.slice (some ⟨gk, 0 + b4, none⟩) (176 - b4) (176 - b4)) W := fun W => cut_l gk 0 176 176 b4 W (by omega) (Nat.le_refl _) (by omega)
      rw [Nat.zero_add] at sl
      have at4 : ∀ v : World, (Instr.arrayAt 104 (.slice (some ⟨gk, b4, none⟩) (176 - b4) (176 - b4))).run Tryd.prog v = .ok (.pointer (some ⟨gk, b4, none⟩)) v := fun v => run_arrayAt v 104 _ 4 _ _ _ Tryd.underlying104 (by omega)
      have ld : (loadVar 104 ⟨gk, b4, none⟩).run Tryd.prog wo = .ok (.agg (bcells [o.getD b4 0, o.getD (b4 + 1) 0, o.getD (b4 + 2) 0, o.getD (b4 + 3) 0])) wo := by
        refine run_loadVar_at wo gk b4 _ _ _ Tryd.underlying104 rfl (by kernel_rfl) fun j hj => ?_
        have hj4 : j < 4 := hj
        have := HT.out.row.cell (b4 + j) (by rw [pad_len (by rw [HO.out]; omega)]; omega)
        rw [pad_get (by rw [HO.out]; omega)] at this
        rw [this, word_is o b4 j hj4]
      have WB : Hid (Byt [o.getD b4 0, o.getD (b4 + 1) 0, o.getD (b4 + 2) 0, o.getD (b4 + 3) 0]) := Lib.hid (by
        intro x hx
        simp only [List.mem_cons, List.not_mem_nil, or_false] at hx
        rcases hx with rfl | rfl | rfl | rfl <;> exact OB.out.get _)
      have TW := Lib.hid (show tword 4 i turn o = if i % 4 = 0 then [Box (o.getD (b4 + 1) 0) ^^^ turn, Box (o.getD (b4 + 2) 0), Box (o.getD (b4 + 3) 0), Box (o.getD b4 0)] else if 4 = 8 ∧ i % 8 = 4 then [Box (o.getD b4 0), Box (o.getD (b4 + 1) 0), Box (o.getD (b4 + 2) 0), Box (o.getD (b4 + 3) 0)] else [o.getD b4 0, o.getD (b4 + 1) 0, o.getD (b4 + 2) 0, o.getD (b4 + 3) 0] by
        unfold tword
        rw [show 4 * i - 4 = b4 by omega]
        rfl)
      have TWL : Hid (Byt (tword 4 i turn o) ∧ (tword 4 i turn o).length = 4) := Lib.hid ⟨tword_byt OB.out TL.out, by
        rw [TW.out]
        repeat' split
        all_goals rfl⟩
      have hz := HZH.out
      generalize o.getD b4 0 = x0 at *
      generalize o.getD (b4 + 1) 0 = x1 at *
      generalize o.getD (b4 + 2) 0 = x2 at *
      generalize o.getD (b4 + 3) 0 = x3 at *
      have HS : ARow (wo.alloc (.cells (bcells Z) 104)) wo.heap.size 104 Z := ARow.new wo _ _
      have GG := Lib.hid (HT.out.row.lt)
      have s0 : (bcells [x0, x1, x2, x3]).size = 4 := rfl
      have sZ : (bcells Z).size = 4 := by rw [bcells_size, ZLen.out]
      have o0 := bcells_one [x0, x1, x2, x3]
      have r1 : (a : Int).tmod 16 = ((a % 16 : Nat) : Int) := by rw [Int.tmod_eq_emod_of_nonneg (by omega)]; omega
      have K0 : Hid (Ku w ((wo.alloc (.cells (bcells Z) 104)).setRow wo.heap.size (bcells [x0, x1, x2, x3])) gk gx wo.heap.size o [x0, x1, x2, x3] (a - 16) 0 176) := Lib.hid
        ⟨by
          rw [bput_zero]
          have h1 := HT.out.row.alloc (.cells (bcells Z) 104)
          have h2 : ARow (wo.alloc (.cells (bcells Z) 104)) gk 5 (pad o 176) := h1
          exact ARow.farRow h2 (Ne.symm (Nat.ne_of_lt GG.out)) _, ARow.setRow HS _, ARow.farRow (HT.out.box.alloc _) (Ne.symm (Nat.ne_of_lt HT.out.box.lt)) _, Aes3.below_setRow (HT.out.bel.alloc HT.out.bel.size _) HT.out.bel.size, HT.out.ge, GG.out, GX.out⟩
      have NX : Hid (wo.heap.size ≠ gx) := Lib.hid (Ne.symm (Nat.ne_of_lt HT.out.box.lt))
      unfold ARow at HS
      have gl : decide ((a : Int) < 176) = true := decide_eq_true (by omega)
      have rl : a % 16 < 16 := Nat.mod_lt _ (by decide)
      have RI : Hid ((a % 16 = 0 ↔ i % 4 = 0) ∧ (a % 16 = 16 ↔ (4 = 8 ∧ i % 8 = 4))) := Lib.hid (by omega)
      obtain ⟨rr, hrr⟩ : ∃ rr, rr = a % 16 := ⟨_, rfl⟩
      rw [← hrr] at r1 rl RI
      clear hrr hb4 la
      have R1 : ((wo.alloc (.cells (bcells Z) 104)).setRow wo.heap.size (bcells [x0, x1, x2, x3])).heap[wo.heap.size]? = some (.cells (bcells [x0, x1, x2, x3]) 104 (0, 0)) := K0.out.wrd
      by_cases qa : rr = 0
      · obtain rfl : rr = 0 := qa
        have IK : i % 4 = 0 := RI.out.1.1 rfl
        go_wp2_with (first
          | (refine wpList_load_at rfl _ _ rfl gk b4 [x0, x1, x2, x3] rfl ld ?_)
          | (refine wpList_store_row rfl _ _ _ rfl wo.heap.size (bcells [x0, x1, x2, x3]) rfl rfl 104 _ HS (by rw [s0]; kernel_rfl) (by rw [s0, sZ]) o0 ?_)
          | (refine wpList_load_row rfl _ _ rfl wo.heap.size rfl 104 (bcells [x0, x1, x2, x3]) (0, 0) _ R1 (Tryd.underlying104) rfl (by rw [s0]; kernel_rfl) ?_))
        clear ld HS s0 sZ o0 sl at4 s4 hz R1
        generalize (wo.alloc (.cells (bcells Z) 104)).setRow wo.heap.size (bcells [x0, x1, x2, x3]) = w4 at *
        generalize wo.heap.size = gw at *
        refine (wboxed_is x0 x1 x2 x3 WB.out gx w4 K0.out.box).mono ?_
        rintro e w5 ⟨rfl, hb5⟩
        go_wp2_with fail
        refine (wturned (Box x0) (Box x1) (Box x2) (Box x3) w5).mono ?_
        rintro e w6 ⟨rfl, hb6⟩
        have B6 := Lib.hid (hb5.trans (hb6.mono hb5.size))
        have R6 : ARow w6 gw 104 [x0, x1, x2, x3] := K0.out.wrd.up B6.out
        have NB := Lib.hid (fun j => Box_lt (WB.out.get j))
        have n0 : Box x0 < 256 := NB.out 0
        have n1 : Box x1 < 256 := NB.out 1
        have n2 : Box x2 < 256 := NB.out 2
        have n3 : Box x3 < 256 := NB.out 3
        have tb := TL.out
        generalize Box x0 = v0 at *
        generalize Box x1 = v1 at *
        generalize Box x2 = v2 at *
        generalize Box x3 = v3 at *
        have s1 : (bcells [v1, v2, v3, v0]).size = 4 := rfl
        have s0 : (bcells [x0, x1, x2, x3]).size = 4 := rfl
        have o1 := bcells_one [v1, v2, v3, v0]
        have R7 : Hid (ARow (w6.setRow gw (bcells [v1, v2, v3, v0])) gw 104 [v1, v2, v3, v0]) := Lib.hid (ARow.setRow R6 _)
        have c7 : (w6.setRow gw (bcells [v1, v2, v3, v0])).cell? ⟨gw, 0, none⟩ = some (.int .u8 (v1 : Int)) := R7.out.cell 0 (by simp)
        have f7 := R7.out.free 0
        have ex : bits .xor .u8 (v1 : Int) (turn : Int) = ((v1 ^^^ turn : Nat) : Int) := Bits3.u8_xor n1 tb
        obtain ⟨y, hy⟩ : ∃ y, y = v1 ^^^ turn := ⟨_, rfl⟩
        rw [← hy] at ex
        have TWE : Hid ([y, v2, v3, v0] = tword 4 i turn o) := Lib.hid (by rw [TW.out, if_pos IK, hy])
        have D := Lib.hid (double_no turn tb)
        have TN : Hid (nturn 4 i turn = dbl turn) := Lib.hid (by unfold nturn; rw [if_pos IK]; exact T_two tb)
        obtain ⟨tn, htn⟩ : ∃ tn, tn = dbl turn := ⟨_, rfl⟩
        rw [← htn] at D TN
        have K8 : Hid (Ku w ((w6.setRow gw (bcells [v1, v2, v3, v0])).setCell ⟨gw, 0, none⟩ (.int .u8 (y : Int))) gk gx gw o [y, v2, v3, v0] (a - 16) 0 176) := Lib.hid
          ⟨by
            have h2 : ARow w6 gk 5 (pad (bput [x0, x1, x2, x3] o (a - 16) 0) 176) := ARow.up (show ARow w4 gk 5 _ from K0.out.row) B6.out
            rw [bput_zero] at h2
            rw [bput_zero]
            exact ARow.far (ARow.farRow h2 (Ne.symm (Nat.ne_of_lt K0.out.gt)) _) (Nat.ne_of_lt K0.out.gt) _, R7.out.put 0 y, ARow.far (ARow.farRow (K0.out.box.up B6.out) NX.out _) (Ne.symm NX.out) _,
            Below.setCell (Aes3.below_setRow (K0.out.bel.trans (B6.out.mono K0.out.bel.size)) (Nat.le_of_lt (Nat.lt_of_le_of_lt K0.out.ge K0.out.gt))) (p := ⟨gw, 0, none⟩) (Nat.le_of_lt (Nat.lt_of_le_of_lt K0.out.ge K0.out.gt)) _, K0.out.ge, K0.out.gt, K0.out.nx⟩
        unfold ARow at R6
        clear hb5 hb6 B6 n0 n1 n2 n3 tb NB hy htn TW IK
        go_wp2_with (first
          | (refine wpList_store_row rfl _ _ _ rfl gw (bcells [v1, v2, v3, v0]) rfl rfl 104 _ R6 (by rw [s1]; kernel_rfl) (by rw [s1, s0]) o1 ?_))
        refine (D.out _).mono ?_
        rintro e w' ⟨rfl, rfl⟩
        clear c7 f7 ex R6 R7 s1 s0 o1 D K0
        generalize (w6.setRow gw (bcells [v1, v2, v3, v0])).setCell ⟨gw, 0, none⟩ (.int .u8 (y : Int)) = w8 at *
        have K0 := K8
        rw [← TWE.out] at TWL
        have TB := TWL
        clear TWL WB K8
        generalize [y, v2, v3, v0] = tw at *
        clear HT
        go_wp2_with fail
        go_loopw [60] (fun kv wr => ∃ k : Nat, kv = .int .i64 (k : Int) ∧ k ≤ 4 ∧ Hid (Ku w wr gk gx gw o tw (a - 16) k 176)) (fun kv _ => 4 - (intOf kv).toNat)
        case atStart => exact ⟨0, rfl, by omega, K0⟩
        case round =>
          obtain ⟨k, rfl, hk, HK⟩ := hrel
          clear K0
          by_cases hk4 : k < 4
          · have la := HA.out
            have q1 : IntKind.i64.wrap ((a : Int) + (k : Int)) = ((a + k : Nat) : Int) := by rw [IntWalk.i64_in _ (by omega)]; omega
            have q2 : IntKind.i64.wrap (((a + k : Nat) : Int) - 16) = ((a - 16 + k : Nat) : Int) := by rw [IntWalk.i64_in _ (by omega)]; omega
            have bl := bput_len tw o (a - 16) (Nat.le_of_lt hk4)
            have olen := HO.out
            have x0 := HK.out.row.cell (a - 16 + k) (by rw [pad_len (by omega)]; omega)
            rw [pad_get (by omega)] at x0
            have e0 : (bput tw o (a - 16) k).getD (a - 16 + k) 0 = o.getD (a - 16 + k) 0 := by
              unfold bput
              exact Go.Proofs.YtdnkbefpbehllaaDoor.AesKy.getD_app (by omega)
            rw [e0] at x0
            have y0 := HK.out.wrd.cell k (by rw [TB.out.2]; exact hk4)
            have z0 := HK.out.row.cell (a + k) (by rw [pad_len (by omega)]; omega)
            have f0 := HK.out.row.free (a + k)
            have bx := OB.out.get (a - 16 + k)
            have by0 := TB.out.1.get k
            have PN : Hid (pad (bput tw o (a - 16) (k + 1)) 176 = (pad (bput tw o (a - 16) k) 176).set (a + k) (tw.getD k 0 ^^^ o.getD (a - 16 + k) 0)) := Lib.hid (by
              rw [bput_next tw o (a - 16) hk4, ← pad_set _ (by omega), bl, olen])
            have i1 : a + k < 176 := by omega
            have i2 : a - 16 + k < 176 := by omega
            obtain ⟨i3, hi3⟩ : ∃ i3, i3 = a + k := ⟨_, rfl⟩
            obtain ⟨i4, hi4⟩ : ∃ i4, i4 = a - 16 + k := ⟨_, rfl⟩
            rw [← hi3] at q1 q2 z0 f0 i1 PN
            rw [← hi4] at q2 x0 bx i2 PN
            generalize (pad (bput tw o (a - 16) k) 176).getD i3 0 = old at *
            generalize o.getD i4 0 = x at *
            generalize tw.getD k 0 = y at *
            have ex : bits .xor .u8 (x : Int) (y : Int) = ((y ^^^ x : Nat) : Int) := by rw [Nat.xor_comm]; exact Bits3.u8_xor bx by0
            obtain ⟨z, hz'⟩ : ∃ z, z = y ^^^ x := ⟨_, rfl⟩
            rw [← hz'] at ex PN
            have K2 : Hid (Ku w (wr.setCell ⟨gk, i3, none⟩ (.int .u8 (z : Int))) gk gx gw o tw (a - 16) (k + 1) 176) := Lib.hid
              ⟨by rw [PN.out]; exact HK.out.row.put i3 z, HK.out.wrd.far (p := ⟨gk, i3, none⟩) (Nat.ne_of_gt HK.out.gt) _, HK.out.box.far (p := ⟨gk, i3, none⟩) (Ne.symm HK.out.nx) _, HK.out.bel.setCell (p := ⟨gk, i3, none⟩) HK.out.ge _, HK.out.ge, HK.out.gt, HK.out.nx⟩
            clear la bl olen e0 bx by0 PN hi3 hi4 hz' HK
            go_wp2_with fail
            go_region
            go_wp2_with fail
            go_roundw
            case rel => exact ⟨k + 1, by go_num, by omega, Lib.hid ⟨K2.out.row, K2.out.wrd, K2.out.box, below_drewN K2.out.bel 1, K2.out.ge, K2.out.gt, K2.out.nx⟩⟩
            case measure => simp [intOf]; omega
          · obtain rfl : k = 4 := by omega
            have la := HA.out
            have OL2 : Hid ((o ++ nword 4 i turn o).length = a + 4) := Lib.hid (by rw [List.length_append, nword_len, HO.out])
            have BE : bput tw o (a - 16) 4 = o ++ nword 4 i turn o := by
              unfold bput nword
              rw [TWE.out, show a - 16 = 4 * (i - 4) by omega]
              rfl
            have K3 : Hid (Kt w wr gk gx (o ++ nword 4 i turn o) 176) := Lib.hid ⟨by rw [← BE]; exact HK.out.row, Byt.app OB.out (nword_byt OB.out TL.out), HK.out.box, HK.out.bel, HK.out.ge⟩
            have E3 : Hid (kgo 4 (44 - (i + 1)) (i + 1) (nturn 4 i turn) (o ++ nword 4 i turn o) = R) := Lib.hid (by
              rw [← HE.out, show 44 - i = (44 - (i + 1)) + 1 by omega]; rfl)
            have A3 : Hid (a + 4 = 4 * (i + 1) ∧ 4 ≤ i + 1 ∧ i + 1 ≤ 44) := Lib.hid (by omega)
            have T3 : Hid (nturn 4 i turn < 256) := Lib.hid (nturn_lt TL.out)
            rw [TN.out] at T3 E3
            have g4 : IntKind.i64.wrap ((a : Int) + 4) = ((a + 4 : Nat) : Int) := by rw [IntWalk.i64_in _ (by omega)]; omega
            have ME : Hid (176 - (a + 4) < 176 - a) := Lib.hid (by omega)
            generalize o ++ nword 4 i turn o = o2 at *
            clear la HK BE HE HA OB TB TWE TN
            go_wp2_with fail
            go_roundw
            case rel => exact ⟨i + 1, a + 4, tn, o2, by go_num, rfl, A3, T3, OL2, E3, K3⟩
            case measure => have := ME.out; simp [intOf]; omega
      · by_cases qb : rr = 16
        · omega
        · have IK : ¬ i % 4 = 0 := fun e => qa (RI.out.1.2 e)
          have IB : ¬ (4 = 8 ∧ i % 8 = 4) := fun e => qb (RI.out.2.2 e)
          have ga : ((rr : Int) == 0) = false := by rw [beq_eq_false_iff_ne]; omega
          have gb : ((rr : Int) == 16) = false := by rw [beq_eq_false_iff_ne]; omega
          go_wp2_with (first
            | (refine wpList_load_at rfl _ _ rfl gk b4 [x0, x1, x2, x3] rfl ld ?_)
            | (refine wpList_store_row rfl _ _ _ rfl wo.heap.size (bcells [x0, x1, x2, x3]) rfl rfl 104 _ HS (by rw [s0]; kernel_rfl) (by rw [s0, sZ]) o0 ?_)
            | (refine wpList_load_row rfl _ _ rfl wo.heap.size rfl 104 (bcells [x0, x1, x2, x3]) (0, 0) _ R1 (Tryd.underlying104) rfl (by rw [s0]; kernel_rfl) ?_))
          clear ld HS s0 sZ o0 sl at4 s4 hz R1
          generalize (wo.alloc (.cells (bcells Z) 104)).setRow wo.heap.size (bcells [x0, x1, x2, x3]) = w4 at *
          generalize wo.heap.size = gw at *
          have TWE : Hid ([x0, x1, x2, x3] = tword 4 i turn o) := Lib.hid (by rw [TW.out, if_neg IK, if_neg IB])
          have TN : Hid (nturn 4 i turn = turn) := Lib.hid (by unfold nturn; rw [if_neg IK])
          rw [← TWE.out] at TWL
          have TB := TWL
          clear TWL WB TW IK IB ga gb qa qb
          generalize [x0, x1, x2, x3] = tw at *
          clear HT
          go_wp2_with fail
          go_loopw [60] (fun kv wr => ∃ k : Nat, kv = .int .i64 (k : Int) ∧ k ≤ 4 ∧ Hid (Ku w wr gk gx gw o tw (a - 16) k 176)) (fun kv _ => 4 - (intOf kv).toNat)
          case atStart => exact ⟨0, rfl, by omega, K0⟩
          case round =>
            obtain ⟨k, rfl, hk, HK⟩ := hrel
            clear K0
            by_cases hk4 : k < 4
            · have la := HA.out
              have q1 : IntKind.i64.wrap ((a : Int) + (k : Int)) = ((a + k : Nat) : Int) := by rw [IntWalk.i64_in _ (by omega)]; omega
              have q2 : IntKind.i64.wrap (((a + k : Nat) : Int) - 16) = ((a - 16 + k : Nat) : Int) := by rw [IntWalk.i64_in _ (by omega)]; omega
              have bl := bput_len tw o (a - 16) (Nat.le_of_lt hk4)
              have olen := HO.out
              have x0 := HK.out.row.cell (a - 16 + k) (by rw [pad_len (by omega)]; omega)
              rw [pad_get (by omega)] at x0
              have e0 : (bput tw o (a - 16) k).getD (a - 16 + k) 0 = o.getD (a - 16 + k) 0 := by
                unfold bput
                exact Go.Proofs.YtdnkbefpbehllaaDoor.AesKy.getD_app (by omega)
              rw [e0] at x0
              have y0 := HK.out.wrd.cell k (by rw [TB.out.2]; exact hk4)
              have z0 := HK.out.row.cell (a + k) (by rw [pad_len (by omega)]; omega)
              have f0 := HK.out.row.free (a + k)
              have bx := OB.out.get (a - 16 + k)
              have by0 := TB.out.1.get k
              have PN : Hid (pad (bput tw o (a - 16) (k + 1)) 176 = (pad (bput tw o (a - 16) k) 176).set (a + k) (tw.getD k 0 ^^^ o.getD (a - 16 + k) 0)) := Lib.hid (by
                rw [bput_next tw o (a - 16) hk4, ← pad_set _ (by omega), bl, olen])
              have i1 : a + k < 176 := by omega
              have i2 : a - 16 + k < 176 := by omega
              obtain ⟨i3, hi3⟩ : ∃ i3, i3 = a + k := ⟨_, rfl⟩
              obtain ⟨i4, hi4⟩ : ∃ i4, i4 = a - 16 + k := ⟨_, rfl⟩
              rw [← hi3] at q1 q2 z0 f0 i1 PN
              rw [← hi4] at q2 x0 bx i2 PN
              generalize (pad (bput tw o (a - 16) k) 176).getD i3 0 = old at *
              generalize o.getD i4 0 = x at *
              generalize tw.getD k 0 = y at *
              have ex : bits .xor .u8 (x : Int) (y : Int) = ((y ^^^ x : Nat) : Int) := by rw [Nat.xor_comm]; exact Bits3.u8_xor bx by0
              obtain ⟨z, hz'⟩ : ∃ z, z = y ^^^ x := ⟨_, rfl⟩
              rw [← hz'] at ex PN
              have K2 : Hid (Ku w (wr.setCell ⟨gk, i3, none⟩ (.int .u8 (z : Int))) gk gx gw o tw (a - 16) (k + 1) 176) := Lib.hid
                ⟨by rw [PN.out]; exact HK.out.row.put i3 z, HK.out.wrd.far (p := ⟨gk, i3, none⟩) (Nat.ne_of_gt HK.out.gt) _, HK.out.box.far (p := ⟨gk, i3, none⟩) (Ne.symm HK.out.nx) _, HK.out.bel.setCell (p := ⟨gk, i3, none⟩) HK.out.ge _, HK.out.ge, HK.out.gt, HK.out.nx⟩
              clear la bl olen e0 bx by0 PN hi3 hi4 hz' HK
              go_wp2_with fail
              go_region
              go_wp2_with fail
              go_roundw
              case rel => exact ⟨k + 1, by go_num, by omega, Lib.hid ⟨K2.out.row, K2.out.wrd, K2.out.box, below_drewN K2.out.bel 1, K2.out.ge, K2.out.gt, K2.out.nx⟩⟩
              case measure => simp [intOf]; omega
            · obtain rfl : k = 4 := by omega
              have la := HA.out
              have OL2 : Hid ((o ++ nword 4 i turn o).length = a + 4) := Lib.hid (by rw [List.length_append, nword_len, HO.out])
              have BE : bput tw o (a - 16) 4 = o ++ nword 4 i turn o := by
                unfold bput nword
                rw [TWE.out, show a - 16 = 4 * (i - 4) by omega]
                rfl
              have K3 : Hid (Kt w wr gk gx (o ++ nword 4 i turn o) 176) := Lib.hid ⟨by rw [← BE]; exact HK.out.row, Byt.app OB.out (nword_byt OB.out TL.out), HK.out.box, HK.out.bel, HK.out.ge⟩
              have E3 : Hid (kgo 4 (44 - (i + 1)) (i + 1) (nturn 4 i turn) (o ++ nword 4 i turn o) = R) := Lib.hid (by
                rw [← HE.out, show 44 - i = (44 - (i + 1)) + 1 by omega]; rfl)
              have A3 : Hid (a + 4 = 4 * (i + 1) ∧ 4 ≤ i + 1 ∧ i + 1 ≤ 44) := Lib.hid (by omega)
              have T3 : Hid (nturn 4 i turn < 256) := Lib.hid (nturn_lt TL.out)
              rw [TN.out] at T3 E3
              have g4 : IntKind.i64.wrap ((a : Int) + 4) = ((a + 4 : Nat) : Int) := by rw [IntWalk.i64_in _ (by omega)]; omega
              have ME : Hid (176 - (a + 4) < 176 - a) := Lib.hid (by omega)
              generalize o ++ nword 4 i turn o = o2 at *
              clear la HK BE HE HA OB TB TWE TN
              go_wp2_with fail
              go_roundw
              case rel => exact ⟨i + 1, a + 4, turn, o2, by go_num, rfl, A3, T3, OL2, E3, K3⟩
              case measure => have := ME.out; simp [intOf]; omega
    · obtain rfl : a = 176 := by omega
      obtain rfl : i = 44 := by omega
      have OR : o = R := by have := HE.out; rwa [Nat.sub_self] at this
      subst OR
      have RR : Hid (BRow wo gk o) := Lib.hid (by have := HT.out.row; rwa [pad_full HO.out] at this)
      have BB := Lib.hid HT.out.bel
      have GE := Lib.hid HT.out.ge
      clear HT HA HO HE TL la
      go_wp2_with fail
      go_ret2
      exact ⟨gk, rfl, GE.out, RR.out, BB.out⟩

set_option maxHeartbeats 4000000 in
set_option maxRecDepth 100000 in
theorem keys_32 (A : Option Addr) (c : Nat) (ks : List Int) (w : World) (B : Nat) (h : Holds w B A 32 c ks) (hB : B ≤ w.heap.size) :
    Calls Tryd.prog 45 #[.slice A 32 c] w fun e w' => ∃ g, e = .returned (.tuple #[.slice (some ⟨g, 0, none⟩) 240 240, .int .i64 0]) ∧ w.heap.size ≤ g ∧ BRow w' g (keys (nats ks)) ∧ Below w.heap.size w w' := by
  obtain ⟨q, p, rfl, _⟩ := h.2.2.2.2 (by decide)
  have OL : Hid ((nats ks).length = 32) := Lib.hid ((nats_len ks).trans h.1)
  have OB0 : Hid (Byt (nats ks)) := Lib.hid (nats_byt h.2.2.2.1)
  have E0 : Hid (kgo 8 (60 - 8) 8 1 (nats ks) = keys (nats ks)) := Lib.hid (by unfold keys; rw [OL.out])
  have KL : Hid ((keys (nats ks)).length = 240) := Lib.hid (by rw [keys_len (by rw [OL.out]; decide), OL.out]; rfl)
  have IN := Lib.hid (ints_nats (l := ks) (fun z hz => h.2.2.2.1 z hz))
  have HH := Lib.hid h
  obtain ⟨K0, hK0⟩ : ∃ K0, K0 = nats ks := ⟨_, rfl⟩
  rw [← hK0] at OL OB0 E0 KL IN ⊢
  obtain ⟨R, hR⟩ : ∃ R, R = keys K0 := ⟨_, rfl⟩
  rw [← hR] at E0 KL ⊢
  have mk : ∀ W : World, (Instr.makeSlice 25 (.int .i64 240) (.int .i64 240)).run Tryd.prog W = .ok (.slice (some ⟨W.heap.size, 0, none⟩) 240 240) (W.alloc (.cells (bcells (List.replicate 240 0)) 5)) := fun W => make_b 240 (by decide) W
  obtain ⟨ZL, hZL⟩ : ∃ ZL, ZL = List.replicate 240 0 := ⟨_, rfl⟩
  rw [← hZL] at mk
  have ZLl : Hid (ZL.length = 240) := Lib.hid (by rw [hZL, List.length_replicate])
  have ZP : Hid (pad K0 240 = K0 ++ ZL.drop 32) := Lib.hid (by rw [hZL, List.drop_replicate, pad, OL.out])
  have hz : ∀ v : World, (zeroValue 104).run Tryd.prog v = .ok (.agg (bcells (List.replicate 4 0))) v := zero_4
  obtain ⟨Z, hZ⟩ : ∃ Z, Z = List.replicate 4 0 := ⟨_, rfl⟩
  rw [← hZ] at hz
  have ZLen : Hid (Z.length = 4) := Lib.hid (by rw [hZ, List.length_replicate])
  have SC : Hid (∀ W : World, Calls Tryd.prog 52 #[.int .i64 32] W fun e w' => e = .returned (.int .i64 240) ∧ W = w') := Lib.hid (sched_no 32 (by decide))
  have HZH := Lib.hid hz
  clear h hK0 hR hZL hZ hz
  go_enter Tryd.func45, Tryd.ntmps45
  go_wp2_with fail
  refine (SC.out _).mono ?_
  rintro e w' ⟨rfl, rfl⟩
  go_wp2_with fail
  clear mk
  have RK0 : Hid (BRow (w.alloc (.cells (bcells ZL) 5)) w.heap.size ZL) := Lib.hid (BRow.new w ZL)
  have BK0 := Lib.hid ((Below.refl w.heap.size w).alloc (Nat.le_refl _) (.cells (bcells ZL) 5))
  obtain ⟨gk, hgk⟩ : ∃ gk, gk = w.heap.size := ⟨_, rfl⟩
  have GK := Lib.hid hgk
  generalize w.alloc (.cells (bcells ZL) 5) = w1 at *
  rw [← hgk] at RK0 ⊢
  clear hgk
  refine (boxes_no w1).mono ?_
  rintro e w2 ⟨gx, rfl, hgx, hr, hb⟩
  have HX0 := Lib.hid hr
  have RK1 := Lib.hid (RK0.out.up hb)
  have BK1 := Lib.hid (BK0.out.trans (hb.mono BK0.out.size))
  have GX : Hid (gk ≠ gx) := Lib.hid (by have := RK0.out.lt; omega)
  have SRC : Hid (∀ j, j < K0.length → w2.cell? ((⟨q, p, none⟩ : Addr).add j) = some (.int .u8 ((K0.getD j 0 : Nat) : Int))) := Lib.hid fun j hj => by
    rw [add_plain]
    have := cell_getD (HH.out.below (BK1.out.mono hB)) j (by rw [← OL.out]; exact hj)
    rwa [← IN.out, ints_getD] at this
  have KT : Hid (Kt w (w2.setRow gk (bcells (pad K0 240))) gk gx K0 240) := Lib.hid
    ⟨BRow.setRow RK1.out _, OB0.out, ARow.farRow HX0.out GX.out _, Aes3.below_setRow BK1.out (by rw [GK.out]; exact Nat.le_refl _), by rw [GK.out]; exact Nat.le_refl _⟩
  clear hr hb hgx RK0 BK0 HH IN
  go_wp2_with (first
    | (refine wpList_copy_b rfl (.tmp 23) (.tmp 24) rfl gk 240 240 ⟨q, p, none⟩ 32 c rfl rfl ZL K0 (pad K0 240) RK1.out OL.out (by decide) (by rw [ZLl.out]; decide) SRC.out (by rw [ZP.out, OL.out]) ?_))
  clear RK1 BK1 HX0 ZP ZLl SRC
  generalize w2.setRow gk (bcells (pad K0 240)) = w3 at *
  have A0 : Hid (32 = 4 * 8 ∧ 8 ≤ 8 ∧ 8 ≤ 60) := Lib.hid (by decide)
  have T0 : Hid (1 < 256) := Lib.hid (by decide)
  go_loopw [6, 7] (fun tv kv wr => ∃ i a turn : Nat, ∃ o : List Nat, kv = .int .i64 (a : Int) ∧ tv = .int .u8 (turn : Int) ∧ Hid (a = 4 * i ∧ 8 ≤ i ∧ i ≤ 60) ∧ Hid (turn < 256) ∧ Hid (o.length = a) ∧ Hid (kgo 8 (60 - i) i turn o = R) ∧ Hid (Kt w wr gk gx o 240)) (fun _ kv _ => 240 - (intOf kv).toNat)
  case atStart => exact ⟨8, 32, 1, K0, rfl, rfl, A0, T0, OL, E0, KT⟩
  case round =>
    obtain ⟨i, a, turn, o, rfl, rfl, HA, TL, HO, HE, HT⟩ := hrel
    clear A0 T0 OL E0 KT OB0
    generalize wr = wo at *
    have la := HA.out
    by_cases hlt : a < 240
    · have OB := Lib.hid HT.out.byt
      have s4 : IntKind.i64.wrap ((a : Int) - 4) = ((a - 4 : Nat) : Int) := by rw [IntWalk.i64_in _ (by omega)]; omega
      obtain ⟨b4, hb4⟩ : ∃ b4, b4 = a - 4 := ⟨_, rfl⟩
      rw [← hb4] at s4
      have sl : ∀ W : World, (Instr.sliceAt 25 (.slice (some ⟨gk, 0, none⟩) 240 240) (some (.int .i64 (b4 : Int))) none none).run Tryd.prog W = .ok (.slice (some ⟨gk, 0 + b4, none⟩) (240 - b4) (240 - b4)) W := fun W => cut_l gk 0 240 240 b4 W (by omega) (Nat.le_refl _) (by omega)
      rw [Nat.zero_add] at sl
      have at4 : ∀ v : World, (Instr.arrayAt 104 (.slice (some ⟨gk, b4, none⟩) (240 - b4) (240 - b4))).run Tryd.prog v = .ok (.pointer (some ⟨gk, b4, none⟩)) v := fun v => run_arrayAt v 104 _ 4 _ _ _ Tryd.underlying104 (by omega)
      have ld : (loadVar 104 ⟨gk, b4, none⟩).run Tryd.prog wo = .ok (.agg (bcells [o.getD b4 0, o.getD (b4 + 1) 0, o.getD (b4 + 2) 0, o.getD (b4 + 3) 0])) wo := by
        refine run_loadVar_at wo gk b4 _ _ _ Tryd.underlying104 rfl (by kernel_rfl) fun j hj => ?_
        have hj4 : j < 4 := hj
        have := HT.out.row.cell (b4 + j) (by rw [pad_len (by rw [HO.out]; omega)]; omega)
        rw [pad_get (by rw [HO.out]; omega)] at this
        rw [this, word_is o b4 j hj4]
      have WB : Hid (Byt [o.getD b4 0, o.getD (b4 + 1) 0, o.getD (b4 + 2) 0, o.getD (b4 + 3) 0]) := Lib.hid (by
        intro x hx
        simp only [List.mem_cons, List.not_mem_nil, or_false] at hx
        rcases hx with rfl | rfl | rfl | rfl <;> exact OB.out.get _)
      have TW := Lib.hid (show tword 8 i turn o = if i % 8 = 0 then [Box (o.getD (b4 + 1) 0) ^^^ turn, Box (o.getD (b4 + 2) 0), Box (o.getD (b4 + 3) 0), Box (o.getD b4 0)] else if 8 = 8 ∧ i % 8 = 4 then [Box (o.getD b4 0), Box (o.getD (b4 + 1) 0), Box (o.getD (b4 + 2) 0), Box (o.getD (b4 + 3) 0)] else [o.getD b4 0, o.getD (b4 + 1) 0, o.getD (b4 + 2) 0, o.getD (b4 + 3) 0] by
        unfold tword
        rw [show 4 * i - 4 = b4 by omega]
        rfl)
      have TWL : Hid (Byt (tword 8 i turn o) ∧ (tword 8 i turn o).length = 4) := Lib.hid ⟨tword_byt OB.out TL.out, by
        rw [TW.out]
        repeat' split
        all_goals rfl⟩
      have hz := HZH.out
      generalize o.getD b4 0 = x0 at *
      generalize o.getD (b4 + 1) 0 = x1 at *
      generalize o.getD (b4 + 2) 0 = x2 at *
      generalize o.getD (b4 + 3) 0 = x3 at *
      have HS : ARow (wo.alloc (.cells (bcells Z) 104)) wo.heap.size 104 Z := ARow.new wo _ _
      have GG := Lib.hid (HT.out.row.lt)
      have s0 : (bcells [x0, x1, x2, x3]).size = 4 := rfl
      have sZ : (bcells Z).size = 4 := by rw [bcells_size, ZLen.out]
      have o0 := bcells_one [x0, x1, x2, x3]
      have r1 : (a : Int).tmod 32 = ((a % 32 : Nat) : Int) := by rw [Int.tmod_eq_emod_of_nonneg (by omega)]; omega
      have K0 : Hid (Ku w ((wo.alloc (.cells (bcells Z) 104)).setRow wo.heap.size (bcells [x0, x1, x2, x3])) gk gx wo.heap.size o [x0, x1, x2, x3] (a - 32) 0 240) := Lib.hid
        ⟨by
          rw [bput_zero]
          have h1 := HT.out.row.alloc (.cells (bcells Z) 104)
          have h2 : ARow (wo.alloc (.cells (bcells Z) 104)) gk 5 (pad o 240) := h1
          exact ARow.farRow h2 (Ne.symm (Nat.ne_of_lt GG.out)) _, ARow.setRow HS _, ARow.farRow (HT.out.box.alloc _) (Ne.symm (Nat.ne_of_lt HT.out.box.lt)) _, Aes3.below_setRow (HT.out.bel.alloc HT.out.bel.size _) HT.out.bel.size, HT.out.ge, GG.out, GX.out⟩
      have NX : Hid (wo.heap.size ≠ gx) := Lib.hid (Ne.symm (Nat.ne_of_lt HT.out.box.lt))
      unfold ARow at HS
      have gl : decide ((a : Int) < 240) = true := decide_eq_true (by omega)
      have rl : a % 32 < 32 := Nat.mod_lt _ (by decide)
      have RI : Hid ((a % 32 = 0 ↔ i % 8 = 0) ∧ (a % 32 = 16 ↔ (8 = 8 ∧ i % 8 = 4))) := Lib.hid (by omega)
      obtain ⟨rr, hrr⟩ : ∃ rr, rr = a % 32 := ⟨_, rfl⟩
      rw [← hrr] at r1 rl RI
      clear hrr hb4 la
      have R1 : ((wo.alloc (.cells (bcells Z) 104)).setRow wo.heap.size (bcells [x0, x1, x2, x3])).heap[wo.heap.size]? = some (.cells (bcells [x0, x1, x2, x3]) 104 (0, 0)) := K0.out.wrd
      by_cases qa : rr = 0
      · obtain rfl : rr = 0 := qa
        have IK : i % 8 = 0 := RI.out.1.1 rfl
        go_wp2_with (first
          | (refine wpList_load_at rfl _ _ rfl gk b4 [x0, x1, x2, x3] rfl ld ?_)
          | (refine wpList_store_row rfl _ _ _ rfl wo.heap.size (bcells [x0, x1, x2, x3]) rfl rfl 104 _ HS (by rw [s0]; kernel_rfl) (by rw [s0, sZ]) o0 ?_)
          | (refine wpList_load_row rfl _ _ rfl wo.heap.size rfl 104 (bcells [x0, x1, x2, x3]) (0, 0) _ R1 (Tryd.underlying104) rfl (by rw [s0]; kernel_rfl) ?_))
        clear ld HS s0 sZ o0 sl at4 s4 hz R1
        generalize (wo.alloc (.cells (bcells Z) 104)).setRow wo.heap.size (bcells [x0, x1, x2, x3]) = w4 at *
        generalize wo.heap.size = gw at *
        refine (wboxed_is x0 x1 x2 x3 WB.out gx w4 K0.out.box).mono ?_
        rintro e w5 ⟨rfl, hb5⟩
        go_wp2_with fail
        refine (wturned (Box x0) (Box x1) (Box x2) (Box x3) w5).mono ?_
        rintro e w6 ⟨rfl, hb6⟩
        have B6 := Lib.hid (hb5.trans (hb6.mono hb5.size))
        have R6 : ARow w6 gw 104 [x0, x1, x2, x3] := K0.out.wrd.up B6.out
        have NB := Lib.hid (fun j => Box_lt (WB.out.get j))
        have n0 : Box x0 < 256 := NB.out 0
        have n1 : Box x1 < 256 := NB.out 1
        have n2 : Box x2 < 256 := NB.out 2
        have n3 : Box x3 < 256 := NB.out 3
        have tb := TL.out
        generalize Box x0 = v0 at *
        generalize Box x1 = v1 at *
        generalize Box x2 = v2 at *
        generalize Box x3 = v3 at *
        have s1 : (bcells [v1, v2, v3, v0]).size = 4 := rfl
        have s0 : (bcells [x0, x1, x2, x3]).size = 4 := rfl
        have o1 := bcells_one [v1, v2, v3, v0]
        have R7 : Hid (ARow (w6.setRow gw (bcells [v1, v2, v3, v0])) gw 104 [v1, v2, v3, v0]) := Lib.hid (ARow.setRow R6 _)
        have c7 : (w6.setRow gw (bcells [v1, v2, v3, v0])).cell? ⟨gw, 0, none⟩ = some (.int .u8 (v1 : Int)) := R7.out.cell 0 (by simp)
        have f7 := R7.out.free 0
        have ex : bits .xor .u8 (v1 : Int) (turn : Int) = ((v1 ^^^ turn : Nat) : Int) := Bits3.u8_xor n1 tb
        obtain ⟨y, hy⟩ : ∃ y, y = v1 ^^^ turn := ⟨_, rfl⟩
        rw [← hy] at ex
        have TWE : Hid ([y, v2, v3, v0] = tword 8 i turn o) := Lib.hid (by rw [TW.out, if_pos IK, hy])
        have D := Lib.hid (double_no turn tb)
        have TN : Hid (nturn 8 i turn = dbl turn) := Lib.hid (by unfold nturn; rw [if_pos IK]; exact T_two tb)
        obtain ⟨tn, htn⟩ : ∃ tn, tn = dbl turn := ⟨_, rfl⟩
        rw [← htn] at D TN
        have K8 : Hid (Ku w ((w6.setRow gw (bcells [v1, v2, v3, v0])).setCell ⟨gw, 0, none⟩ (.int .u8 (y : Int))) gk gx gw o [y, v2, v3, v0] (a - 32) 0 240) := Lib.hid
          ⟨by
            have h2 : ARow w6 gk 5 (pad (bput [x0, x1, x2, x3] o (a - 32) 0) 240) := ARow.up (show ARow w4 gk 5 _ from K0.out.row) B6.out
            rw [bput_zero] at h2
            rw [bput_zero]
            exact ARow.far (ARow.farRow h2 (Ne.symm (Nat.ne_of_lt K0.out.gt)) _) (Nat.ne_of_lt K0.out.gt) _, R7.out.put 0 y, ARow.far (ARow.farRow (K0.out.box.up B6.out) NX.out _) (Ne.symm NX.out) _,
            Below.setCell (Aes3.below_setRow (K0.out.bel.trans (B6.out.mono K0.out.bel.size)) (Nat.le_of_lt (Nat.lt_of_le_of_lt K0.out.ge K0.out.gt))) (p := ⟨gw, 0, none⟩) (Nat.le_of_lt (Nat.lt_of_le_of_lt K0.out.ge K0.out.gt)) _, K0.out.ge, K0.out.gt, K0.out.nx⟩
        unfold ARow at R6
        clear hb5 hb6 B6 n0 n1 n2 n3 tb NB hy htn TW IK
        go_wp2_with (first
          | (refine wpList_store_row rfl _ _ _ rfl gw (bcells [v1, v2, v3, v0]) rfl rfl 104 _ R6 (by rw [s1]; kernel_rfl) (by rw [s1, s0]) o1 ?_))
        refine (D.out _).mono ?_
        rintro e w' ⟨rfl, rfl⟩
        clear c7 f7 ex R6 R7 s1 s0 o1 D K0
        generalize (w6.setRow gw (bcells [v1, v2, v3, v0])).setCell ⟨gw, 0, none⟩ (.int .u8 (y : Int)) = w8 at *
        have K0 := K8
        rw [← TWE.out] at TWL
        have TB := TWL
        clear TWL WB K8
        generalize [y, v2, v3, v0] = tw at *
        clear HT
        go_wp2_with fail
        go_loopw [60] (fun kv wr => ∃ k : Nat, kv = .int .i64 (k : Int) ∧ k ≤ 4 ∧ Hid (Ku w wr gk gx gw o tw (a - 32) k 240)) (fun kv _ => 4 - (intOf kv).toNat)
        case atStart => exact ⟨0, rfl, by omega, K0⟩
        case round =>
          obtain ⟨k, rfl, hk, HK⟩ := hrel
          clear K0
          by_cases hk4 : k < 4
          · have la := HA.out
            have q1 : IntKind.i64.wrap ((a : Int) + (k : Int)) = ((a + k : Nat) : Int) := by rw [IntWalk.i64_in _ (by omega)]; omega
            have q2 : IntKind.i64.wrap (((a + k : Nat) : Int) - 32) = ((a - 32 + k : Nat) : Int) := by rw [IntWalk.i64_in _ (by omega)]; omega
            have bl := bput_len tw o (a - 32) (Nat.le_of_lt hk4)
            have olen := HO.out
            have x0 := HK.out.row.cell (a - 32 + k) (by rw [pad_len (by omega)]; omega)
            rw [pad_get (by omega)] at x0
            have e0 : (bput tw o (a - 32) k).getD (a - 32 + k) 0 = o.getD (a - 32 + k) 0 := by
              unfold bput
              exact Go.Proofs.YtdnkbefpbehllaaDoor.AesKy.getD_app (by omega)
            rw [e0] at x0
            have y0 := HK.out.wrd.cell k (by rw [TB.out.2]; exact hk4)
            have z0 := HK.out.row.cell (a + k) (by rw [pad_len (by omega)]; omega)
            have f0 := HK.out.row.free (a + k)
            have bx := OB.out.get (a - 32 + k)
            have by0 := TB.out.1.get k
            have PN : Hid (pad (bput tw o (a - 32) (k + 1)) 240 = (pad (bput tw o (a - 32) k) 240).set (a + k) (tw.getD k 0 ^^^ o.getD (a - 32 + k) 0)) := Lib.hid (by
              rw [bput_next tw o (a - 32) hk4, ← pad_set _ (by omega), bl, olen])
            have i1 : a + k < 240 := by omega
            have i2 : a - 32 + k < 240 := by omega
            obtain ⟨i3, hi3⟩ : ∃ i3, i3 = a + k := ⟨_, rfl⟩
            obtain ⟨i4, hi4⟩ : ∃ i4, i4 = a - 32 + k := ⟨_, rfl⟩
            rw [← hi3] at q1 q2 z0 f0 i1 PN
            rw [← hi4] at q2 x0 bx i2 PN
            generalize (pad (bput tw o (a - 32) k) 240).getD i3 0 = old at *
            generalize o.getD i4 0 = x at *
            generalize tw.getD k 0 = y at *
            have ex : bits .xor .u8 (x : Int) (y : Int) = ((y ^^^ x : Nat) : Int) := by rw [Nat.xor_comm]; exact Bits3.u8_xor bx by0
            obtain ⟨z, hz'⟩ : ∃ z, z = y ^^^ x := ⟨_, rfl⟩
            rw [← hz'] at ex PN
            have K2 : Hid (Ku w (wr.setCell ⟨gk, i3, none⟩ (.int .u8 (z : Int))) gk gx gw o tw (a - 32) (k + 1) 240) := Lib.hid
              ⟨by rw [PN.out]; exact HK.out.row.put i3 z, HK.out.wrd.far (p := ⟨gk, i3, none⟩) (Nat.ne_of_gt HK.out.gt) _, HK.out.box.far (p := ⟨gk, i3, none⟩) (Ne.symm HK.out.nx) _, HK.out.bel.setCell (p := ⟨gk, i3, none⟩) HK.out.ge _, HK.out.ge, HK.out.gt, HK.out.nx⟩
            clear la bl olen e0 bx by0 PN hi3 hi4 hz' HK
            go_wp2_with fail
            go_region
            go_wp2_with fail
            go_roundw
            case rel => exact ⟨k + 1, by go_num, by omega, Lib.hid ⟨K2.out.row, K2.out.wrd, K2.out.box, below_drewN K2.out.bel 1, K2.out.ge, K2.out.gt, K2.out.nx⟩⟩
            case measure => simp [intOf]; omega
          · obtain rfl : k = 4 := by omega
            have la := HA.out
            have OL2 : Hid ((o ++ nword 8 i turn o).length = a + 4) := Lib.hid (by rw [List.length_append, nword_len, HO.out])
            have BE : bput tw o (a - 32) 4 = o ++ nword 8 i turn o := by
              unfold bput nword
              rw [TWE.out, show a - 32 = 4 * (i - 8) by omega]
              rfl
            have K3 : Hid (Kt w wr gk gx (o ++ nword 8 i turn o) 240) := Lib.hid ⟨by rw [← BE]; exact HK.out.row, Byt.app OB.out (nword_byt OB.out TL.out), HK.out.box, HK.out.bel, HK.out.ge⟩
            have E3 : Hid (kgo 8 (60 - (i + 1)) (i + 1) (nturn 8 i turn) (o ++ nword 8 i turn o) = R) := Lib.hid (by
              rw [← HE.out, show 60 - i = (60 - (i + 1)) + 1 by omega]; rfl)
            have A3 : Hid (a + 4 = 4 * (i + 1) ∧ 8 ≤ i + 1 ∧ i + 1 ≤ 60) := Lib.hid (by omega)
            have T3 : Hid (nturn 8 i turn < 256) := Lib.hid (nturn_lt TL.out)
            rw [TN.out] at T3 E3
            have g4 : IntKind.i64.wrap ((a : Int) + 4) = ((a + 4 : Nat) : Int) := by rw [IntWalk.i64_in _ (by omega)]; omega
            have ME : Hid (240 - (a + 4) < 240 - a) := Lib.hid (by omega)
            generalize o ++ nword 8 i turn o = o2 at *
            clear la HK BE HE HA OB TB TWE TN
            go_wp2_with fail
            go_roundw
            case rel => exact ⟨i + 1, a + 4, tn, o2, by go_num, rfl, A3, T3, OL2, E3, K3⟩
            case measure => have := ME.out; simp [intOf]; omega
      · by_cases qb : rr = 16
        · obtain rfl : rr = 16 := qb
          have IK : ¬ i % 8 = 0 := fun e => qa (RI.out.1.2 e)
          have IB : 8 = 8 ∧ i % 8 = 4 := RI.out.2.1 rfl
          go_wp2_with (first
            | (refine wpList_load_at rfl _ _ rfl gk b4 [x0, x1, x2, x3] rfl ld ?_)
            | (refine wpList_store_row rfl _ _ _ rfl wo.heap.size (bcells [x0, x1, x2, x3]) rfl rfl 104 _ HS (by rw [s0]; kernel_rfl) (by rw [s0, sZ]) o0 ?_)
            | (refine wpList_load_row rfl _ _ rfl wo.heap.size rfl 104 (bcells [x0, x1, x2, x3]) (0, 0) _ R1 (Tryd.underlying104) rfl (by rw [s0]; kernel_rfl) ?_))
          clear ld HS s0 sZ o0 sl at4 s4 hz R1
          generalize (wo.alloc (.cells (bcells Z) 104)).setRow wo.heap.size (bcells [x0, x1, x2, x3]) = w4 at *
          generalize wo.heap.size = gw at *
          refine (wboxed_is x0 x1 x2 x3 WB.out gx w4 K0.out.box).mono ?_
          rintro e w5 ⟨rfl, hb5⟩
          have R6 : ARow w5 gw 104 [x0, x1, x2, x3] := K0.out.wrd.up hb5
          have TWE : Hid ([Box x0, Box x1, Box x2, Box x3] = tword 8 i turn o) := Lib.hid (by rw [TW.out, if_neg IK, if_pos IB])
          have TN : Hid (nturn 8 i turn = turn) := Lib.hid (by unfold nturn; rw [if_neg IK])
          generalize Box x0 = v0 at *
          generalize Box x1 = v1 at *
          generalize Box x2 = v2 at *
          generalize Box x3 = v3 at *
          have s1 : (bcells [v0, v1, v2, v3]).size = 4 := rfl
          have s0 : (bcells [x0, x1, x2, x3]).size = 4 := rfl
          have o1 := bcells_one [v0, v1, v2, v3]
          have K8 : Hid (Ku w (w5.setRow gw (bcells [v0, v1, v2, v3])) gk gx gw o [v0, v1, v2, v3] (a - 32) 0 240) := Lib.hid
            ⟨by
              have h2 : ARow w5 gk 5 (pad (bput [x0, x1, x2, x3] o (a - 32) 0) 240) := ARow.up (show ARow w4 gk 5 _ from K0.out.row) hb5
              rw [bput_zero] at h2
              rw [bput_zero]
              exact ARow.farRow h2 (Ne.symm (Nat.ne_of_lt K0.out.gt)) _, ARow.setRow R6 _, ARow.farRow (K0.out.box.up hb5) NX.out _,
              Aes3.below_setRow (K0.out.bel.trans (hb5.mono K0.out.bel.size)) (Nat.le_of_lt (Nat.lt_of_le_of_lt K0.out.ge K0.out.gt)), K0.out.ge, K0.out.gt, K0.out.nx⟩
          unfold ARow at R6
          clear hb5 TW IK IB K0
          go_wp2_with (first
            | (refine wpList_store_row rfl _ _ _ rfl gw (bcells [v0, v1, v2, v3]) rfl rfl 104 _ R6 (by rw [s1]; kernel_rfl) (by rw [s1, s0]) o1 ?_))
          clear R6 s1 s0 o1
          generalize w5.setRow gw (bcells [v0, v1, v2, v3]) = w8 at *
          have K0 := K8
          rw [← TWE.out] at TWL
          have TB := TWL
          clear TWL WB K8
          generalize [v0, v1, v2, v3] = tw at *
          clear HT
          go_wp2_with fail
          go_loopw [60] (fun kv wr => ∃ k : Nat, kv = .int .i64 (k : Int) ∧ k ≤ 4 ∧ Hid (Ku w wr gk gx gw o tw (a - 32) k 240)) (fun kv _ => 4 - (intOf kv).toNat)
          case atStart => exact ⟨0, rfl, by omega, K0⟩
          case round =>
            obtain ⟨k, rfl, hk, HK⟩ := hrel
            clear K0
            by_cases hk4 : k < 4
            · have la := HA.out
              have q1 : IntKind.i64.wrap ((a : Int) + (k : Int)) = ((a + k : Nat) : Int) := by rw [IntWalk.i64_in _ (by omega)]; omega
              have q2 : IntKind.i64.wrap (((a + k : Nat) : Int) - 32) = ((a - 32 + k : Nat) : Int) := by rw [IntWalk.i64_in _ (by omega)]; omega
              have bl := bput_len tw o (a - 32) (Nat.le_of_lt hk4)
              have olen := HO.out
              have x0 := HK.out.row.cell (a - 32 + k) (by rw [pad_len (by omega)]; omega)
              rw [pad_get (by omega)] at x0
              have e0 : (bput tw o (a - 32) k).getD (a - 32 + k) 0 = o.getD (a - 32 + k) 0 := by
                unfold bput
                exact Go.Proofs.YtdnkbefpbehllaaDoor.AesKy.getD_app (by omega)
              rw [e0] at x0
              have y0 := HK.out.wrd.cell k (by rw [TB.out.2]; exact hk4)
              have z0 := HK.out.row.cell (a + k) (by rw [pad_len (by omega)]; omega)
              have f0 := HK.out.row.free (a + k)
              have bx := OB.out.get (a - 32 + k)
              have by0 := TB.out.1.get k
              have PN : Hid (pad (bput tw o (a - 32) (k + 1)) 240 = (pad (bput tw o (a - 32) k) 240).set (a + k) (tw.getD k 0 ^^^ o.getD (a - 32 + k) 0)) := Lib.hid (by
                rw [bput_next tw o (a - 32) hk4, ← pad_set _ (by omega), bl, olen])
              have i1 : a + k < 240 := by omega
              have i2 : a - 32 + k < 240 := by omega
              obtain ⟨i3, hi3⟩ : ∃ i3, i3 = a + k := ⟨_, rfl⟩
              obtain ⟨i4, hi4⟩ : ∃ i4, i4 = a - 32 + k := ⟨_, rfl⟩
              rw [← hi3] at q1 q2 z0 f0 i1 PN
              rw [← hi4] at q2 x0 bx i2 PN
              generalize (pad (bput tw o (a - 32) k) 240).getD i3 0 = old at *
              generalize o.getD i4 0 = x at *
              generalize tw.getD k 0 = y at *
              have ex : bits .xor .u8 (x : Int) (y : Int) = ((y ^^^ x : Nat) : Int) := by rw [Nat.xor_comm]; exact Bits3.u8_xor bx by0
              obtain ⟨z, hz'⟩ : ∃ z, z = y ^^^ x := ⟨_, rfl⟩
              rw [← hz'] at ex PN
              have K2 : Hid (Ku w (wr.setCell ⟨gk, i3, none⟩ (.int .u8 (z : Int))) gk gx gw o tw (a - 32) (k + 1) 240) := Lib.hid
                ⟨by rw [PN.out]; exact HK.out.row.put i3 z, HK.out.wrd.far (p := ⟨gk, i3, none⟩) (Nat.ne_of_gt HK.out.gt) _, HK.out.box.far (p := ⟨gk, i3, none⟩) (Ne.symm HK.out.nx) _, HK.out.bel.setCell (p := ⟨gk, i3, none⟩) HK.out.ge _, HK.out.ge, HK.out.gt, HK.out.nx⟩
              clear la bl olen e0 bx by0 PN hi3 hi4 hz' HK
              go_wp2_with fail
              go_region
              go_wp2_with fail
              go_roundw
              case rel => exact ⟨k + 1, by go_num, by omega, Lib.hid ⟨K2.out.row, K2.out.wrd, K2.out.box, below_drewN K2.out.bel 1, K2.out.ge, K2.out.gt, K2.out.nx⟩⟩
              case measure => simp [intOf]; omega
            · obtain rfl : k = 4 := by omega
              have la := HA.out
              have OL2 : Hid ((o ++ nword 8 i turn o).length = a + 4) := Lib.hid (by rw [List.length_append, nword_len, HO.out])
              have BE : bput tw o (a - 32) 4 = o ++ nword 8 i turn o := by
                unfold bput nword
                rw [TWE.out, show a - 32 = 4 * (i - 8) by omega]
                rfl
              have K3 : Hid (Kt w wr gk gx (o ++ nword 8 i turn o) 240) := Lib.hid ⟨by rw [← BE]; exact HK.out.row, Byt.app OB.out (nword_byt OB.out TL.out), HK.out.box, HK.out.bel, HK.out.ge⟩
              have E3 : Hid (kgo 8 (60 - (i + 1)) (i + 1) (nturn 8 i turn) (o ++ nword 8 i turn o) = R) := Lib.hid (by
                rw [← HE.out, show 60 - i = (60 - (i + 1)) + 1 by omega]; rfl)
              have A3 : Hid (a + 4 = 4 * (i + 1) ∧ 8 ≤ i + 1 ∧ i + 1 ≤ 60) := Lib.hid (by omega)
              have T3 : Hid (nturn 8 i turn < 256) := Lib.hid (nturn_lt TL.out)
              rw [TN.out] at T3 E3
              have g4 : IntKind.i64.wrap ((a : Int) + 4) = ((a + 4 : Nat) : Int) := by rw [IntWalk.i64_in _ (by omega)]; omega
              have ME : Hid (240 - (a + 4) < 240 - a) := Lib.hid (by omega)
              generalize o ++ nword 8 i turn o = o2 at *
              clear la HK BE HE HA OB TB TWE TN
              go_wp2_with fail
              go_roundw
              case rel => exact ⟨i + 1, a + 4, turn, o2, by go_num, rfl, A3, T3, OL2, E3, K3⟩
              case measure => have := ME.out; simp [intOf]; omega
        · have IK : ¬ i % 8 = 0 := fun e => qa (RI.out.1.2 e)
          have IB : ¬ (8 = 8 ∧ i % 8 = 4) := fun e => qb (RI.out.2.2 e)
          have ga : ((rr : Int) == 0) = false := by rw [beq_eq_false_iff_ne]; omega
          have gb : ((rr : Int) == 16) = false := by rw [beq_eq_false_iff_ne]; omega
          go_wp2_with (first
            | (refine wpList_load_at rfl _ _ rfl gk b4 [x0, x1, x2, x3] rfl ld ?_)
            | (refine wpList_store_row rfl _ _ _ rfl wo.heap.size (bcells [x0, x1, x2, x3]) rfl rfl 104 _ HS (by rw [s0]; kernel_rfl) (by rw [s0, sZ]) o0 ?_)
            | (refine wpList_load_row rfl _ _ rfl wo.heap.size rfl 104 (bcells [x0, x1, x2, x3]) (0, 0) _ R1 (Tryd.underlying104) rfl (by rw [s0]; kernel_rfl) ?_))
          clear ld HS s0 sZ o0 sl at4 s4 hz R1
          generalize (wo.alloc (.cells (bcells Z) 104)).setRow wo.heap.size (bcells [x0, x1, x2, x3]) = w4 at *
          generalize wo.heap.size = gw at *
          have TWE : Hid ([x0, x1, x2, x3] = tword 8 i turn o) := Lib.hid (by rw [TW.out, if_neg IK, if_neg IB])
          have TN : Hid (nturn 8 i turn = turn) := Lib.hid (by unfold nturn; rw [if_neg IK])
          rw [← TWE.out] at TWL
          have TB := TWL
          clear TWL WB TW IK IB ga gb qa qb
          generalize [x0, x1, x2, x3] = tw at *
          clear HT
          go_wp2_with fail
          go_loopw [60] (fun kv wr => ∃ k : Nat, kv = .int .i64 (k : Int) ∧ k ≤ 4 ∧ Hid (Ku w wr gk gx gw o tw (a - 32) k 240)) (fun kv _ => 4 - (intOf kv).toNat)
          case atStart => exact ⟨0, rfl, by omega, K0⟩
          case round =>
            obtain ⟨k, rfl, hk, HK⟩ := hrel
            clear K0
            by_cases hk4 : k < 4
            · have la := HA.out
              have q1 : IntKind.i64.wrap ((a : Int) + (k : Int)) = ((a + k : Nat) : Int) := by rw [IntWalk.i64_in _ (by omega)]; omega
              have q2 : IntKind.i64.wrap (((a + k : Nat) : Int) - 32) = ((a - 32 + k : Nat) : Int) := by rw [IntWalk.i64_in _ (by omega)]; omega
              have bl := bput_len tw o (a - 32) (Nat.le_of_lt hk4)
              have olen := HO.out
              have x0 := HK.out.row.cell (a - 32 + k) (by rw [pad_len (by omega)]; omega)
              rw [pad_get (by omega)] at x0
              have e0 : (bput tw o (a - 32) k).getD (a - 32 + k) 0 = o.getD (a - 32 + k) 0 := by
                unfold bput
                exact Go.Proofs.YtdnkbefpbehllaaDoor.AesKy.getD_app (by omega)
              rw [e0] at x0
              have y0 := HK.out.wrd.cell k (by rw [TB.out.2]; exact hk4)
              have z0 := HK.out.row.cell (a + k) (by rw [pad_len (by omega)]; omega)
              have f0 := HK.out.row.free (a + k)
              have bx := OB.out.get (a - 32 + k)
              have by0 := TB.out.1.get k
              have PN : Hid (pad (bput tw o (a - 32) (k + 1)) 240 = (pad (bput tw o (a - 32) k) 240).set (a + k) (tw.getD k 0 ^^^ o.getD (a - 32 + k) 0)) := Lib.hid (by
                rw [bput_next tw o (a - 32) hk4, ← pad_set _ (by omega), bl, olen])
              have i1 : a + k < 240 := by omega
              have i2 : a - 32 + k < 240 := by omega
              obtain ⟨i3, hi3⟩ : ∃ i3, i3 = a + k := ⟨_, rfl⟩
              obtain ⟨i4, hi4⟩ : ∃ i4, i4 = a - 32 + k := ⟨_, rfl⟩
              rw [← hi3] at q1 q2 z0 f0 i1 PN
              rw [← hi4] at q2 x0 bx i2 PN
              generalize (pad (bput tw o (a - 32) k) 240).getD i3 0 = old at *
              generalize o.getD i4 0 = x at *
              generalize tw.getD k 0 = y at *
              have ex : bits .xor .u8 (x : Int) (y : Int) = ((y ^^^ x : Nat) : Int) := by rw [Nat.xor_comm]; exact Bits3.u8_xor bx by0
              obtain ⟨z, hz'⟩ : ∃ z, z = y ^^^ x := ⟨_, rfl⟩
              rw [← hz'] at ex PN
              have K2 : Hid (Ku w (wr.setCell ⟨gk, i3, none⟩ (.int .u8 (z : Int))) gk gx gw o tw (a - 32) (k + 1) 240) := Lib.hid
                ⟨by rw [PN.out]; exact HK.out.row.put i3 z, HK.out.wrd.far (p := ⟨gk, i3, none⟩) (Nat.ne_of_gt HK.out.gt) _, HK.out.box.far (p := ⟨gk, i3, none⟩) (Ne.symm HK.out.nx) _, HK.out.bel.setCell (p := ⟨gk, i3, none⟩) HK.out.ge _, HK.out.ge, HK.out.gt, HK.out.nx⟩
              clear la bl olen e0 bx by0 PN hi3 hi4 hz' HK
              go_wp2_with fail
              go_region
              go_wp2_with fail
              go_roundw
              case rel => exact ⟨k + 1, by go_num, by omega, Lib.hid ⟨K2.out.row, K2.out.wrd, K2.out.box, below_drewN K2.out.bel 1, K2.out.ge, K2.out.gt, K2.out.nx⟩⟩
              case measure => simp [intOf]; omega
            · obtain rfl : k = 4 := by omega
              have la := HA.out
              have OL2 : Hid ((o ++ nword 8 i turn o).length = a + 4) := Lib.hid (by rw [List.length_append, nword_len, HO.out])
              have BE : bput tw o (a - 32) 4 = o ++ nword 8 i turn o := by
                unfold bput nword
                rw [TWE.out, show a - 32 = 4 * (i - 8) by omega]
                rfl
              have K3 : Hid (Kt w wr gk gx (o ++ nword 8 i turn o) 240) := Lib.hid ⟨by rw [← BE]; exact HK.out.row, Byt.app OB.out (nword_byt OB.out TL.out), HK.out.box, HK.out.bel, HK.out.ge⟩
              have E3 : Hid (kgo 8 (60 - (i + 1)) (i + 1) (nturn 8 i turn) (o ++ nword 8 i turn o) = R) := Lib.hid (by
                rw [← HE.out, show 60 - i = (60 - (i + 1)) + 1 by omega]; rfl)
              have A3 : Hid (a + 4 = 4 * (i + 1) ∧ 8 ≤ i + 1 ∧ i + 1 ≤ 60) := Lib.hid (by omega)
              have T3 : Hid (nturn 8 i turn < 256) := Lib.hid (nturn_lt TL.out)
              rw [TN.out] at T3 E3
              have g4 : IntKind.i64.wrap ((a : Int) + 4) = ((a + 4 : Nat) : Int) := by rw [IntWalk.i64_in _ (by omega)]; omega
              have ME : Hid (240 - (a + 4) < 240 - a) := Lib.hid (by omega)
              generalize o ++ nword 8 i turn o = o2 at *
              clear la HK BE HE HA OB TB TWE TN
              go_wp2_with fail
              go_roundw
              case rel => exact ⟨i + 1, a + 4, turn, o2, by go_num, rfl, A3, T3, OL2, E3, K3⟩
              case measure => have := ME.out; simp [intOf]; omega
    · obtain rfl : a = 240 := by omega
      obtain rfl : i = 60 := by omega
      have OR : o = R := by have := HE.out; rwa [Nat.sub_self] at this
      subst OR
      have RR : Hid (BRow wo gk o) := Lib.hid (by have := HT.out.row; rwa [pad_full HO.out] at this)
      have BB := Lib.hid HT.out.bel
      have GE := Lib.hid HT.out.ge
      clear HT HA HO HE TL la
      go_wp2_with fail
      go_ret2
      exact ⟨gk, rfl, GE.out, RR.out, BB.out⟩
end Go.Proofs.YtdnkbefpbehllaaDoor.Aes8

