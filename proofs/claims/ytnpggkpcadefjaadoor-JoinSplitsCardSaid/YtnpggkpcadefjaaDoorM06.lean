/- The code's drop. -/
import Derived.Test.YtnpggkpcadefjaaDoorM05
import Derived.Test.YtnpggkpcadefjaaDoorM10
import Derived.Test.YtnpggkpcadefjaaDoorM01
import Derived.Deep.AppendSrc
set_option linter.unusedVariables false
set_option maxRecDepth 100000
namespace Go.Proofs.YtnpggkpcadefjaaDoor.Jc8
open Go.RowKit Go.Proofs.YtnpggkpcadefjaaDoor.Sums Go.Proofs.YtnpggkpcadefjaaDoor.Mem Go.Proofs.YtnpggkpcadefjaaDoor.Blk Go.Proofs.YtnpggkpcadefjaaDoor.Pkt Go.Proofs.YtnpggkpcadefjaaDoor.Check Go.Proofs.YtnpggkpcadefjaaDoor.JoiM Go.Proofs.YtnpggkpcadefjaaDoor.JoiC Go.Proofs.YtnpggkpcadefjaaDoor.RowN Go.Proofs.YtnpggkpcadefjaaDoor.RowA Go.Proofs.YtnpggkpcadefjaaDoor.SplP Go.Proofs.YtnpggkpcadefjaaDoor.Spl5 Go.Proofs.YtnpggkpcadefjaaDoor.MapK Go.Proofs.YtnpggkpcadefjaaDoor.MapL Go.Proofs.YtnpggkpcadefjaaDoor.Free Go.Proofs.YtnpggkpcadefjaaDoor.Steps Go.Proofs.YtnpggkpcadefjaaDoor.JoiC2 Go.Proofs.YtnpggkpcadefjaaDoor.Cat Go.Proofs.YtnpggkpcadefjaaDoor.Jc6

theorem b_nm (a b : Nm) (r : Bool) (h : decide (a = b) = r) (x y : Operand) (w : World) : (do eqGuard .eql 60 x y (nk a) (nk b); binOp .eql 60 (nk a) (nk b) : Sem Value).run Tryd.prog w = .ok (.bool r) w := by
  have h1 : (eqGuard .eql 60 x y (nk a) (nk b)).run Tryd.prog w = .ok () w := run_eqGuard_agg w _ _ _ _ _ _ (by kernel_rfl)
  have h2 : (Op.equalIn 10000 60 (nk a) (nk b)).run Tryd.prog w = .ok (decide (a = b)) w := key_law.equal a b w
  unfold nk at h2 ⊢
  unfold nk at h1
  rw [Sem.run_bind, h1, Result.andThen_ok, run_eql_struct, h2, h]
  rfl
theorem ent_index : Enters Tryd.prog 41 := enters_of Tryd.func41 (by kernel_rfl) rfl
theorem row_nm {w : World} {A : Option Addr} {c : Nat} {l : List Nm} (h : RowAt NT 4 w A l.length c (nmFlat l)) {k : Nat} {z : Nm} (hk : l[k]? = some z) : ∃ b, A = some ⟨b, 0, none⟩ ∧ b < w.heap.size ∧ Part.At w b (k * 4) (nmCells z) := by
  have hlt := (List.getElem?_eq_some_iff.1 hk).1
  obtain ⟨b, X, hA, hX, _, _⟩ := h.some (by omega)
  exact ⟨b, hA, hX.lt, fun j v hv => h.cell hA (nmFlat_at l k z hk j v hv)⟩
set_option maxHeartbeats 2000000 in
theorem index_c (A : Option Addr) (c : Nat) (l : List Nm) (m : Nm) (i : Nat) (w : World) (h : RowAt NT 4 w A l.length c (nmFlat l)) (hi : l[i]? = some m) (hf : ∀ j z, j < i → l[j]? = some z → z ≠ m) (hn : l.length ≤ 1000) : Calls Tryd.prog 41 #[.slice A l.length c, nk m] w fun e w' => e = .returned (.int .i64 (i : Int)) ∧ Below w.heap.size w w' := by
  obtain ⟨n, hln⟩ : ∃ n, l.length = n := ⟨_, rfl⟩
  have hin : i < n := by
    have := (List.getElem?_eq_some_iff.1 hi).1
    omega
  have HH := Lib.hid h
  have LN := Lib.hid hln
  have HI := Lib.hid hi
  have HFR := Lib.hid hf
  rw [hln]
  rw [hln] at hn
  have B0 := (Below.refl w.heap.size w).alloc (Nat.le_refl _) (.cells #[.string m.src, .string m.dst, .int .i64 m.proto, .int .i64 m.id] 60)
  have B1 := Lib.hid B0
  have K1 := Lib.hid (Blk.new w 60 #[.string m.src, .string m.dst, .int .i64 m.proto, .int .i64 m.id])
  have H1 := Lib.hid (h.below B0)
  unfold nk
  clear h hi hf hln B0
  go_enter Tryd.func41, Tryd.ntmps41
  go_wp2_with fail
  generalize w.alloc (.cells #[.string m.src, .string m.dst, .int .i64 m.proto, .int .i64 m.id] 60) = w1 at *
  go_loopw [8] (fun iv wr => ∃ j : Nat, iv = .int .i64 (j : Int) ∧ j ≤ i ∧ Hid (Below w1.heap.size w1 wr)) (fun iv _ => n - (intOf iv).toNat)
  case atStart => exact ⟨0, rfl, by omega, Lib.hid (Below.refl _ _)⟩
  case round =>
    obtain ⟨j, rfl, hj, HB1⟩ := hrel
    have lt : j < n := by omega
    have LT := Lib.hid lt
    obtain ⟨z, hz⟩ : ∃ z, l[j]? = some z := ⟨_, List.getElem?_eq_getElem (by rw [LN.out]; exact lt)⟩
    have HZ := Lib.hid hz
    obtain ⟨b, rfl, hbl, hat⟩ := row_nm (H1.out.below HB1.out) hz
    have XR : Hid (∀ V, Below wr.drew.heap.size wr.drew V → Part.At V b (0 + j * 4) (nmCells z)) := Lib.hid fun V hV => by
      rw [Nat.zero_add]
      exact Part.At.below (w := wr.drew) hat hV hbl
    have KB := Lib.hid (K1.out.below HB1.out K1.out.lt)
    have XB : Hid (∀ V, Below wr.drew.heap.size wr.drew V → Blk V w.heap.size 60 #[.string m.src, .string m.dst, .int .i64 m.proto, .int .i64 m.id]) := Lib.hid fun V hV => Blk.below (show Blk wr.drew w.heap.size 60 #[.string m.src, .string m.dst, .int .i64 m.proto, .int .i64 m.id] from KB.out) hV (Blk.lt KB.out)
    have HB := Lib.hid (B1.out.trans (HB1.out.mono B1.out.size))
    obtain ⟨t, ht⟩ : ∃ t, decide (m = z) = t := ⟨_, rfl⟩
    have HT := Lib.hid ht
    have f1 : decide (j < n) = true := decide_eq_true lt
    have f2 : IntKind.i64.wrap ((j : Int) + 1) = ((j + 1 : Nat) : Int) := by rw [IntWalk.i64_in _ (by omega)]; omega
    clear hz hat hbl ht KB
    go_wp2_with fail
    refine wp_region_free [0, 1, 2, 3, 4] 5 [] (fun w1 w2 => Below w1.heap.size w1 w2) (fun k' w' v => match k' with
        | 0 => v = .agg #[.string m.src, .string m.dst, .int .i64 m.proto, .int .i64 m.id]
        | 1 => v = .slice (some ⟨b, 0, none⟩) n c
        | 2 => v = .int .i64 (j : Int)
        | 3 => v = .pointer (some ⟨b, 0 + j * 4, none⟩)
        | _ => v = .agg #[.string z.src, .string z.dst, .int .i64 z.proto, .int .i64 z.id]) (by kernel_rfl) (by kernel_rfl) (Below.refl _ _) (fun _ _ _ h k => h.trans (k.mono h.size)) (fun k' w1 w2 v h => match k' with
        | 0 => fun x => x
        | 1 => fun x => x
        | 2 => fun x => x
        | 3 => fun x => x
        | _ + 4 => fun x => x) (fun _ _ _ _ _ h => h) ?_ _ (by rfl) ?_
    · refine obs_cons (by rfl) (fun vals w' hgr hdep K hK => ?_) (obs_cons (by rfl) (fun vals w' hgr hdep K hK => ?_) (obs_cons (by rfl) (fun vals w' hgr hdep K hK => ?_) (obs_cons (by rfl) (fun vals w' hgr hdep K hK => ?_) (obs_cons (by rfl) (fun vals w' hgr hdep K hK => ?_) (obs_nil)))))
      · exact st_load_row 60 (.tmp 3) rfl w.heap.size (at_out _ (by kernel_rfl) rfl) 60 #[.string m.src, .string m.dst, .int .i64 m.proto, .int .i64 m.id] (0, 0) _ (XB.out w' hgr) Tryd.underlying60 rfl (by kernel_rfl) (hK _ _ (Below.refl _ _) rfl)
      · exact wp_move (.tmp 0) rfl _ (at_out _ (by kernel_rfl) rfl) (hK _ _ (Below.refl _ _) rfl)
      · exact wp_move (.tmp 5) rfl _ (at_out _ (by kernel_rfl) rfl) (hK _ _ (Below.refl _ _) rfl)
      · exact Part.st_elem_at (.tmp 12) (.tmp 13) rfl Tryd.underlying55 (by kernel_rfl) b 0 n c j ((at_dst 1 (by kernel_rfl)).trans (hdep 1 (by simp) (by kernel_rfl))) ((at_dst 2 (by kernel_rfl)).trans (hdep 2 (by simp) (by kernel_rfl))) LT.out (hK _ _ (Below.refl _ _) rfl)
      · exact Part.st_load_part 60 (.tmp 14) rfl b (0 + j * 4) [.string z.src, .string z.dst, .int .i64 z.proto, .int .i64 z.id] ((at_dst 3 (by kernel_rfl)).trans (hdep 3 (by simp) (by kernel_rfl))) (Part.run_part _ _ _ _ _ _ Tryd.underlying60 rfl (by kernel_rfl) (XR.out w' hgr)) (hK _ _ (Below.refl _ _) rfl)
    · intro vals w' hgr hG
      refine wp_bin (.tmp 11) (.tmp 15) rfl _ _ _ ((at_dst 0 (by kernel_rfl)).trans (hG 0 (by simp))) ((at_dst 4 (by kernel_rfl)).trans (hG 4 (by simp))) (b_nm m z t HT.out _ _ _) (wpAnyH_done (by kernel_rfl) ?_ _)
      have B2 := Lib.hid (HB.out.trans ((Draw.below_1 hgr).mono HB.out.size))
      have B3 := Lib.hid (HB1.out.trans ((Draw.below_1 hgr).mono HB1.out.size))
      clear hG hgr XR XB
      simp only [fill, dstAt, List.getElem?_cons_zero, List.getElem?_cons_succ, Option.bind_some, Act.put, List.setIfInBounds_toArray, List.set_cons_zero, List.set_cons_succ]
      generalize vals 0 = v0, vals 1 = v1, vals 2 = v2, vals 3 = v3, vals 4 = v4 at *
      generalize w' = w2 at *
      cases t
      · have ne : j ≠ i := fun e => by
          subst e
          rw [HI.out] at HZ
          cases HZ.out
          have := HT.out
          simp at this
        go_wp2_with fail
        go_roundw
        case rel => exact ⟨j + 1, by go_num, by omega, B3⟩
        case measure => simp [intOf]; omega
      · have ji : j = i := by
          rcases Nat.lt_or_ge j i with q | q
          · exact absurd (of_decide_eq_true HT.out).symm (HFR.out j z q HZ.out)
          · omega
        subst ji
        go_wp2_with fail
        go_ret
        exact ⟨rfl, B2.out⟩
theorem rem_is {ms : List ME} {m : Nm} {i : Nat} (h : ms.findIdx? (fun e => decide (e.nm = m)) = some i) : rem m (ms.map fun e => (e.nm, e.eb)) = (ms.eraseIdx i).map fun e => (e.nm, e.eb) := by
  obtain ⟨h1, _⟩ := List.findIdx?_eq_some_iff_getElem.1 h
  have : at_ m (ms.map fun e => (e.nm, e.eb)) 0 = some (i, ms[i].eb) := by
    rw [at_idx, List.findIdx?_map]
    show ((ms.findIdx? (fun e => decide (e.nm = m))).bind _) = _
    rw [h]
    simp [h1]
  unfold rem
  rw [this]
  exact (MapL.erase_map _ _ _).symm
set_option maxHeartbeats 4000000 in
theorem drop_c (F : Nat → Prop) (g gm : Nat) (OA : Option Addr) (oc : Nat) (T : Nat → Nat) (ms : List ME) (m : Nm) (i : Nat) (w : World) (h : CatM F w g gm OA oc T ms) (hi : ms.findIdx? (fun e => decide (e.nm = m)) = some i) :
    Calls Tryd.prog 23 #[.pointer (some ⟨g, 0, none⟩), nk m] w fun er w' => er = .returned (.tuple #[]) ∧ (CatM F w' g gm OA oc T (ms.eraseIdx i) ∧ Keep (fun k => k ≠ g ∧ k ≠ gm ∧ ¬ own OA k) w w') := by
  obtain ⟨n, hn⟩ : ∃ n, ms.length = n := ⟨_, rfl⟩
  have MN := Lib.hid hn
  have IX := Lib.hid hi
  obtain ⟨h1, h2, h3⟩ := List.findIdx?_eq_some_iff_getElem.1 hi
  have NI : Hid ((ms.map (·.nm))[i]? = some m) := Lib.hid (by
    rw [List.getElem?_map, List.getElem?_eq_getElem h1]
    simpa using h2)
  have NF : Hid (∀ (j : Nat) (z : Nm), j < i → (ms.map (·.nm))[j]? = some z → z ≠ m) := Lib.hid fun j z hj hz => by
    rw [List.getElem?_map] at hz
    obtain ⟨e, he, rfl⟩ := Option.map_eq_some_iff.1 hz
    have := h3 j hj
    obtain ⟨lj, ej⟩ := List.getElem?_eq_some_iff.1 he
    rw [ej] at this
    simpa using this
  have IN : Hid (i < n) := Lib.hid (by omega)
  have N16 : Hid (n ≤ 16) := Lib.hid (by have := h.few; omega)
  have HC := Lib.hid h
  have AP := Lib.hid h.apart
  have GM := Lib.hid h.map.lt
  have B0 := (Below.refl w.heap.size w).alloc (Nat.le_refl _) (.cells #[.string m.src, .string m.dst, .int .i64 m.proto, .int .i64 m.id] 60)
  have B1 := Lib.hid B0
  have h' := h.below B0
  have bk := h'.blk
  have rd := h'.ord
  have mp := h'.map
  rw [hn] at bk rd
  have G1 := Lib.hid bk
  have R1 := Lib.hid rd
  have M1 := Lib.hid mp
  have N1 := Lib.hid (Blk.new w 60 #[.string m.src, .string m.dst, .int .i64 m.proto, .int .i64 m.id])
  clear h hn hi h1 h2 h3 B0 h' bk rd mp
  unfold nk
  go_enter Tryd.func23, Tryd.ntmps23
  go_wp2_with fail
  generalize w.alloc (.cells #[.string m.src, .string m.dst, .int .i64 m.proto, .int .i64 m.id] 60) = w1 at *
  have XG : Hid (∀ V, Below w1.drew.heap.size w1.drew V → Blk V g 57 #[.map (some gm), .slice OA n oc]) := Lib.hid fun V hV => Blk.below (show Blk w1.drew g JT _ from G1.out) hV (Blk.lt G1.out)
  have XB : Hid (∀ V, Below w1.drew.heap.size w1.drew V → Blk V w.heap.size 60 #[.string m.src, .string m.dst, .int .i64 m.proto, .int .i64 m.id]) := Lib.hid fun V hV => Blk.below (show Blk w1.drew w.heap.size NT _ from N1.out) hV (Blk.lt N1.out)
  have XM : Hid (∀ V, Below w1.drew.heap.size w1.drew V → MapAt nk ev V gm (ms.map fun e => (e.nm, e.eb))) := Lib.hid fun V hV => M1.out.below (Draw.below_1 hV) M1.out.lt
  refine wp_region_free [0, 1, 2, 3, 4] 5 [] (fun w1 w2 => Below w1.heap.size w1 w2) (fun k' w' v => match k' with
      | 0 => v = .pointer (some ⟨g, 0, none⟩)
      | 1 => v = .pointer (some ⟨g, 0, none⟩)
      | 2 => v = .pointer (some ⟨g, 0, none⟩)
      | 3 => v = .map (some gm)
      | _ => v = .agg #[.string m.src, .string m.dst, .int .i64 m.proto, .int .i64 m.id]) (by kernel_rfl) (by kernel_rfl) (Below.refl _ _) (fun _ _ _ h k => h.trans (k.mono h.size)) (fun k' w1 w2 v h => match k' with
      | 0 => fun x => x
      | 1 => fun x => x
      | 2 => fun x => x
      | 3 => fun x => x
      | _ + 4 => fun x => x) (fun _ _ _ _ _ h => h) ?_ _ (by rfl) ?_
  · refine obs_cons (by rfl) (fun vals w' hgr hdep K hK => ?_) (obs_cons (by rfl) (fun vals w' hgr hdep K hK => ?_) (obs_cons (by rfl) (fun vals w' hgr hdep K hK => ?_) (obs_cons (by rfl) (fun vals w' hgr hdep K hK => ?_) (obs_cons (by rfl) (fun vals w' hgr hdep K hK => ?_) (obs_nil)))))
    · exact wp_move (.tmp 0) rfl _ (at_out _ (by kernel_rfl) rfl) (hK _ _ (Below.refl _ _) rfl)
    · exact MapS.st_nil (.tmp 5) rfl _ ((at_dst 0 (by kernel_rfl)).trans (hdep 0 (by simp) (by kernel_rfl))) (hK _ _ (Below.refl _ _) rfl)
    · exact wp_field (.tmp 6) rfl _ _ ((at_dst 1 (by kernel_rfl)).trans (hdep 1 (by simp) (by kernel_rfl))) (by kernel_rfl) (hK _ _ (Below.refl _ _) rfl)
    · exact wp_load1 (.tmp 7) rfl ⟨g, 0, none⟩ ((at_dst 2 (by kernel_rfl)).trans (hdep 2 (by simp) (by kernel_rfl))) Tryd.underlying54 rfl _ ((XG.out w' hgr).cell 0) (hK _ _ (Below.refl _ _) rfl)
    · exact st_load_row 60 (.tmp 3) rfl w.heap.size (at_out _ (by kernel_rfl) rfl) 60 #[.string m.src, .string m.dst, .int .i64 m.proto, .int .i64 m.id] (0, 0) _ (XB.out w' hgr) Tryd.underlying60 rfl (by kernel_rfl) (hK _ _ (Below.refl _ _) rfl)
  · intro vals w' hgr hG
    obtain ⟨ob, hr, hm⟩ := run_delete (P := Tryd.prog) key_law Tryd.underlying54 (XM.out w' hgr) m
    refine st_delete 54 60 (.tmp 8) (.tmp 9) rfl (.map (some gm)) (nk m) ((at_dst 3 (by kernel_rfl)).trans (hG 3 (by simp))) ((at_dst 4 (by kernel_rfl)).trans (hG 4 (by simp))) (MapK.stored w' gm ob) hr (wpAnyH_done (by kernel_rfl) ?_ _)
    have KD := Draw.below_1 hgr
    have G2 := XG.out w' hgr
    have N2 := XB.out w' hgr
    have R2 := R1.out.below KD
    have ngm : g ≠ gm := AP.out.1
    have G3 := Lib.hid (show Blk (MapK.stored w' gm ob) g JT #[.map (some gm), .slice OA n oc] from (stored_other _ _ _ _ ngm).trans G2)
    have N3 := Lib.hid (show Blk (MapK.stored w' gm ob) w.heap.size NT #[.string m.src, .string m.dst, .int .i64 m.proto, .int .i64 m.id] from (stored_other _ _ _ _ (by have := GM.out; omega)).trans N2)
    have R3 := Lib.hid (R2.keep (w' := MapK.stored w' gm ob) fun k ok _ => stored_other _ _ _ _ fun z => AP.out.2.2 (z ▸ ok))
    rw [rem_is IX.out] at hm
    have M3 := Lib.hid hm
    have KK := Lib.hid (show Keep (fun k => k ≠ g ∧ k ≠ gm ∧ ¬ own OA k) w (MapK.stored w' gm ob) from (Keep.of B1.out).trans ((Keep.of KD).trans ⟨rfl, rfl, rfl, by simp [MapK.stored], fun k hk _ => stored_other _ _ _ _ hk.2.1⟩))
    clear hG hgr hr hm XG XB XM KD G2 N2 R2 ngm R1 G1 N1 B1
    simp only [fill, dstAt, List.getElem?_cons_zero, List.getElem?_cons_succ, Option.bind_some, Act.put, List.setIfInBounds_toArray, List.set_cons_zero, List.set_cons_succ]
    generalize vals 0 = y0, vals 1 = y1, vals 2 = y2, vals 3 = y3, vals 4 = y4 at *
    generalize MapK.stored w' gm ob = w3 at *
    go_wp2_with fail
    have XG : Hid (∀ V, Below w3.drew.heap.size w3.drew V → Blk V g 57 #[.map (some gm), .slice OA n oc]) := Lib.hid fun V hV => Blk.below (show Blk w3.drew g JT _ from G3.out) hV (Blk.lt G3.out)
    have XB : Hid (∀ V, Below w3.drew.heap.size w3.drew V → Blk V w.heap.size 60 #[.string m.src, .string m.dst, .int .i64 m.proto, .int .i64 m.id]) := Lib.hid fun V hV => Blk.below (show Blk w3.drew w.heap.size NT _ from N3.out) hV (Blk.lt N3.out)
    have XI : Hid (∀ V, Below w3.drew.heap.size w3.drew V → Calls Tryd.prog 41 #[.slice OA n oc, nk m] V fun e w' => e = .returned (.int .i64 (i : Int)) ∧ Below V.heap.size V w') := Lib.hid fun V hV => by
      have hl : (ms.map (·.nm)).length = n := by rw [List.length_map]; exact MN.out
      have hr := R3.out.below (Draw.below_1 hV)
      rw [← hl] at hr
      have := index_c OA oc (ms.map (·.nm)) m i V hr NI.out NF.out (by rw [hl]; have := N16.out; omega)
      rw [hl] at this
      exact this
    unfold nk at XI
    refine wp_region_free [0, 1, 2, 3, 4, 5] 6 [] (fun w1 w2 => Below w1.heap.size w1 w2) (fun k' w' v => match k' with
        | 0 => v = .pointer (some ⟨g, 0, none⟩)
        | 1 => v = .pointer (some ⟨g, 0, none⟩)
        | 2 => v = .pointer (some ⟨g, 1, none⟩)
        | 3 => v = .slice OA n oc
        | 4 => v = .agg #[.string m.src, .string m.dst, .int .i64 m.proto, .int .i64 m.id]
        | _ => v = .int .i64 (i : Int)) (by kernel_rfl) (by kernel_rfl) (Below.refl _ _) (fun _ _ _ h k => h.trans (k.mono h.size)) (fun k' w1 w2 v h => match k' with
        | 0 => fun x => x
        | 1 => fun x => x
        | 2 => fun x => x
        | 3 => fun x => x
        | 4 => fun x => x
        | _ + 5 => fun x => x) (fun _ _ _ _ _ h => h) ?_ _ (by rfl) ?_
    · refine obs_cons (by rfl) (fun vals w' hgr hdep K hK => ?_) (obs_cons (by rfl) (fun vals w' hgr hdep K hK => ?_) (obs_cons (by rfl) (fun vals w' hgr hdep K hK => ?_) (obs_cons (by rfl) (fun vals w' hgr hdep K hK => ?_) (obs_cons (by rfl) (fun vals w' hgr hdep K hK => ?_) (obs_cons (by rfl) (fun vals w' hgr hdep K hK => ?_) (obs_nil))))))
      · exact wp_move (.tmp 0) rfl _ (at_out _ (by kernel_rfl) rfl) (hK _ _ (Below.refl _ _) rfl)
      · exact MapS.st_nil (.tmp 10) rfl _ ((at_dst 0 (by kernel_rfl)).trans (hdep 0 (by simp) (by kernel_rfl))) (hK _ _ (Below.refl _ _) rfl)
      · exact wp_field (.tmp 11) rfl _ _ ((at_dst 1 (by kernel_rfl)).trans (hdep 1 (by simp) (by kernel_rfl))) (by kernel_rfl) (hK _ _ (Below.refl _ _) rfl)
      · exact wp_load1 (.tmp 12) rfl ⟨g, 1, none⟩ ((at_dst 2 (by kernel_rfl)).trans (hdep 2 (by simp) (by kernel_rfl))) Tryd.underlying55 rfl _ ((XG.out w' hgr).cell 1) (hK _ _ (Below.refl _ _) rfl)
      · exact st_load_row 60 (.tmp 3) rfl w.heap.size (at_out _ (by kernel_rfl) rfl) 60 #[.string m.src, .string m.dst, .int .i64 m.proto, .int .i64 m.id] (0, 0) _ (XB.out w' hgr) Tryd.underlying60 rfl (by kernel_rfl) (hK _ _ (Below.refl _ _) rfl)
      · exact wp_call 41 [.tmp 13, .tmp 14] _ rfl ent_index [.slice OA n oc, .agg #[.string m.src, .string m.dst, .int .i64 m.proto, .int .i64 m.id]] (Draw.list2 ((at_dst 3 (by kernel_rfl)).trans (hdep 3 (by simp) (by kernel_rfl))) ((at_dst 4 (by kernel_rfl)).trans (hdep 4 (by simp) (by kernel_rfl)))) (fun v w'' => v = .int .i64 (i : Int) ∧ Below w'.heap.size w' w'') ((XI.out w' hgr).mono fun e w'' ⟨h1, h2⟩ => ⟨_, h1, rfl, h2⟩) (fun v w'' ⟨h1, h2⟩ => hK _ _ h2 h1)
    · intro vals w' hgr hG
      refine st_assign (.tmp 15) _ rfl ((at_dst 5 (by kernel_rfl)).trans (hG 5 (by simp))) (wpAnyH_done (by kernel_rfl) ?_ _)
      have KD := Draw.below_1 hgr
      have G4 := Lib.hid (XG.out w' hgr)
      have R4 := Lib.hid (R3.out.below KD)
      have M4 := Lib.hid (M3.out.below KD M3.out.lt)
      have KK4 := Lib.hid (KK.out.trans (Keep.of KD))
      clear hG hgr XG XB XI KD G3 R3 M3 KK
      simp only [fill, dstAt, List.getElem?_cons_zero, List.getElem?_cons_succ, Option.bind_some, Act.put, List.setIfInBounds_toArray, List.set_cons_zero, List.set_cons_succ]
      generalize vals 0 = v0, vals 1 = v1, vals 2 = v2, vals 3 = v3, vals 4 = v4, vals 5 = v5 at *
      generalize w' = w4 at *
      have c1 := G4.out.cell 1
      have DC := Lib.hid (DelN.delete_name OA n oc i (nmFlat (ms.map (·.nm))) w4 R4.out (by have := N16.out; omega) IN.out)
      have f1 : IntKind.i64.wrap ((i : Int) + 1) = (i : Int) + 1 := IntWalk.i64_in _ (by have := IN.out; have := N16.out; omega)
      go_wp2_with fail
      refine DC.out.mono ?_
      rintro e w5 ⟨rfl, hr5, hk5⟩
      have no : ¬ own OA g := AP.out.2.1
      have G5 : Blk w5 g JT #[.map (some gm), .slice OA n oc] := (hk5.block g no G4.out.lt).trans G4.out
      have M5 := M4.out.same (hk5.block gm AP.out.2.2 M4.out.lt)
      have RS := Lib.hid (Store.run_store_one (ty := 55) (p := 1) G5 (by simp) (by kernel_rfl) (u := .slice OA (n - 1) oc) rfl #[.map (some gm), .slice OA (n - 1) oc] rfl rfl)
      have G6 := setRow_heap w5 g _ #[.map (some gm), .slice OA (n - 1) oc] _ _ G5
      have R6 := hr5.keep (w' := w5.setRow g #[.map (some gm), .slice OA (n - 1) oc]) fun k ok _ => setRow_other _ _ _ _ fun z => no (z ▸ ok)
      have M6 := M5.same (w' := w5.setRow g #[.map (some gm), .slice OA (n - 1) oc]) (setRow_other _ _ _ _ fun z => AP.out.1 z.symm)
      have KF : Keep (fun k => k ≠ g ∧ k ≠ gm ∧ ¬ own OA k) w (w5.setRow g #[.map (some gm), .slice OA (n - 1) oc]) := KK4.out.trans ((hk5.mono fun k hk _ => hk.2.2).trans (Keep.row _ _ _ fun z => z.1 rfl))
      have FIN := Lib.hid (show CatM F (w5.setRow g #[.map (some gm), .slice OA (n - 1) oc]) g gm OA oc T (ms.eraseIdx i) ∧ Keep (fun k => k ≠ g ∧ k ≠ gm ∧ ¬ own OA k) w (w5.setRow g #[.map (some gm), .slice OA (n - 1) oc]) from ⟨HC.out.drop KF (by rw [MN.out]; exact IN.out) (by rw [MN.out]; exact G6) M6 (by rw [MN.out, JoiC2.erase_map (fun e : ME => e.nm), ← nmFlat_erase]; exact R6) HC.out.no, KF⟩)
      clear hr5 hk5 no G5 M5 G6 R6 M6 KF c1 DC f1 R4 G4 M4 KK4
      go_wp2_with (refine Store.at_store 55 (.tmp 26) (.tmp 24) ?_ ?_; exact rfl; refine JcP.wpList_store_run rfl 55 (.tmp 26) (.tmp 24) rfl ⟨g, 1, none⟩ (.slice OA (n - 1) oc) rfl rfl RS.out ?_)
      go_end0
      exact ⟨rfl, FIN.out⟩
end Go.Proofs.YtnpggkpcadefjaaDoor.Jc8

/- An element appended to a row that the call owns. No function is named. -/
set_option linter.unusedVariables false
set_option maxRecDepth 100000
namespace Go.Proofs.YtnpggkpcadefjaaDoor.RowB
open Go.RowKit Go.Proofs.YtnpggkpcadefjaaDoor.Mem Go.Proofs.YtnpggkpcadefjaaDoor.Blk Go.Proofs.YtnpggkpcadefjaaDoor.RowN
/-- An element appended to a row that the call owns. -/
theorem append_row {e sl : TypeId} {N : Nat} {i : TypeInfo} {z : Value} (hu : Tryd.prog.underlying sl = some (.slice e)) (hi : Tryd.prog.info? e = some i) (hz : i.zero = some z) (hN : i.size = N) (hzN : z.cells.size = N) (hb : i.bytes ≤ 4096)
    {A : Option Addr} {n c : Nat} {cs : List Value} {vb : Nat} {V : Array Value} {w : World} (h : RowAt e N w A n c cs) (hV : Blk w vb e V) (hs : V.size = N) (h1 : ∀ v ∈ V.toList, v.oneCell' = true) (hn : n ≤ 1000000) :
    ∃ A' c' w', (∀ ty, (Builtin.append_ #[sl, sl] ty #[.slice A n c, .slice (some ⟨vb, 0, none⟩) 1 1]).run Tryd.prog w = .ok (.slice A' (n + 1) c') w') ∧ RowAt e N w' A' (n + 1) c' (cs ++ V.toList) ∧ (A' = A ∨ ∃ k, A' = some ⟨k, 0, none⟩ ∧ w.heap.size ≤ k) ∧ Keep (fun k => ¬ own A k) w w' := by
  have hsrc : Src Tryd.prog i.size sl (.slice (some ⟨vb, 0, none⟩) 1 1) 1 V.toList w := Src.ofSlice w hu ⟨vb, 0, none⟩ 1 1 V.toList (by simp [hs, hN]) (fun j u hj => by
    rw [Addr.add_lit, Nat.zero_add, hV.cell]
    simpa using hj) h1
  have fl : (cs ++ V.toList).length = (n + 1) * N := by rw [List.length_append, h.len, Array.length_toList, hs, Nat.add_mul, Nat.one_mul]
  have f1 : ∀ v ∈ cs ++ V.toList, v.oneCell' = true := fun v hv => (List.mem_append.1 hv).elim (h.one v) (h1 v)
  by_cases room : n + 1 ≤ c
  · obtain ⟨b, X, rfl, hX, hXc, hXt⟩ : ∃ b X, A = some ⟨b, 0, none⟩ ∧ Blk w b e X ∧ c * N ≤ X.size ∧ X.toList.take (n * N) = cs := by
      rcases h.lies with ⟨_, h2⟩ | h'
      · omega
      · exact h'
    have mm : (n + 1) * N ≤ c * N := Nat.mul_le_mul_right N room
    have fit : n * i.size + V.toList.length ≤ X.size := by
      have e : n * N + N = (n + 1) * N := by rw [Nat.add_mul, Nat.one_mul]
      rw [hN, Array.length_toList, hs, e]
      exact Nat.le_trans mm hXc
    refine ⟨some ⟨b, 0, none⟩, c, w.setRow b (spl X (n * i.size) V.toList), fun ty => run_append_spl hu hi hX n c ⟨vb, 0, none⟩ 1 1 V.toList (by simp [hs, hN]) (fun j u hj => by
        rw [Addr.add_lit, Nat.zero_add, hV.cell]
        simpa using hj) h1 room fit ty, ⟨fl, room, h.big, f1, .inr ⟨b, _, rfl, setRow_heap _ _ _ (spl X (n * i.size) V.toList) _ _ hX, by rw [spl_size fit]; exact hXc, ?_⟩⟩, .inl rfl, Keep.row (F := fun k => ¬ own (some ⟨b, 0, none⟩) k) w b _ (fun z => z ⟨_, rfl, rfl⟩)⟩
    unfold spl
    rw [hN, hXt]
    exact List.take_left' fl
  · have hold : (Builtin.firstCells i.size n (.slice A n c)).run Tryd.prog w.drew = .ok cs.toArray w.drew := by
      rw [hN]
      rcases h.lies with ⟨rfl, h2⟩ | ⟨b, X, rfl, hX, hXc, hXt⟩
      · have : n = 0 := by have := h.le; omega
        subst this
        have hc : cs = [] := List.length_eq_zero_iff.1 (by simpa using h.len)
        rw [hc]
        exact run_firstCells_none w.drew N 0 0 c
      · exact run_firstCells_some w.drew N n ⟨b, 0, none⟩ n c cs h.len (fun j v hj => by
          rw [Addr.add_lit, Nat.zero_add]
          exact h.cell rfl hj)
    have g2 : grownCap w (n + 1) c e ≤ 9223372036854775807 := by
      have := grownCap_le_maxLen w (n + 1) c e (by unfold maxLen; omega)
      unfold maxLen at this
      omega
    have g1 := grownCap_ge w (n + 1) c e
    have hbb : (n + 1) * i.bytes ≤ 140737488355328 := Nat.le_trans (Nat.mul_le_mul (show n + 1 ≤ 1000001 by omega) hb) (by decide)
    refine ⟨some ⟨w.heap.size, 0, none⟩, grownCap w (n + 1) c e, _, fun ty => run_append_grow_src w sl sl ty e i z hu hi hz A n c cs hold _ 1 V.toList hsrc (by omega) (by omega) (growslice_fits (by omega) hbb), ⟨fl, g1, g2, f1, .inr ⟨_, _, rfl, Blk.new w.drew e _, ?_, ?_⟩⟩, .inr ⟨_, rfl, Nat.le_refl _⟩, Keep.of ((below_drewN (Below.refl w.heap.size w) 1).alloc (Nat.le_refl _) _)⟩
    · rw [Array.size_append, List.size_toArray, fl, size_zeroCells, hzN, ← Nat.add_mul]
      exact Nat.mul_le_mul_right N (by omega)
    · rw [Array.toList_append]
      exact List.take_left' fl
end Go.Proofs.YtnpggkpcadefjaaDoor.RowB

/- The code's start. -/
set_option linter.unusedVariables false
set_option maxRecDepth 100000
namespace Go.Proofs.YtnpggkpcadefjaaDoor.Jc9
open Go.RowKit Go.Proofs.YtnpggkpcadefjaaDoor.Sums Go.Proofs.YtnpggkpcadefjaaDoor.Mem Go.Proofs.YtnpggkpcadefjaaDoor.Blk Go.Proofs.YtnpggkpcadefjaaDoor.Pkt Go.Proofs.YtnpggkpcadefjaaDoor.Check Go.Proofs.YtnpggkpcadefjaaDoor.JoiM Go.Proofs.YtnpggkpcadefjaaDoor.JoiC Go.Proofs.YtnpggkpcadefjaaDoor.RowN Go.Proofs.YtnpggkpcadefjaaDoor.RowA Go.Proofs.YtnpggkpcadefjaaDoor.SplP Go.Proofs.YtnpggkpcadefjaaDoor.Spl1 Go.Proofs.YtnpggkpcadefjaaDoor.Spl5 Go.Proofs.YtnpggkpcadefjaaDoor.JcP Go.Proofs.YtnpggkpcadefjaaDoor.MapK Go.Proofs.YtnpggkpcadefjaaDoor.MapL Go.Proofs.YtnpggkpcadefjaaDoor.Free Go.Proofs.YtnpggkpcadefjaaDoor.Steps Go.Proofs.YtnpggkpcadefjaaDoor.JoiC2 Go.Proofs.YtnpggkpcadefjaaDoor.Jc1 Go.Proofs.YtnpggkpcadefjaaDoor.Jc2 Go.Proofs.YtnpggkpcadefjaaDoor.Jc3 Go.Proofs.YtnpggkpcadefjaaDoor.Cat Go.Proofs.YtnpggkpcadefjaaDoor.Jc6 Go.Proofs.YtnpggkpcadefjaaDoor.Jc8

/-- An element is built (ib), then appended (ia) to a row that the call owns. -/
structure MidA (e : TypeId) (N : Nat) (ib ia : Nat) (W : World) (OA : Option Addr) (n c : Nat) (cs vs : List Value) (L : Nat → Bool) (vals : Nat → Value) (V : World) : Prop where
  keep : Keep (fun k => ¬ own OA k) W V
  ca : L ia = true → L ib = true
  r0 : L ia = false → RowAt e N V OA n c cs
  rb : L ib = true → L ia = false → ∃ vb, vals ib = .slice (some ⟨vb, 0, none⟩) 1 1 ∧ Blk V vb e vs.toArray
  ra : L ia = true → ∃ A2 c2, vals ia = .slice A2 (n + 1) c2 ∧ RowAt e N V A2 (n + 1) c2 (cs ++ vs) ∧ (A2 = OA ∨ ∃ k, A2 = some ⟨k, 0, none⟩ ∧ W.heap.size ≤ k)
section
variable {e : TypeId} {N ib ia : Nat} {W V V' : World} {OA : Option Addr} {n c : Nat} {cs vs : List Value} {L : Nat → Bool} {vals : Nat → Value}
theorem MidA.start (h : RowAt e N W OA n c cs) (hb : L ib = false) (ha : L ia = false) : MidA e N ib ia W OA n c cs vs L vals W.drew :=
  ⟨(Keep.refl _ _).drew, fun e => (by rw [ha] at e; cases e), fun _ => h.below (below_drewN (Below.refl _ _) 1), fun e => (by rw [hb] at e; cases e), fun e => (by rw [ha] at e; cases e)⟩
theorem MidA.pure (h : MidA e N ib ia W OA n c cs vs L vals V) (i : Nat) (v : Value) (h2 : i ≠ ib ∧ i ≠ ia) : MidA e N ib ia W OA n c cs vs (FreeJ.mark L i) (FreeJ.upd vals i v) V := by
  have e2 : FreeJ.mark L i ib = L ib := if_neg (fun e => h2.1 e.symm)
  have e3 : FreeJ.mark L i ia = L ia := if_neg (fun e => h2.2 e.symm)
  have u2 : FreeJ.upd vals i v ib = vals ib := if_neg (fun e => h2.1 e.symm)
  have u3 : FreeJ.upd vals i v ia = vals ia := if_neg (fun e => h2.2 e.symm)
  exact ⟨h.keep, by rw [e2, e3]; exact h.ca, by rw [e3]; exact h.r0, by rw [e2, e3, u2]; exact h.rb, by rw [e3, u3]; exact h.ra⟩
theorem MidA.build (h : MidA e N ib ia W OA n c cs vs L vals V) (hne : ib ≠ ia) (hL : L ib = false) : MidA e N ib ia W OA n c cs vs (FreeJ.mark L ib) (FreeJ.upd vals ib (.slice (some ⟨V.heap.size, 0, none⟩) 1 1)) (V.alloc (.cells vs.toArray e)) := by
  have la : L ia = false := not_true fun e => by rw [h.ca e] at hL; cases hL
  have e2 : FreeJ.mark L ib ib = true := if_pos rfl
  have e3 : FreeJ.mark L ib ia = L ia := if_neg (fun e => hne e.symm)
  have u2 : FreeJ.upd vals ib (.slice (some ⟨V.heap.size, 0, none⟩) 1 1) ib = .slice (some ⟨V.heap.size, 0, none⟩) 1 1 := if_pos rfl
  have hb : Below V.heap.size V (V.alloc (.cells vs.toArray e)) := (Below.refl _ _).alloc (Nat.le_refl _) _
  exact ⟨h.keep.trans (Keep.of hb), fun _ => e2, fun _ => (h.r0 la).below hb, fun _ _ => ⟨_, u2, Blk.new _ _ _⟩, fun e => (by rw [e3, la] at e; cases e)⟩
theorem MidA.app (h : MidA e N ib ia W OA n c cs vs L vals V) (hne : ib ≠ ia) (hL : L ia = false) (hb : L ib = true) {A2 : Option Addr} {c2 : Nat} (h1 : RowAt e N V' A2 (n + 1) c2 (cs ++ vs)) (h2 : A2 = OA ∨ ∃ k, A2 = some ⟨k, 0, none⟩ ∧ V.heap.size ≤ k) (hk : Keep (fun k => ¬ own OA k) V V') : MidA e N ib ia W OA n c cs vs (FreeJ.mark L ia) (FreeJ.upd vals ia (.slice A2 (n + 1) c2)) V' := by
  have e2 : FreeJ.mark L ia ib = L ib := if_neg hne
  have e3 : FreeJ.mark L ia ia = true := if_pos rfl
  have u3 : FreeJ.upd vals ia (.slice A2 (n + 1) c2) ia = .slice A2 (n + 1) c2 := if_pos rfl
  exact ⟨h.keep.trans hk, fun _ => by rw [e2]; exact hb, fun e => (by rw [e3] at e; cases e), fun _ e => (by rw [e3] at e; cases e), fun _ => ⟨A2, c2, u3, h1, h2.imp id fun ⟨k, y1, y2⟩ => ⟨k, y1, Nat.le_trans h.keep.size y2⟩⟩⟩
end
theorem st_app (sl : TypeId) {o : Oper} {a : Act} {w w1 : World} {K : Act → World → Prop} {Q : Exit → Act → World → Prop} (x y : Operand) (ho : o.op = .call { callee := .builtin .append, args := #[x, y], argTypes := #[sl, sl] }) (v u r : Value) (hx : a.eval x = v) (hy : a.eval y = u)
    (hr : ∀ ty, (Builtin.append_ #[sl, sl] ty #[v, u]).run Tryd.prog w = .ok r w1) (hK : K (a.put o.dst r) w1) : Step Tryd.prog o a w K Q := by
  constructor
  unfold Oper.wp
  simp [execOp, ho, resolve, invoke, hx, hy, builtin, hr, Result.andThen]
  exact hK
theorem run_onen (m : Nm) (w : World) : (Instr.buildSlice 55 1 #[(0, nk m)]).run Tryd.prog w = .ok (.slice (some ⟨w.heap.size, 0, none⟩) 1 1) (w.alloc (.cells (nmCells m).toArray 60)) := by kernel_rfl
theorem st_onen {o : Oper} {a : Act} {w : World} {K : Act → World → Prop} {Q : Exit → Act → World → Prop} (x : Operand) (ho : o.op = .buildSlice 55 1 #[(0, x)]) (m : Nm) (hx : a.eval x = nk m) (hK : K (a.put o.dst (.slice (some ⟨w.heap.size, 0, none⟩) 1 1)) (w.alloc (.cells (nmCells m).toArray 60))) : Step Tryd.prog o a w K Q := by
  constructor
  have hr : (execOp a.eval o).run Tryd.prog w = .ok (.value (.slice (some ⟨w.heap.size, 0, none⟩) 1 1)) (w.alloc (.cells (nmCells m).toArray 60)) := by
    simp [execOp, ho, hx, run_onen m w, Result.andThen]
  unfold Oper.wp
  rw [hr]
  exact hK
theorem run_boxi (now : Int) (vb : Nat) (w : World) : (Instr.box 64 (.agg #[.int .i64 now, .slice (some ⟨vb, 0, none⟩) 1 1])).run Tryd.prog w = .ok (.pointer (some ⟨w.heap.size, 0, none⟩)) (w.alloc (.cells #[.int .i64 now, .slice (some ⟨vb, 0, none⟩) 1 1] 64)) := by kernel_rfl
theorem st_boxi {o : Oper} {a : Act} {w : World} {K : Act → World → Prop} {Q : Exit → Act → World → Prop} (x : Operand) (ho : o.op = .box 64 x) (now : Int) (vb : Nat) (hx : a.eval x = .agg #[.int .i64 now, .slice (some ⟨vb, 0, none⟩) 1 1]) (hK : K (a.put o.dst (.pointer (some ⟨w.heap.size, 0, none⟩))) (w.alloc (.cells #[.int .i64 now, .slice (some ⟨vb, 0, none⟩) 1 1] 64))) : Step Tryd.prog o a w K Q := by
  constructor
  have hr : (execOp a.eval o).run Tryd.prog w = .ok (.value (.pointer (some ⟨w.heap.size, 0, none⟩))) (w.alloc (.cells #[.int .i64 now, .slice (some ⟨vb, 0, none⟩) 1 1] 64)) := by
    simp [execOp, ho, hx, run_boxi now vb w, Result.andThen]
  unfold Oper.wp
  rw [hr]
  exact hK
theorem name_info : ∃ i z, Tryd.prog.info? 60 = some i ∧ i.zero = some z ∧ z.cells.size = 4 ∧ i.size = 4 ∧ i.bytes ≤ 4096 := by
  obtain ⟨i, h1, h2, h3, h4⟩ := DelN.info_name
  exact ⟨i, _, h1, h2, DelN.zn_cells, h3, by rw [h4]; decide⟩
theorem ip_info : ∃ i z, Tryd.prog.info? 32 = some i ∧ i.zero = some z ∧ z.cells.size = 11 ∧ i.size = 11 ∧ i.bytes ≤ 4096 := by
  obtain ⟨i, h1, h2, h3, h4⟩ := InsP.info_pkt
  exact ⟨i, _, h1, h2, InsP.zr_cells, h3, by rw [h4]; decide⟩
/-- What start leaves. -/
def StartR (F : Nat → Prop) (g gm : Nat) (OA : Option Addr) (T : Nat → Nat) (ms : List ME) (now : Int) (m : Nm) (x : Frag) (w w' : World) : Prop := (∃ OA' oc' T' e, CatM F w' g gm OA' oc' T' (ms ++ [e]) ∧ e.ce = (m, now, [x])) ∧ Keep (fun k => k ≠ g ∧ k ≠ gm ∧ ¬ own OA k) w w'
theorem put_new {ms : List ME} {m : Nm} {eb : Nat} (h : ms.findIdx? (fun e => decide (e.nm = m)) = none) : MapK.put m eb (ms.map fun e => (e.nm, e.eb)) = (ms.map fun e => (e.nm, e.eb)) ++ [(m, eb)] := by
  have : at_ m (ms.map fun e => (e.nm, e.eb)) 0 = none := by
    rw [at_idx, List.findIdx?_map]
    show ((ms.findIdx? (fun e => decide (e.nm = m))).bind _) = _
    rw [h]
    rfl
  unfold MapK.put
  rw [this]
/-- The end of start. -/
theorem fin_start {F : Nat → Prop} {T : Nat → Nat} {g gm n0 oc vb eb : Nat} {OA A2 : Option Addr} {c2 : Nat} {ms : List ME} {now : Int} {m : Nm} {y : Pkt} {l : List Int} {A' : Option Addr} {cc : Nat} {w W V : World} (h : CatM F w g gm OA oc T ms) (hF : ∀ k, F k → k < w.heap.size) (hn : ms.length = n0) (h16 : n0 < 16) (hx : FOk (y, l)) (hnow : -1099511627776 ≤ now ∧ now ≤ 1099511627776)
    (hW : Keep (fun k => k ≠ gm) w W) (hV : Keep (fun k => ¬ own OA k) W V) (s1 : w.heap.size ≤ vb) (s2 : w.heap.size ≤ eb) (kb : Blk W vb PT (pcCells y (.slice A' l.length cc)).toArray) (ke : Blk W eb IT #[.int .i64 now, .slice (some ⟨vb, 0, none⟩) 1 1]) (ho : Owns W w.heap.size (.slice A' l.length cc) l.length l)
    (kg : Blk V g JT #[.map (some gm), .slice OA n0 oc]) (km : MapAt nk ev W gm ((ms.map fun e => (e.nm, e.eb)) ++ [(m, eb)])) (ro : RowAt NT 4 W OA n0 oc (nmFlat (ms.map (·.nm)))) (hr : RowAt NT 4 V A2 (n0 + 1) c2 (nmFlat (ms.map (·.nm)) ++ nmCells m)) (hA : A2 = OA ∨ ∃ k, A2 = some ⟨k, 0, none⟩ ∧ W.heap.size ≤ k) :
    StartR F g gm OA T ms now m (y, l) w (V.setRow g #[.map (some gm), .slice A2 (n0 + 1) c2]) := by
  have oty : ∀ {k : Nat} {X : Array Value} {t : TypeId} {fz : Nat × Nat}, W.heap[k]? = some (.cells X t fz) → t ≠ NT → ¬ own OA k := fun hX ht o => by
    obtain ⟨Y, hY⟩ := ro.type o
    exact ht (cells_ty hX hY)
  have toV : ∀ {k : Nat} {X : Array Value} {t : TypeId} {fz : Nat × Nat}, W.heap[k]? = some (.cells X t fz) → t ≠ NT → V.heap[k]? = some (.cells X t fz) := fun hX ht => (hV.block _ (oty hX ht) (Array.getElem?_eq_some_iff.1 hX).1).trans hX
  have toS : ∀ {k : Nat} {X : Array Value} {t : TypeId} {fz : Nat × Nat}, V.heap[k]? = some (.cells X t fz) → t ≠ JT → (V.setRow g #[.map (some gm), .slice A2 (n0 + 1) c2]).heap[k]? = some (.cells X t fz) := fun hX ht => (setRow_other _ _ _ _ fun z => by
    subst z
    exact ht (cells_ty hX kg)).trans hX
  have kp : Keep (fun k => k ≠ g ∧ k ≠ gm ∧ ¬ own OA k) w (V.setRow g #[.map (some gm), .slice A2 (n0 + 1) c2]) := (hW.mono fun k hk _ => hk.2.1).trans ((hV.mono fun k hk _ => hk.2.2).trans (Keep.row _ _ _ fun z => z.1 rfl))
  have sW := hW.size
  obtain ⟨ea, ec, hm1, hm2⟩ := km
  have no_m : ¬ own OA gm := h.apart.2.2
  have mV : V.heap[gm]? = some (.map ea ec) := (hV.block gm no_m (Array.getElem?_eq_some_iff.1 hm1).1).trans hm1
  have mS : (V.setRow g #[.map (some gm), .slice A2 (n0 + 1) c2]).heap[gm]? = some (.map ea ec) := (setRow_other _ _ _ _ fun z => h.apart.1 z.symm).trans mV
  have own2 : ∀ k, own A2 k → ¬ F k := fun k o => by
    rcases hA with rfl | ⟨q, rfl, hq⟩
    · exact h.no k o
    · obtain ⟨a, ea, rfl⟩ := o
      cases ea
      intro z
      have := hF _ z
      dsimp only at this
      omega
  have nF : ∀ k, w.heap.size ≤ k → ¬ F k := fun k hk z => by have := hF k z; omega
  have E : EAt F (fun k => if k < w.heap.size then T k else eb) (V.setRow g #[.map (some gm), .slice A2 (n0 + 1) c2]) ⟨m, now, [((y, l), .slice A' l.length cc)], eb, some ⟨vb, 0, none⟩, 1⟩ := by
    refine ⟨toS (toV ke (by decide)) (by decide), nF _ s2, ⟨⟨by rw [flat_len], Nat.le_refl _, (by show (1 : Nat) ≤ 9223372036854775807; omega), ?_, .inr ⟨vb, _, rfl, toS (toV kb (by decide)) (by decide), by simp [pcCells], by simp [flat, pcCells]⟩⟩, fun k o => ?_, fun z hz => ?_⟩⟩
    · intro v hv
      simp [flat, pcCells] at hv
      rcases hv with rfl | rfl | rfl | rfl | rfl | rfl | rfl | rfl | rfl | rfl | rfl <;> rfl
    · obtain ⟨a, ea, rfl⟩ := o
      cases ea
      exact ⟨nF _ s1, if_neg (by dsimp only; omega)⟩
    · obtain rfl := List.mem_singleton.1 hz
      refine ⟨?_, fun k hk => nF k (ho.lt k hk).1⟩
      have o2 : Owns V 0 (.slice A' l.length cc) l.length l := owns_stay (ho.mono (Nat.zero_le _)) fun k X fz _ hX => hV.block k (oty hX (by decide)) (Array.getElem?_eq_some_iff.1 hX).1
      exact owns_stay o2 fun k X fz _ hX => setRow_other _ _ _ _ fun z => by
        subst z
        exact absurd (cells_ty hX kg) (by decide)
  refine ⟨⟨A2, c2, _, _, h.push hF kp _ (fun k hk => if_pos hk) ?_ ⟨ea, ec, mS, ?_⟩ ?_ own2 E s2 ?_ (by omega), rfl⟩, kp⟩
  · rw [hn]
    exact setRow_heap _ _ _ _ _ _ kg
  · rw [List.map_append]
    exact hm2
  · rw [hn, List.map_append, show nmFlat (ms.map (·.nm) ++ [(⟨m, now, [((y, l), .slice A' l.length cc)], eb, some ⟨vb, 0, none⟩, 1⟩ : ME)].map (·.nm)) = nmFlat (ms.map (·.nm)) ++ nmCells m by simp [nmFlat]]
    exact hr.keep fun k o _ => setRow_other _ _ _ _ fun z => by
      subst z
      obtain ⟨Y, hY⟩ := hr.type o
      exact absurd (cells_ty hY kg) (by decide)
  · exact ⟨by simp [ME.ce], by simp [ME.ce], fun x hx' => by
      simp [ME.ce] at hx'
      rw [hx']
      exact hx, hnow⟩
end Go.Proofs.YtnpggkpcadefjaaDoor.Jc9

/- The code's start, walked. -/
set_option linter.unusedVariables false
set_option maxRecDepth 100000
namespace Go.Proofs.YtnpggkpcadefjaaDoor.Jc10
open Go.RowKit Go.Proofs.YtnpggkpcadefjaaDoor.Sums Go.Proofs.YtnpggkpcadefjaaDoor.Mem Go.Proofs.YtnpggkpcadefjaaDoor.Blk Go.Proofs.YtnpggkpcadefjaaDoor.Pkt Go.Proofs.YtnpggkpcadefjaaDoor.Check Go.Proofs.YtnpggkpcadefjaaDoor.JoiM Go.Proofs.YtnpggkpcadefjaaDoor.JoiC Go.Proofs.YtnpggkpcadefjaaDoor.RowN Go.Proofs.YtnpggkpcadefjaaDoor.RowA Go.Proofs.YtnpggkpcadefjaaDoor.SplP Go.Proofs.YtnpggkpcadefjaaDoor.Spl1 Go.Proofs.YtnpggkpcadefjaaDoor.Spl5 Go.Proofs.YtnpggkpcadefjaaDoor.JcP Go.Proofs.YtnpggkpcadefjaaDoor.MapK Go.Proofs.YtnpggkpcadefjaaDoor.MapL Go.Proofs.YtnpggkpcadefjaaDoor.Free Go.Proofs.YtnpggkpcadefjaaDoor.Steps Go.Proofs.YtnpggkpcadefjaaDoor.JoiC2 Go.Proofs.YtnpggkpcadefjaaDoor.Jc1 Go.Proofs.YtnpggkpcadefjaaDoor.Jc2 Go.Proofs.YtnpggkpcadefjaaDoor.Jc3 Go.Proofs.YtnpggkpcadefjaaDoor.Cat Go.Proofs.YtnpggkpcadefjaaDoor.Jc6 Go.Proofs.YtnpggkpcadefjaaDoor.Jc8 Go.Proofs.YtnpggkpcadefjaaDoor.Jc9

theorem start_no (g gm : Nat) (n0 oc : Nat) (OA : Option Addr) (now : Int) (p : Pkt) (A : Option Addr) (n c : Nat) (w : World) (hg : Blk w g JT #[.map (some gm), .slice OA n0 oc]) (h16 : 16 ≤ n0) : Calls Tryd.prog 46 #[.pointer (some ⟨g, 0, none⟩), .int .i64 now, val p (.slice A n c)] w fun er w' => er = .returned (.int .i64 7) ∧ Below w.heap.size w w' := by
  have B0 := Lib.hid ((Below.refl w.heap.size w).alloc (Nat.le_refl _) (.cells #[.int .i64 p.tos, .int .i64 p.id, .int .i64 p.ttl, .int .i64 p.proto, .bool p.df, .bool p.mf, .int .i64 p.off, .string p.src, .string p.dst, .string p.opt, .slice A n c] 32))
  have c1 := (Blk.alloc hg (.cells #[.int .i64 p.tos, .int .i64 p.id, .int .i64 p.ttl, .int .i64 p.proto, .bool p.df, .bool p.mf, .int .i64 p.off, .string p.src, .string p.dst, .string p.opt, .slice A n c] 32)).cell 1
  have g1 : decide (16 ≤ n0) = true := decide_eq_true h16
  have g2 : decide ((16 : Int) ≤ (n0 : Int)) = true := decide_eq_true (by omega)
  unfold val
  clear hg h16
  go_enter Tryd.func46, Tryd.ntmps46
  go_wp2_with fail
  go_ret
  exact ⟨rfl, B0.out⟩
set_option maxHeartbeats 4000000 in
theorem start_c (F : Nat → Prop) (g gm : Nat) (OA : Option Addr) (oc n0 : Nat) (T : Nat → Nat) (ms : List ME) (now : Int) (p : Pkt) (A : Option Addr) (n c : Nat) (l : List Int) (w : World) (h : CatM F w g gm OA oc T ms) (hF : ∀ k, F k → k < w.heap.size) (hn0 : ms.length = n0) (h16 : n0 < 16) (hx : ms.findIdx? (fun e => decide (e.nm = nmOf p)) = none) (hp : Holds w w.heap.size A n c l) (fx : FOk (bareF (p, l))) (hT : Texts p) (hn : n ≤ 1048576) (hnow : -1099511627776 ≤ now ∧ now ≤ 1099511627776) :
    Calls Tryd.prog 46 #[.pointer (some ⟨g, 0, none⟩), .int .i64 now, val p (.slice A n c)] w fun er w' => er = .returned (.int .i64 0) ∧ StartR F g gm OA T ms now (nmOf p) (bareF (p, l)) w w' := by
  obtain ⟨y, hy⟩ : ∃ y, (bareF (p, l)).1 = y := ⟨_, rfl⟩
  have YY := Lib.hid hy
  have be : bareF (p, l) = (y, l) := by rw [← hy, show (bareF (p, l)) = ((bareF (p, l)).1, (bareF (p, l)).2) from rfl, bare_dat]
  rw [be] at fx ⊢
  have NC := Lib.hid (fun W => name_c p (.slice A n c) W)
  obtain ⟨m, hm⟩ : ∃ m, nmOf p = m := ⟨_, rfl⟩
  have ms1 : m.src.size ≤ maxT := by rw [← hm]; exact hT.s
  have ms2 : m.dst.size ≤ maxT := by rw [← hm]; exact hT.d
  rw [hm] at hx NC ⊢
  have ON := Lib.hid (fun W => ownName_c m W ms1 ms2)
  have LL := Lib.hid hp.1
  have HNB := Lib.hid hn
  have HT := Lib.hid hT
  have FX := Lib.hid fx
  have NX := Lib.hid hx
  have MN := Lib.hid hn0
  have N16 := Lib.hid h16
  have HC := Lib.hid h
  have HF := Lib.hid hF
  have HP := Lib.hid hp
  have NOW := Lib.hid hnow
  have M0 := Lib.hid h.map
  have B0 := (Below.refl w.heap.size w).alloc (Nat.le_refl _) (.cells #[.int .i64 p.tos, .int .i64 p.id, .int .i64 p.ttl, .int .i64 p.proto, .bool p.df, .bool p.mf, .int .i64 p.off, .string p.src, .string p.dst, .string p.opt, .slice A n c] 32)
  have B1 := Lib.hid B0
  have G0 := h.blk
  rw [hn0] at G0
  have G1 := Lib.hid (Blk.alloc G0 (.cells #[.int .i64 p.tos, .int .i64 p.id, .int .i64 p.ttl, .int .i64 p.proto, .bool p.df, .bool p.mf, .int .i64 p.off, .string p.src, .string p.dst, .string p.opt, .slice A n c] 32))
  have K1 := Lib.hid (Blk.new w 32 #[.int .i64 p.tos, .int .i64 p.id, .int .i64 p.ttl, .int .i64 p.proto, .bool p.df, .bool p.mf, .int .i64 p.off, .string p.src, .string p.dst, .string p.opt, .slice A n c])
  have g1 : decide (16 ≤ n0) = false := decide_eq_false (by omega)
  have g2 : decide ((16 : Int) ≤ (n0 : Int)) = false := decide_eq_false (by omega)
  unfold val nk at NC
  unfold nk at ON
  unfold val
  clear h hF hn0 h16 hx hp fx hT hn hy be B0 G0 ms1 ms2 hm hnow
  have c1 := G1.out.cell 1
  go_enter Tryd.func46, Tryd.ntmps46
  go_wp2_with (refine Store.at_load 32 (.tmp 5) ?_ ?_; exact rfl; refine Loads.wpList_load_w rfl 32 (.tmp 5) rfl w.heap.size rfl 32 #[.int .i64 p.tos, .int .i64 p.id, .int .i64 p.ttl, .int .i64 p.proto, .bool p.df, .bool p.mf, .int .i64 p.off, .string p.src, .string p.dst, .string p.opt, .slice A n c] (0, 0) _ (K1.out) Tryd.underlying32 rfl (by kernel_rfl) ?_)
  refine (NC.out _).mono ?_
  rintro e w2 ⟨rfl, hb⟩
  have B2 := Lib.hid (B1.out.trans (hb.mono B1.out.size))
  have K2 := Lib.hid (K1.out.below hb K1.out.lt)
  clear hb NC c1 G1 g1 g2
  go_wp2_with fail
  refine (ON.out _).mono ?_
  rintro e w3 ⟨rfl, hb⟩
  have B3 := Lib.hid (B2.out.trans (hb.mono B2.out.size))
  have K3 := Lib.hid (K2.out.below hb K2.out.lt)
  clear hb ON
  have S0 := Blk.new w3 60 #[.string ⟨#[]⟩, .string ⟨#[]⟩, .int .i64 0, .int .i64 0]
  have RS := Lib.hid (run_storeVar_row (P := Tryd.prog) (w3.alloc (.cells #[.string ⟨#[]⟩, .string ⟨#[]⟩, .int .i64 0, .int .i64 0] 60)) w3.heap.size 60 60 #[.string ⟨#[]⟩, .string ⟨#[]⟩, .int .i64 0, .int .i64 0] #[.string m.src, .string m.dst, .int .i64 m.proto, .int .i64 m.id] S0 (by kernel_rfl) rfl (by simp [Value.oneCell']))
  obtain ⟨w4, hw4⟩ : ∃ w4, w4 = (w3.alloc (.cells #[.string ⟨#[]⟩, .string ⟨#[]⟩, .int .i64 0, .int .i64 0] 60)).setRow w3.heap.size #[.string m.src, .string m.dst, .int .i64 m.proto, .int .i64 m.id] := ⟨_, rfl⟩
  rw [← hw4] at RS
  have ba : Below w3.heap.size w3 w4 := by rw [hw4]; exact Com.setRow_bel ((Below.refl _ _).alloc (Nat.le_refl _) _) (Nat.le_refl _) _
  have N4 := Lib.hid (show Blk w4 w3.heap.size NT #[.string m.src, .string m.dst, .int .i64 m.proto, .int .i64 m.id] from by rw [hw4]; exact setRow_heap _ _ _ _ _ _ S0)
  have B4 := Lib.hid (B3.out.trans (ba.mono B3.out.size))
  have K4 := Lib.hid (K3.out.below ba K3.out.lt)
  obtain ⟨nb, hnb⟩ : ∃ nb, w3.heap.size = nb := ⟨_, rfl⟩
  have NBE := Lib.hid hnb
  have NBW : Hid (w.heap.size ≤ nb) := Lib.hid (by rw [← hnb]; exact B3.out.size)
  rw [hnb] at N4
  have XN : Hid (∀ V, Below w4.drew.heap.size w4.drew V → Blk V nb 60 #[.string m.src, .string m.dst, .int .i64 m.proto, .int .i64 m.id]) := Lib.hid fun V hV => Blk.below (show Blk w4.drew nb NT _ from N4.out) hV (Blk.lt N4.out)
  have XB : Hid (∀ V, Below w4.drew.heap.size w4.drew V → Blk V w.heap.size 32 #[.int .i64 p.tos, .int .i64 p.id, .int .i64 p.ttl, .int .i64 p.proto, .bool p.df, .bool p.mf, .int .i64 p.off, .string p.src, .string p.dst, .string p.opt, .slice A n c]) := Lib.hid fun V hV => Blk.below (show Blk w4.drew w.heap.size PT _ from K4.out) hV (Blk.lt K4.out)
  have XG : Hid (∀ V, Below w4.drew.heap.size w4.drew V → Blk V g 57 #[.map (some gm), .slice OA n0 oc]) := Lib.hid fun V hV => by
    have b := B4.out.trans ((Draw.below_1 hV).mono B4.out.size)
    rw [← MN.out]
    exact HC.out.blk.below b HC.out.blk.lt
  have OC : Hid (∀ V, Below w4.drew.heap.size w4.drew V → Calls Tryd.prog 59 #[val p (.slice A n c)] V fun e w' => ∃ A' c', e = .returned (val y (.slice A' l.length c')) ∧ Owns w' V.heap.size (.slice A' l.length c') l.length l ∧ Below V.heap.size V w') := Lib.hid fun V hV => by
    have b := B4.out.trans ((Draw.below_1 hV).mono B4.out.size)
    exact (ownPiece_c p A n c w.heap.size l V (HP.out.below b) b.size HNB.out HT.out).mono fun e w' ⟨A', c', h1, h2, h3⟩ => ⟨A', c', by rw [h1, YY.out, LL.out], by rw [LL.out]; exact h2, h3⟩
  clear hw4 S0 ba K1 K2 K3 N4 K4 B1 B2 B3 hnb
  go_wp2_with (refine Store.at_store 60 (.tmp 7) (.tmp 16) ?_ ?_; exact rfl; refine JcP.wpList_store_run rfl 60 (.tmp 7) (.tmp 16) rfl ⟨w3.heap.size, 0, none⟩ (.agg #[.string m.src, .string m.dst, .int .i64 m.proto, .int .i64 m.id]) rfl rfl RS.out ?_)
  rw [NBE.out]
  clear RS
  refine wp_region_free [0, 1, 2, 3, 4, 5, 6, 7, 8, 9, 10] 11 [] (fun w1 w2 => Below w1.heap.size w1 w2) (fun k' w' v => match k' with
      | 0 => v = .pointer (some ⟨g, 0, none⟩)
      | 1 => v = .pointer (some ⟨g, 0, none⟩)
      | 2 => v = .pointer (some ⟨g, 0, none⟩)
      | 3 => v = .map (some gm)
      | 4 => v = .agg #[.string m.src, .string m.dst, .int .i64 m.proto, .int .i64 m.id]
      | 5 => v = .int .i64 now
      | 6 => v = .agg #[.int .i64 p.tos, .int .i64 p.id, .int .i64 p.ttl, .int .i64 p.proto, .bool p.df, .bool p.mf, .int .i64 p.off, .string p.src, .string p.dst, .string p.opt, .slice A n c]
      | 7 => ∃ A' c', v = val y (.slice A' l.length c') ∧ Owns w' w4.heap.size (.slice A' l.length c') l.length l
      | 8 => ∃ A' c' vb, v = .slice (some ⟨vb, 0, none⟩) 1 1 ∧ Blk w' vb PT (pcCells y (.slice A' l.length c')).toArray ∧ w4.heap.size ≤ vb ∧ Owns w' w4.heap.size (.slice A' l.length c') l.length l
      | 9 => ∃ A' c' vb, v = .agg #[.int .i64 now, .slice (some ⟨vb, 0, none⟩) 1 1] ∧ Blk w' vb PT (pcCells y (.slice A' l.length c')).toArray ∧ w4.heap.size ≤ vb ∧ Owns w' w4.heap.size (.slice A' l.length c') l.length l
      | _ => ∃ A' c' vb eb, v = .pointer (some ⟨eb, 0, none⟩) ∧ Blk w' eb IT #[.int .i64 now, .slice (some ⟨vb, 0, none⟩) 1 1] ∧ w4.heap.size ≤ eb ∧ Blk w' vb PT (pcCells y (.slice A' l.length c')).toArray ∧ w4.heap.size ≤ vb ∧ Owns w' w4.heap.size (.slice A' l.length c') l.length l) (by kernel_rfl) (by kernel_rfl) (Below.refl _ _) (fun _ _ _ h k => h.trans (k.mono h.size)) (fun k' w1 w2 v h => match k' with
      | 0 => fun x => x
      | 1 => fun x => x
      | 2 => fun x => x
      | 3 => fun x => x
      | 4 => fun x => x
      | 5 => fun x => x
      | 6 => fun x => x
      | 7 => fun ⟨A', c', e, h'⟩ => ⟨A', c', e, h'.below h (Nat.le_refl _)⟩
      | 8 => fun ⟨A', c', vb, e, k, s, h'⟩ => ⟨A', c', vb, e, k.below h k.lt, s, h'.below h (Nat.le_refl _)⟩
      | 9 => fun ⟨A', c', vb, e, k, s, h'⟩ => ⟨A', c', vb, e, k.below h k.lt, s, h'.below h (Nat.le_refl _)⟩
      | _ + 10 => fun ⟨A', c', vb, eb, e, kk, ss, k, s, h'⟩ => ⟨A', c', vb, eb, e, kk.below h kk.lt, ss, k.below h k.lt, s, h'.below h (Nat.le_refl _)⟩) (fun _ _ _ _ _ h => h) ?_ _ (by rfl) ?_
  · refine obs_cons (by rfl) (fun vals w' hgr hdep K hK => ?_) (obs_cons (by rfl) (fun vals w' hgr hdep K hK => ?_) (obs_cons (by rfl) (fun vals w' hgr hdep K hK => ?_) (obs_cons (by rfl) (fun vals w' hgr hdep K hK => ?_) (obs_cons (by rfl) (fun vals w' hgr hdep K hK => ?_) (obs_cons (by rfl) (fun vals w' hgr hdep K hK => ?_) (obs_cons (by rfl) (fun vals w' hgr hdep K hK => ?_) (obs_cons (by rfl) (fun vals w' hgr hdep K hK => ?_) (obs_cons (by rfl) (fun vals w' hgr hdep K hK => ?_) (obs_cons (by rfl) (fun vals w' hgr hdep K hK => ?_) (obs_cons (by rfl) (fun vals w' hgr hdep K hK => ?_) (obs_nil)))))))))))
    · exact wp_move (.tmp 0) rfl _ (at_out _ (by kernel_rfl) rfl) (hK _ _ (Below.refl _ _) rfl)
    · exact MapS.st_nil (.tmp 17) rfl _ ((at_dst 0 (by kernel_rfl)).trans (hdep 0 (by simp) (by kernel_rfl))) (hK _ _ (Below.refl _ _) rfl)
    · exact wp_field (.tmp 18) rfl _ _ ((at_dst 1 (by kernel_rfl)).trans (hdep 1 (by simp) (by kernel_rfl))) (by kernel_rfl) (hK _ _ (Below.refl _ _) rfl)
    · exact wp_load1 (.tmp 19) rfl ⟨g, 0, none⟩ ((at_dst 2 (by kernel_rfl)).trans (hdep 2 (by simp) (by kernel_rfl))) Tryd.underlying54 rfl _ ((XG.out w' hgr).cell 0) (hK _ _ (Below.refl _ _) rfl)
    · exact st_load_row 60 (.tmp 7) rfl nb (at_out _ (by kernel_rfl) rfl) 60 #[.string m.src, .string m.dst, .int .i64 m.proto, .int .i64 m.id] (0, 0) _ (XN.out w' hgr) Tryd.underlying60 rfl (by kernel_rfl) (hK _ _ (Below.refl _ _) rfl)
    · exact wp_move (.tmp 1) rfl _ (at_out _ (by kernel_rfl) rfl) (hK _ _ (Below.refl _ _) rfl)
    · exact st_load_row 32 (.tmp 5) rfl w.heap.size (at_out _ (by kernel_rfl) rfl) 32 #[.int .i64 p.tos, .int .i64 p.id, .int .i64 p.ttl, .int .i64 p.proto, .bool p.df, .bool p.mf, .int .i64 p.off, .string p.src, .string p.dst, .string p.opt, .slice A n c] (0, 0) _ (XB.out w' hgr) Tryd.underlying32 rfl (by kernel_rfl) (hK _ _ (Below.refl _ _) rfl)
    · exact wp_call 59 [.tmp 23] _ rfl ent_piece [val p (.slice A n c)] (Draw.list1 ((at_dst 6 (by kernel_rfl)).trans (hdep 6 (by simp) (by kernel_rfl)))) (fun v w'' => (∃ A' c', v = val y (.slice A' l.length c') ∧ Owns w'' w4.heap.size (.slice A' l.length c') l.length l) ∧ Below w'.heap.size w' w'') ((OC.out w' hgr).mono fun e w'' ⟨A', c', h1, h2, h3⟩ => ⟨_, h1, ⟨A', c', rfl, h2.mono hgr.size⟩, h3⟩) (fun v w'' ⟨h1, h2⟩ => hK _ _ h2 h1)
    · obtain ⟨A', c', e1, e2⟩ := hdep 7 (by simp) (by kernel_rfl)
      exact Spl7.st_one (.tmp 24) rfl y A' _ c' ((at_dst 7 (by kernel_rfl)).trans e1) (hK _ _ ((Below.refl _ _).alloc (Nat.le_refl _) _) ⟨A', c', _, rfl, Blk.new _ _ _, hgr.size, e2.alloc _⟩)
    · obtain ⟨A', c', vb, e1, e2, e3, e4⟩ := hdep 8 (by simp) (by kernel_rfl)
      exact st_build [(0, .tmp 22), (1, .tmp 25)] rfl [(0, .int .i64 now), (1, .slice (some ⟨vb, 0, none⟩) 1 1)] (by rw [List.map, List.map, List.map, ((at_dst 5 (by kernel_rfl)).trans (hdep 5 (by simp) (by kernel_rfl))), (at_dst 8 (by kernel_rfl)).trans e1]) (.agg #[.int .i64 now, .slice (some ⟨vb, 0, none⟩) 1 1]) (by kernel_rfl) (hK _ _ (Below.refl _ _) ⟨A', c', vb, rfl, e2, e3, e4⟩)
    · obtain ⟨A', c', vb, e1, e2, e3, e4⟩ := hdep 9 (by simp) (by kernel_rfl)
      exact st_boxi (.tmp 26) rfl now vb ((at_dst 9 (by kernel_rfl)).trans e1) (hK _ _ ((Below.refl _ _).alloc (Nat.le_refl _) _) ⟨A', c', vb, _, rfl, Blk.new _ _ _, hgr.size, e2.alloc _, e3, e4.alloc _⟩)
  · intro vals w' hgr hG
    obtain ⟨A', c', vb, eb, e1, e2, e3, e4, e5, e6⟩ := hG 10 (by simp)
    have KD := Draw.below_1 hgr
    have B5 := B4.out.trans (KD.mono B4.out.size)
    have mp := M0.out.below B5 M0.out.lt
    obtain ⟨ob, hr, hm⟩ := run_update (P := Tryd.prog) (ev := ev) key_law Tryd.underlying54 mp m eb
    refine MapS.st_update 54 (.tmp 20) (.tmp 21) (.tmp 27) rfl (.map (some gm)) (nk m) (.pointer (some ⟨eb, 0, none⟩)) ((at_dst 3 (by kernel_rfl)).trans (hG 3 (by simp))) ((at_dst 4 (by kernel_rfl)).trans (hG 4 (by simp))) ((at_dst 10 (by kernel_rfl)).trans e1) (MapK.stored w' gm ob) hr (wpAnyH_done (by kernel_rfl) ?_ _)
    rw [put_new NX.out] at hm
    have far : ∀ k, k ≠ gm → (MapK.stored w' gm ob).heap[k]? = w'.heap[k]? := fun k hk => stored_other _ _ _ _ hk
    have tyne : ∀ {k : Nat} {X : Array Value} {t : TypeId} {fz : Nat × Nat}, w'.heap[k]? = some (.cells X t fz) → k ≠ gm := fun hX z => by
      subst z
      obtain ⟨ea, ec, h1, _⟩ := mp
      have := hX.symm.trans h1
      simp at this
    have G5 := (HC.out.blk.below B5 HC.out.blk.lt)
    have G6 := Lib.hid (show Blk (MapK.stored w' gm ob) g JT #[.map (some gm), .slice OA n0 oc] from (far g (tyne G5)).trans (by rw [← MN.out]; exact G5))
    have N6 := Lib.hid (show Blk (MapK.stored w' gm ob) nb NT #[.string m.src, .string m.dst, .int .i64 m.proto, .int .i64 m.id] from (far nb (tyne (XN.out w' hgr))).trans (XN.out w' hgr))
    have K6 := Lib.hid (show Keep (fun k => k ≠ gm) w (MapK.stored w' gm ob) from (Keep.of B5).trans ⟨rfl, rfl, rfl, by simp [MapK.stored], fun k hk _ => far k hk⟩)
    have R5 : Hid (RowAt NT 4 (MapK.stored w' gm ob) OA n0 oc (nmFlat (ms.map (·.nm)))) := Lib.hid (by
      have := HC.out.ord.below B5
      rw [MN.out] at this
      exact this.keep fun k ok _ => far k fun z => HC.out.apart.2.2 (z ▸ ok))
    have V6 := Lib.hid (show Blk (MapK.stored w' gm ob) vb PT (pcCells y (.slice A' l.length c')).toArray from (far vb (tyne e4)).trans e4)
    have E6 := Lib.hid (show Blk (MapK.stored w' gm ob) eb IT #[.int .i64 now, .slice (some ⟨vb, 0, none⟩) 1 1] from (far eb (tyne e2)).trans e2)
    have O6 : Hid (Owns (MapK.stored w' gm ob) w.heap.size (.slice A' l.length c') l.length l) := Lib.hid (owns_stay (e6.mono B4.out.size) fun k X fz _ hX => far k (tyne hX))
    have S6 := Lib.hid (show w.heap.size ≤ vb ∧ w.heap.size ≤ eb from ⟨Nat.le_trans B4.out.size e5, Nat.le_trans B4.out.size e3⟩)
    have M6 := Lib.hid hm
    clear hG hgr hr hm e1 e2 e3 e4 e5 e6 XG XB XN OC KD B5 mp far tyne G5 B4
    simp only [fill, dstAt, List.getElem?_cons_zero, List.getElem?_cons_succ, Option.bind_some, Act.put, List.setIfInBounds_toArray, List.set_cons_zero, List.set_cons_succ]
    generalize vals 0 = v0, vals 1 = v1, vals 2 = v2, vals 3 = v3, vals 4 = v4, vals 5 = v5, vals 6 = v6, vals 7 = v7, vals 8 = v8, vals 9 = v9, vals 10 = v10 at *
    generalize MapK.stored w' gm ob = w5 at *
    go_wp2_with fail
    have XG : Hid (∀ V, Keep (fun k => ¬ own OA k) w5 V → Blk V g 57 #[.map (some gm), .slice OA n0 oc]) := Lib.hid fun V hV => (hV.block g HC.out.apart.2.1 G6.out.lt).trans G6.out
    have XN : Hid (∀ V, Keep (fun k => ¬ own OA k) w5 V → Blk V nb 60 #[.string m.src, .string m.dst, .int .i64 m.proto, .int .i64 m.id]) := Lib.hid fun V hV => (hV.block nb (fun z => by
      have := HC.out.ord.lt z
      have := NBW.out
      omega) N6.out.lt).trans N6.out
    have FI : Hid (∀ V A2 c2, Keep (fun k => ¬ own OA k) w5 V → Blk V g JT #[.map (some gm), .slice OA n0 oc] → RowAt NT 4 V A2 (n0 + 1) c2 (nmFlat (ms.map (·.nm)) ++ nmCells m) → (A2 = OA ∨ ∃ k, A2 = some ⟨k, 0, none⟩ ∧ w5.heap.size ≤ k) → StartR F g gm OA T ms now m (y, l) w (V.setRow g #[.map (some gm), .slice A2 (n0 + 1) c2])) := Lib.hid fun V A2 c2 h1 h2 h3 h4 =>
      fin_start HC.out HF.out MN.out N16.out FX.out NOW.out K6.out h1 S6.out.1 S6.out.2 V6.out E6.out O6.out h2 M6.out R5.out h3 h4
    clear G6 N6 K6 V6 E6 O6 S6 M6
    refine FreeJ.wp_region_freeJ [0, 1, 2, 3, 4, 5, 6, 7, 8, 9] 10 [] [] (fun L vals V => MidA NT 4 6 7 w5 OA n0 oc (nmFlat (ms.map (·.nm))) (nmCells m) L vals V) (fun k' v => match k' with
        | 0 => v = .pointer (some ⟨g, 0, none⟩)
        | 1 => v = .pointer (some ⟨g, 0, none⟩)
        | 2 => v = .pointer (some ⟨g, 0, none⟩)
        | 3 => v = .pointer (some ⟨g, 1, none⟩)
        | 4 => v = .slice OA n0 oc
        | 5 => v = .agg #[.string m.src, .string m.dst, .int .i64 m.proto, .int .i64 m.id]
        | 6 => True
        | 7 => True
        | 8 => v = .pointer (some ⟨g, 0, none⟩)
        | _ => v = .pointer (some ⟨g, 1, none⟩)) (by kernel_rfl) (by kernel_rfl) (fun x hx => by cases hx) (fun L vals h0 => MidA.start R5.out (h0 6 (by simp)) (h0 7 (by simp))) (fun _ _ _ _ _ h => h) ?_ _ (by rfl) ?_
    · refine FreeJ.obsJ_cons (by rfl) (fun vals w' L hI hL hdep K hK => ?_) (FreeJ.obsJ_cons (by rfl) (fun vals w' L hI hL hdep K hK => ?_) (FreeJ.obsJ_cons (by rfl) (fun vals w' L hI hL hdep K hK => ?_) (FreeJ.obsJ_cons (by rfl) (fun vals w' L hI hL hdep K hK => ?_) (FreeJ.obsJ_cons (by rfl) (fun vals w' L hI hL hdep K hK => ?_) (FreeJ.obsJ_cons (by rfl) (fun vals w' L hI hL hdep K hK => ?_) (FreeJ.obsJ_cons (by rfl) (fun vals w' L hI hL hdep K hK => ?_) (FreeJ.obsJ_cons (by rfl) (fun vals w' L hI hL hdep K hK => ?_) (FreeJ.obsJ_cons (by rfl) (fun vals w' L hI hL hdep K hK => ?_) (FreeJ.obsJ_cons (by rfl) (fun vals w' L hI hL hdep K hK => ?_) (FreeJ.obsJ_nil))))))))))
      · exact wp_move (.tmp 0) rfl _ (at_out _ (by kernel_rfl) rfl) (hK _ _ (hI.pure 0 _ (by decide)) rfl)
      · exact wp_move (.tmp 0) rfl _ (at_out _ (by kernel_rfl) rfl) (hK _ _ (hI.pure 1 _ (by decide)) rfl)
      · exact MapS.st_nil (.tmp 29) rfl _ ((at_dst 1 (by kernel_rfl)).trans ((hdep 1 (by simp) (by kernel_rfl)).2)) (hK _ _ (hI.pure 2 _ (by decide)) rfl)
      · exact wp_field (.tmp 30) rfl _ _ ((at_dst 2 (by kernel_rfl)).trans ((hdep 2 (by simp) (by kernel_rfl)).2)) (by kernel_rfl) (hK _ _ (hI.pure 3 _ (by decide)) rfl)
      · exact wp_load1 (.tmp 31) rfl ⟨g, 1, none⟩ ((at_dst 3 (by kernel_rfl)).trans ((hdep 3 (by simp) (by kernel_rfl)).2)) Tryd.underlying55 rfl _ ((XG.out w' hI.keep).cell 1) (hK _ _ (hI.pure 4 _ (by decide)) rfl)
      · exact st_load_row 60 (.tmp 7) rfl nb (at_out _ (by kernel_rfl) rfl) 60 #[.string m.src, .string m.dst, .int .i64 m.proto, .int .i64 m.id] (0, 0) _ (XN.out w' hI.keep) Tryd.underlying60 rfl (by kernel_rfl) (hK _ _ (hI.pure 5 _ (by decide)) rfl)
      · exact st_onen (.tmp 33) rfl m ((at_dst 5 (by kernel_rfl)).trans ((hdep 5 (by simp) (by kernel_rfl)).2)) (hK _ _ (hI.build (by decide) hL) trivial)
      · obtain ⟨vb2, s1, s2⟩ := hI.rb (hdep 6 (by simp) (by kernel_rfl)).1 hL
        obtain ⟨inf, zv, i1, i2, i3, i4, i5⟩ := name_info
        obtain ⟨A2, c2, w2', a1, a2, a3, a4⟩ := RowB.append_row (sl := 55) Tryd.underlying55 i1 i2 i4 i3 i5 (hI.r0 hL) s2 (by simp [nmCells]) (by simp [nmCells, Value.oneCell']) (by have := N16.out; omega)
        exact st_app 55 (.tmp 32) (.tmp 34) rfl (.slice OA n0 oc) (.slice (some ⟨vb2, 0, none⟩) 1 1) _ ((at_dst 4 (by kernel_rfl)).trans ((hdep 4 (by simp) (by kernel_rfl)).2)) ((at_dst 6 (by kernel_rfl)).trans s1) a1 (hK _ _ (hI.app (by decide) hL (hdep 6 (by simp) (by kernel_rfl)).1 (by simpa using a2) a3 a4) trivial)
      · exact MapS.st_nil (.tmp 28) rfl _ ((at_dst 0 (by kernel_rfl)).trans ((hdep 0 (by simp) (by kernel_rfl)).2)) (hK _ _ (hI.pure 8 _ (by decide)) rfl)
      · exact wp_field (.tmp 36) rfl _ _ ((at_dst 8 (by kernel_rfl)).trans ((hdep 8 (by simp) (by kernel_rfl)).2)) (by kernel_rfl) (hK _ _ (hI.pure 9 _ (by decide)) rfl)
    · intro vals w' L hI hL hV
      obtain ⟨A2, c2, z1, z2, z3⟩ := hI.ra (hL 7 (by simp))
      have kg := XG.out w' hI.keep
      refine Jc6.st_store_run 55 (.tmp 37) (.tmp 35) rfl ⟨g, 1, none⟩ ((at_dst 9 (by kernel_rfl)).trans (hV 9 (by simp))) (.slice A2 (n0 + 1) c2) ((at_dst 7 (by kernel_rfl)).trans z1) (Store.run_store_one kg (by simp) (by kernel_rfl) rfl #[.map (some gm), .slice A2 (n0 + 1) c2] rfl rfl) (wpAnyH_done (by kernel_rfl) ?_ _)
      have FIN := Lib.hid (FI.out w' A2 c2 hI.keep kg z2 z3)
      clear hI hL hV z1 z2 z3 kg XG XN FI R5
      simp only [fill, dstAt, List.getElem?_cons_zero, List.getElem?_cons_succ, Option.bind_some, Act.put, List.setIfInBounds_toArray, List.set_cons_zero, List.set_cons_succ]
      generalize w'.setRow g #[.map (some gm), .slice A2 (n0 + 1) c2] = w6 at *
      generalize vals 0 = y0, vals 1 = y1, vals 2 = y2, vals 3 = y3, vals 4 = y4, vals 5 = y5, vals 6 = y6, vals 7 = y7, vals 8 = y8, vals 9 = y9 at *
      go_wp2_with fail
      go_ret
      exact ⟨rfl, FIN.out⟩
end Go.Proofs.YtnpggkpcadefjaaDoor.Jc10

