/- The code's cache: New, room, Count, Get, Tell. -/
import Derived.Test.YtjeenmeoiidmnaaDoorPmt4
import Derived.Test.YtjeenmeoiidmnaaDoorDraw
set_option linter.unusedVariables false
set_option maxRecDepth 100000
namespace Go.Proofs.YtjeenmeoiidmnaaDoor.Pmt5
open Go.RowKit Go.Proofs.YtjeenmeoiidmnaaDoor.Sums Go.Proofs.YtjeenmeoiidmnaaDoor.Mem Go.Proofs.YtjeenmeoiidmnaaDoor.Blk Go.Proofs.YtjeenmeoiidmnaaDoor.RowN Go.Proofs.YtjeenmeoiidmnaaDoor.RowA Go.Proofs.YtjeenmeoiidmnaaDoor.Free Go.Proofs.YtjeenmeoiidmnaaDoor.Steps Go.Proofs.YtjeenmeoiidmnaaDoor.MapK Go.Proofs.YtjeenmeoiidmnaaDoor.MapT Go.Proofs.YtjeenmeoiidmnaaDoor.Obj Go.Proofs.YtjeenmeoiidmnaaDoor.PmtM Go.Proofs.YtjeenmeoiidmnaaDoor.PmtD Go.Proofs.YtjeenmeoiidmnaaDoor.Pmt4

theorem ent_clone : Enters Tryd.prog 26 := enters_of Tryd.func26 (by kernel_rfl) rfl
theorem clone_text (s : ByteArray) (w : World) (hs : s.size ≤ 281474976710656) : Calls Tryd.prog 26 #[.string s] w fun e w' => e = .returned (.string s) ∧ Below w.heap.size w w' := by
  have C := Lib.hid (Tryd.stringslite_Clone s w hs)
  go_enter Tryd.func26, Tryd.ntmps26
  go_wp2_with fail
  refine C.out.mono ?_
  rintro e w' ⟨rfl, hb⟩
  go_wp2_with fail
  go_ret
  exact ⟨rfl, hb⟩
theorem new_c (F : Nat → Prop) (w : World) (hF : ∀ k, F k → k < w.heap.size) : Calls Tryd.prog 9 #[] w fun e w' => (∃ g, e = .returned (.pointer (some ⟨g, 0, none⟩)) ∧ PcAt F w' g []) ∧ Below w.heap.size w w' := by
  have B0 := Lib.hid (((Below.refl w.heap.size w).alloc (Nat.le_refl _) (.map #[] 0)).alloc (by simp) (.cells #[.map (some w.heap.size)] 43))
  have K0 : Hid (Blk ((w.alloc (.map #[] 0)).alloc (.cells #[.map (some w.heap.size)] 43)) (w.heap.size + 1) 43 #[.map (some w.heap.size)]) := Lib.hid (by
    have := Blk.new (w.alloc (.map #[] 0)) 43 #[.map (some w.heap.size)]
    simpa using this)
  have M0 : Hid (MapAt ek ev ((w.alloc (.map #[] 0)).alloc (.cells #[.map (some w.heap.size)] 43)) w.heap.size []) := Lib.hid ((new_map w 0).below ((Below.refl (w.alloc (.map #[] 0)).heap.size (w.alloc (.map #[] 0))).alloc (Nat.le_refl _) _) (by simp))
  have HF := Lib.hid hF
  have mm : ∀ W, (Instr.makeMap 41 none).run Tryd.prog W = .ok (.map (some W.heap.size)) (W.alloc (.map #[] 0)) := fun W => by kernel_rfl
  clear hF
  go_enter Tryd.func9, Tryd.ntmps9
  go_wp2_with fail
  go_ret
  exact ⟨⟨w.heap.size + 1, rfl, ⟨⟨w.heap.size, K0.out, M0.out, fun z => by have := HF.out _ z; omega, fun z => by have := HF.out _ z; omega⟩, Good.nil⟩⟩, B0.out⟩
theorem count_c (F : Nat → Prop) (g : Nat) (es : List Ent) (w : World) (h : PcAt F w g es) : Calls Tryd.prog 14 #[.pointer (some ⟨g, 0, none⟩)] w fun e w' => e = .returned (.int .i64 (es.length : Int)) ∧ w = w' := by
  obtain ⟨⟨gm, hb, hm, -, -⟩, hg⟩ := h
  have cg : w.cell? ⟨g, 0, none⟩ = some (.map (some gm)) := hb.cell 0
  have LN := Lib.hid (fun ty => run_len (P := Tryd.prog) Tryd.underlying41 hm ty)
  clear hb hm hg
  go_enter Tryd.func14, Tryd.ntmps14
  go_wp2_with (refine wpList_len rfl 41 (.tmp 8) rfl (.map (some gm)) _ rfl LN.out ?_)
  go_ret
  exact ⟨rfl, rfl⟩
set_option maxHeartbeats 2000000 in
theorem room_c (F : Nat → Prop) (g : Nat) (es : List Ent) (d : ByteArray) (w : World) (h : PcAt F w g es) : Calls Tryd.prog 25 #[.pointer (some ⟨g, 0, none⟩), .string d] w fun e w' => e = .returned (.bool (room d es)) ∧ Below w.heap.size w w' := by
  obtain ⟨⟨gm, hb, hm, -, -⟩, hg⟩ := h
  have cg : w.cell? ⟨g, 0, none⟩ = some (.map (some gm)) := hb.cell 0
  have LK := run_lookup (P := Tryd.prog) (kt := 9) Tryd.underlying9 Tryd.underlying41 hm _ (zero_e w) d
  have Z := Blk.new w 52 #[.int .i64 0, .int .i64 0]
  obtain ⟨r, hr⟩ : ∃ r, room d es = r := ⟨_, rfl⟩
  rw [hr]
  unfold room at hr
  cases hk : MapK.get d es with
  | none =>
    rw [hk] at LK hr
    have LK := Lib.hid LK
    have g0 : decide ((es.length : Int) < 64) = r := by
      rw [← hr]
      show _ = (false || decide (es.length < 64))
      rw [Bool.false_or, decide_eq_decide]
      omega
    have B0 := Lib.hid (Com.setRow_bel ((Below.refl w.heap.size w).alloc (Nat.le_refl _) (.cells #[.int .i64 0, .int .i64 0] 52)) (Nat.le_refl _) #[.int .i64 0, .int .i64 0])
    have hb1 := hb.below B0.out hb.lt
    have hm1 := hm.below B0.out hm.lt
    obtain ⟨w1, hw1⟩ : ∃ w1, w1 = (w.alloc (.cells #[.int .i64 0, .int .i64 0] 52)).setRow w.heap.size #[.int .i64 0, .int .i64 0] := ⟨_, rfl⟩
    have W1 := Lib.hid hw1.symm
    rw [← hw1] at hb1 hm1 B0
    have cg1 : w1.cell? ⟨g, 0, none⟩ = some (.map (some gm)) := hb1.cell 0
    have LN := Lib.hid (fun ty => run_len (P := Tryd.prog) Tryd.underlying41 hm1 ty)
    clear hb hm hb1 hm1 hg hk hr hw1
    go_enter Tryd.func25, Tryd.ntmps25
    go_wp2_with (first
      | (refine wpList_lookup rfl 41 (.tmp 11) (.tmp 12) true rfl (.map (some gm)) (.string d) _ rfl rfl LK.out ?_)
      | (refine wpList_store_row rfl 52 (.tmp 5) (.tmp 14) rfl w.heap.size #[.int .i64 0, .int .i64 0] rfl rfl 52 _ Z (by kernel_rfl) rfl (by simp [Value.oneCell']) ?_; rw [W1.out])
      | (refine wpList_len rfl 41 (.tmp 21) rfl (.map (some gm)) _ rfl LN.out ?_))
    go_ret
    exact ⟨rfl, B0.out⟩
  | some e =>
    obtain ⟨m, s⟩ := e
    rw [hk] at LK hr
    have LK := Lib.hid LK
    have E : r = true := by rw [← hr]; rfl
    subst E
    have B0 := Lib.hid (Com.setRow_bel ((Below.refl w.heap.size w).alloc (Nat.le_refl _) (.cells #[.int .i64 0, .int .i64 0] 52)) (Nat.le_refl _) #[.int .i64 m, .int .i64 s])
    clear hb hm hg hk hr
    go_enter Tryd.func25, Tryd.ntmps25
    go_wp2_with (first
      | (refine wpList_lookup rfl 41 (.tmp 11) (.tmp 12) true rfl (.map (some gm)) (.string d) _ rfl rfl LK.out ?_)
      | (refine wpList_store_row rfl 52 (.tmp 5) (.tmp 14) rfl w.heap.size #[.int .i64 m, .int .i64 s] rfl rfl 52 _ Z (by kernel_rfl) rfl (by simp [Value.oneCell']) ?_))
    go_ret
    exact ⟨rfl, B0.out⟩
set_option maxHeartbeats 2000000 in
theorem get_c (F : Nat → Prop) (g : Nat) (es : List Ent) (now : Int) (d : ByteArray) (n : Int) (w : World) (h : PcAt F w g es) (n1 : -3000000000 ≤ now) (n2 : now ≤ 3000000000) :
    Calls Tryd.prog 10 #[.pointer (some ⟨g, 0, none⟩), .int .i64 now, .string d, .int .i64 n] w fun e w' => e = .returned (.tuple #[.int .i64 (askA now d n es).1, .int .i64 (askA now d n es).2]) ∧ Below w.heap.size w w' := by
  have MC := minimum_c d w
  have FC := Lib.hid (cfresh_c F g es d now w h n1 n2)
  clear h n1 n2
  cases hl : least d with
  | none =>
    rw [hl] at MC
    have MC := Lib.hid MC
    have E : Hid (askA now d n es = (0, 1)) := Lib.hid (by unfold askA; rw [hl])
    clear hl FC
    go_enter Tryd.func10, Tryd.ntmps10
    go_wp2_with fail
    refine MC.out.mono ?_
    rintro e w1 ⟨rfl, rfl⟩
    go_wp2_with fail
    go_ret2
    exact ⟨by rw [E.out]; rfl, Below.refl _ _⟩
  | some l =>
    rw [hl] at MC
    have MC := Lib.hid MC
    have E : Hid (askA now d n es = match known now d es with | some k => (min n k, 0) | none => (n, 0)) := Lib.hid (by unfold askA; rw [hl]; cases known now d es <;> rfl)
    clear hl
    cases hk : known now d es with
    | none =>
      rw [hk] at FC E
      clear hk
      go_enter Tryd.func10, Tryd.ntmps10
      go_wp2_with fail
      refine MC.out.mono ?_
      rintro e w1 ⟨rfl, rfl⟩
      go_wp2_with fail
      refine FC.out.mono ?_
      rintro e w2 ⟨rfl, hb⟩
      go_wp2_with fail
      go_ret2
      exact ⟨by rw [E.out]; rfl, hb⟩
    | some k =>
      rw [hk] at FC E
      clear hk
      go_enter Tryd.func10, Tryd.ntmps10
      go_wp2_with fail
      refine MC.out.mono ?_
      rintro e w1 ⟨rfl, rfl⟩
      go_wp2_with fail
      refine FC.out.mono ?_
      rintro e w2 ⟨rfl, hb⟩
      go_wp2_with fail
      go_ret2
      exact ⟨by rw [E.out]; rfl, hb⟩
set_option maxHeartbeats 4000000 in
theorem tell_c (F : Nat → Prop) (g : Nat) (es : List Ent) (now : Int) (d : ByteArray) (n : Int) (w : World) (h : PcAt F w g es) (nn : -2000000000 ≤ now ∧ now ≤ 2000000000) :
    Calls Tryd.prog 12 #[.pointer (some ⟨g, 0, none⟩), .int .i64 now, .string d, .int .i64 n] w fun e w' => (e = .returned (.tuple #[.int .i64 (tellA now d n es).1, .int .i64 (tellA now d n es).2]) ∧ PcAt F w' g (tellL now d n es)) ∧ Keep F w w' := by
  have MC := minimum_c d w
  have PA := Lib.hid h
  have FC := Lib.hid (cfresh_c F g es d now w h (by omega) (by omega))
  have RC0 := Lib.hid (fun (W : World) (k : Below w.heap.size w W) => room_c F g es d W (h.below k))
  have CL : Hid (d.size ≤ 16 → ∀ W, Calls Tryd.prog 26 #[.string d] W fun e w' => e = .returned (.string d) ∧ Below W.heap.size W w') := Lib.hid fun hd W => clone_text d W (by omega)
  clear h
  cases hl : least d with
  | none =>
    rw [hl] at MC
    have MC := Lib.hid MC
    have E : Hid (tellA now d n es = (0, 1) ∧ tellL now d n es = es) := Lib.hid (by unfold tellA tellL; rw [hl]; exact ⟨rfl, rfl⟩)
    clear hl FC RC0 CL nn
    go_enter Tryd.func12, Tryd.ntmps12
    go_wp2_with fail
    refine MC.out.mono ?_
    rintro e w1 ⟨rfl, rfl⟩
    go_wp2_with fail
    go_ret2
    exact ⟨⟨by rw [E.out.1]; rfl, by rw [E.out.2]; exact PA.out⟩, Keep.refl _ _⟩
  | some l =>
    rw [hl] at MC
    have MC := Lib.hid MC
    have LE := Lib.hid hl
    have CL := Lib.hid (CL.out (by unfold least at hl; split at hl; omega; split at hl; omega; cases hl))
    clear hl
    cases hk : known now d es with
    | none =>
      rw [hk] at FC
      have HK := Lib.hid hk
      clear hk
      go_enter Tryd.func12, Tryd.ntmps12
      go_wp2_with fail
      refine MC.out.mono ?_
      rintro e w1 ⟨rfl, rfl⟩
      go_wp2_with fail
      refine FC.out.mono ?_
      rintro e w2 ⟨rfl, hb⟩
      have B2 := Lib.hid hb
      have RC := Lib.hid (RC0.out w2 hb)
      obtain ⟨rm, hrm⟩ : ∃ rm, room d es = rm := ⟨_, rfl⟩
      have RM := Lib.hid hrm
      rw [hrm] at RC
      clear hb RC0 FC MC hrm
      go_wp2_with fail
      refine RC.out.mono ?_
      rintro e w3 ⟨rfl, hb3⟩
      have B3 := Lib.hid (B2.out.trans (hb3.mono B2.out.size))
      clear hb3 RC
      cases rm with
      | false =>
        have EA : Hid (tellA now d n es = (0, 7) ∧ tellL now d n es = es) := Lib.hid (by
          unfold tellA tellL
          rw [LE.out]
          exact ⟨by simp only [HK.out]; rw [RM.out]; rfl, by simp only [HK.out]; rw [RM.out]; rfl⟩)
        go_wp2_with fail
        go_ret2
        exact ⟨⟨by rw [EA.out.1]; rfl, by rw [EA.out.2]; exact PA.out.below B3.out⟩, Keep.of B3.out⟩
      | true =>
        have EA : Hid (tellA now d n es = (max n l, 0) ∧ tellL now d n es = put d (max n l, now) es) := Lib.hid (by
          unfold tellA tellL
          rw [LE.out]
          exact ⟨by simp only [HK.out]; rw [RM.out]; rfl, by simp only [HK.out]; rw [RM.out]; rfl⟩)
        have GP := good_tell (n := n) (d := d) PA.out.good nn.1 nn.2
        rw [EA.out.2] at GP
        have GP := Lib.hid GP
        obtain ⟨mm, hmm⟩ : ∃ mm, max n l = mm := ⟨_, rfl⟩
        have HMM := Lib.hid hmm
        rw [hmm] at GP
        clear hmm
        go_wp2_with fail
        try rw [HMM.out]
        have P3 := PA.out.below B3.out
        obtain ⟨⟨gm, hbl, hmp, nf, nm⟩, -⟩ := P3
        have KB := Lib.hid hbl
        have KM := Lib.hid hmp
        have NF := Lib.hid nf
        have NM := Lib.hid nm
        clear hbl hmp nf nm
        have XG : Hid (∀ V, Below w3.drew.heap.size w3.drew V → Blk V g 43 #[.map (some gm)]) := Lib.hid fun V hV => KB.out.below (Draw.below_1 hV) KB.out.lt
        have XM : Hid (∀ V, Below w3.drew.heap.size w3.drew V → MapAt ek ev V gm es) := Lib.hid fun V hV => KM.out.below (Draw.below_1 hV) KM.out.lt
        refine wp_region_free [0, 1, 2, 3, 4, 5, 6, 7, 8] 9 [] (fun w1 w2 => Below w1.heap.size w1 w2) (fun k' w' v => match k' with
            | 0 => v = .pointer (some ⟨g, 0, none⟩)
            | 1 => v = .pointer (some ⟨g, 0, none⟩)
            | 2 => v = .pointer (some ⟨g, 0, none⟩)
            | 3 => v = .map (some gm)
            | 4 => v = .string d
            | 5 => v = .string d
            | 6 => v = .int .i64 mm
            | 7 => v = .int .i64 now
            | _ => v = .agg #[.int .i64 mm, .int .i64 now]) (by kernel_rfl) (by kernel_rfl) (Below.refl _ _) (fun _ _ _ h k => h.trans (k.mono h.size)) (fun k' w1 w2 v h => match k' with
            | 0 => fun x => x
            | 1 => fun x => x
            | 2 => fun x => x
            | 3 => fun x => x
            | 4 => fun x => x
            | 5 => fun x => x
            | 6 => fun x => x
            | 7 => fun x => x
            | _ + 8 => fun x => x) (fun _ _ _ _ _ h => h) ?_ _ (by rfl) ?_
        · refine obs_cons (by rfl) (fun vals w' hgr hdep K hK => ?_) (obs_cons (by rfl) (fun vals w' hgr hdep K hK => ?_) (obs_cons (by rfl) (fun vals w' hgr hdep K hK => ?_) (obs_cons (by rfl) (fun vals w' hgr hdep K hK => ?_) (obs_cons (by rfl) (fun vals w' hgr hdep K hK => ?_) (obs_cons (by rfl) (fun vals w' hgr hdep K hK => ?_) (obs_cons (by rfl) (fun vals w' hgr hdep K hK => ?_) (obs_cons (by rfl) (fun vals w' hgr hdep K hK => ?_) (obs_cons (by rfl) (fun vals w' hgr hdep K hK => ?_) (obs_nil)))))))))
          · exact wp_move (.tmp 0) rfl _ (at_out _ (by kernel_rfl) rfl) (hK _ _ (Below.refl _ _) rfl)
          · exact MapS.st_nil (.tmp 45) rfl _ ((at_dst 0 (by kernel_rfl)).trans (hdep 0 (by simp) (by kernel_rfl))) (hK _ _ (Below.refl _ _) rfl)
          · exact wp_field (.tmp 46) rfl _ _ ((at_dst 1 (by kernel_rfl)).trans (hdep 1 (by simp) (by kernel_rfl))) (by kernel_rfl) (hK _ _ (Below.refl _ _) rfl)
          · exact wp_load1 (.tmp 47) rfl ⟨g, 0, none⟩ ((at_dst 2 (by kernel_rfl)).trans (hdep 2 (by simp) (by kernel_rfl))) Tryd.underlying41 rfl _ ((XG.out w' hgr).cell 0) (hK _ _ (Below.refl _ _) rfl)
          · exact wp_move (.tmp 2) rfl _ (at_out _ (by kernel_rfl) rfl) (hK _ _ (Below.refl _ _) rfl)
          · exact wp_call 26 [.tmp 49] _ rfl ent_clone [.string d] (Draw.list1 ((at_dst 4 (by kernel_rfl)).trans (hdep 4 (by simp) (by kernel_rfl)))) (fun v w'' => Below w'.heap.size w' w'' ∧ v = .string d) ((CL.out w').mono fun e w'' ⟨h1, h2⟩ => ⟨_, h1, h2, rfl⟩) (fun v w'' ⟨h1, h2⟩ => hK _ _ h1 h2)
          · exact wp_move (.tmp 12) rfl _ (at_out _ (by kernel_rfl) rfl) (hK _ _ (Below.refl _ _) rfl)
          · exact wp_move (.tmp 1) rfl _ (at_out _ (by kernel_rfl) rfl) (hK _ _ (Below.refl _ _) rfl)
          · have eq6 : vals 6 = .int .i64 mm := hdep 6 (by simp) (by kernel_rfl)
            have eq7 : vals 7 = .int .i64 now := hdep 7 (by simp) (by kernel_rfl)
            refine st_build ([(0, 51, 6), (1, 52, 7)].map fun q => (q.1, Operand.tmp q.2.1)) rfl ([(0, 51, 6), (1, 52, 7)].map fun q => (q.1, vals q.2.2)) (map_fill [(0, 51, 6), (1, 52, 7)] (by kernel_rfl)) (.agg #[.int .i64 mm, .int .i64 now]) ?_ (hK _ _ (Below.refl _ _) rfl)
            simp only [List.map, eq6, eq7]
            kernel_rfl
        · intro vals w' hgr hG
          obtain ⟨oo, hrun, hat⟩ := run_update (P := Tryd.prog) (kt := 9) Tryd.underlying9 Tryd.underlying41 (XM.out w' hgr) d (mm, now)
          refine MapS.st_update 41 (.tmp 48) (.tmp 50) (.tmp 53) rfl (.map (some gm)) (.string d) (.agg #[.int .i64 mm, .int .i64 now]) ((at_dst 3 (by kernel_rfl)).trans (hG 3 (by simp))) ((at_dst 5 (by kernel_rfl)).trans (hG 5 (by simp))) ((at_dst 8 (by kernel_rfl)).trans (hG 8 (by simp))) (MapK.stored w' gm oo) hrun (wpAnyH_done (by kernel_rfl) ?_ _)
          have B4 := B3.out.trans ((Draw.below_1 hgr).mono B3.out.size)
          have F4 := Lib.hid (pc_stored (XG.out w' hgr) (XM.out w' hgr) NF.out NM.out oo hat GP.out)
          have K4 := Lib.hid ((Keep.of B4).trans (stored_keep oo NM.out))
          clear hG hgr XG XM B4 hrun hat
          simp only [fill, dstAt, List.getElem?_cons_zero, List.getElem?_cons_succ, Option.bind_some, Act.put, List.setIfInBounds_toArray, List.set_cons_zero, List.set_cons_succ]
          generalize vals 0 = y0, vals 1 = y1, vals 2 = y2, vals 3 = y3, vals 4 = y4, vals 5 = y5, vals 6 = y6, vals 7 = y7, vals 8 = y8 at *
          generalize MapK.stored w' gm oo = w5 at *
          go_wp2_with fail
          go_ret2
          exact ⟨⟨by rw [EA.out.1, HMM.out]; rfl, by rw [EA.out.2, HMM.out]; exact F4.out⟩, K4.out⟩
    | some k =>
      rw [hk] at FC
      have HK := Lib.hid hk
      clear hk
      by_cases hkm : k ≤ max n l
      · have E : Hid (tellA now d n es = (k, 0) ∧ tellL now d n es = es) := Lib.hid (by
          unfold tellA tellL
          rw [LE.out]
          exact ⟨by simp only [HK.out]; rw [if_pos hkm], by simp only [HK.out]; rw [if_pos hkm]⟩)
        have g0 : decide (k ≤ max n l) = true := decide_eq_true hkm
        clear hkm
        go_enter Tryd.func12, Tryd.ntmps12
        go_wp2_with fail
        refine MC.out.mono ?_
        rintro e w1 ⟨rfl, rfl⟩
        go_wp2_with fail
        refine FC.out.mono ?_
        rintro e w2 ⟨rfl, hb⟩
        have B2 := Lib.hid hb
        clear hb RC0 FC MC
        go_wp2_with fail
        go_ret2
        exact ⟨⟨by rw [E.out.1]; rfl, by rw [E.out.2]; exact PA.out.below B2.out⟩, Keep.of B2.out⟩
      have HKM := Lib.hid hkm
      have g0 : decide (k ≤ max n l) = false := decide_eq_false hkm
      clear hkm
      go_enter Tryd.func12, Tryd.ntmps12
      go_wp2_with fail
      refine MC.out.mono ?_
      rintro e w1 ⟨rfl, rfl⟩
      go_wp2_with fail
      refine FC.out.mono ?_
      rintro e w2 ⟨rfl, hb⟩
      have B2 := Lib.hid hb
      have RC := Lib.hid (RC0.out w2 hb)
      obtain ⟨rm, hrm⟩ : ∃ rm, room d es = rm := ⟨_, rfl⟩
      have RM := Lib.hid hrm
      rw [hrm] at RC
      clear hb RC0 FC MC hrm
      go_wp2_with fail
      refine RC.out.mono ?_
      rintro e w3 ⟨rfl, hb3⟩
      have B3 := Lib.hid (B2.out.trans (hb3.mono B2.out.size))
      clear hb3 RC
      cases rm with
      | false =>
        have EA : Hid (tellA now d n es = (0, 7) ∧ tellL now d n es = es) := Lib.hid (by
          unfold tellA tellL
          rw [LE.out]
          exact ⟨by simp only [HK.out]; rw [if_neg (Int.not_le.2 HKM.out), RM.out]; rfl, by simp only [HK.out]; rw [if_neg (Int.not_le.2 HKM.out), RM.out]; rfl⟩)
        go_wp2_with fail
        go_ret2
        exact ⟨⟨by rw [EA.out.1]; rfl, by rw [EA.out.2]; exact PA.out.below B3.out⟩, Keep.of B3.out⟩
      | true =>
        have EA : Hid (tellA now d n es = (max n l, 0) ∧ tellL now d n es = put d (max n l, now) es) := Lib.hid (by
          unfold tellA tellL
          rw [LE.out]
          exact ⟨by simp only [HK.out]; rw [if_neg (Int.not_le.2 HKM.out), RM.out]; rfl, by simp only [HK.out]; rw [if_neg (Int.not_le.2 HKM.out), RM.out]; rfl⟩)
        have GP := good_tell (n := n) (d := d) PA.out.good nn.1 nn.2
        rw [EA.out.2] at GP
        have GP := Lib.hid GP
        obtain ⟨mm, hmm⟩ : ∃ mm, max n l = mm := ⟨_, rfl⟩
        have HMM := Lib.hid hmm
        rw [hmm] at GP
        clear hmm
        go_wp2_with fail
        try rw [HMM.out]
        have P3 := PA.out.below B3.out
        obtain ⟨⟨gm, hbl, hmp, nf, nm⟩, -⟩ := P3
        have KB := Lib.hid hbl
        have KM := Lib.hid hmp
        have NF := Lib.hid nf
        have NM := Lib.hid nm
        clear hbl hmp nf nm
        have XG : Hid (∀ V, Below w3.drew.heap.size w3.drew V → Blk V g 43 #[.map (some gm)]) := Lib.hid fun V hV => KB.out.below (Draw.below_1 hV) KB.out.lt
        have XM : Hid (∀ V, Below w3.drew.heap.size w3.drew V → MapAt ek ev V gm es) := Lib.hid fun V hV => KM.out.below (Draw.below_1 hV) KM.out.lt
        refine wp_region_free [0, 1, 2, 3, 4, 5, 6, 7, 8] 9 [] (fun w1 w2 => Below w1.heap.size w1 w2) (fun k' w' v => match k' with
            | 0 => v = .pointer (some ⟨g, 0, none⟩)
            | 1 => v = .pointer (some ⟨g, 0, none⟩)
            | 2 => v = .pointer (some ⟨g, 0, none⟩)
            | 3 => v = .map (some gm)
            | 4 => v = .string d
            | 5 => v = .string d
            | 6 => v = .int .i64 mm
            | 7 => v = .int .i64 now
            | _ => v = .agg #[.int .i64 mm, .int .i64 now]) (by kernel_rfl) (by kernel_rfl) (Below.refl _ _) (fun _ _ _ h k => h.trans (k.mono h.size)) (fun k' w1 w2 v h => match k' with
            | 0 => fun x => x
            | 1 => fun x => x
            | 2 => fun x => x
            | 3 => fun x => x
            | 4 => fun x => x
            | 5 => fun x => x
            | 6 => fun x => x
            | 7 => fun x => x
            | _ + 8 => fun x => x) (fun _ _ _ _ _ h => h) ?_ _ (by rfl) ?_
        · refine obs_cons (by rfl) (fun vals w' hgr hdep K hK => ?_) (obs_cons (by rfl) (fun vals w' hgr hdep K hK => ?_) (obs_cons (by rfl) (fun vals w' hgr hdep K hK => ?_) (obs_cons (by rfl) (fun vals w' hgr hdep K hK => ?_) (obs_cons (by rfl) (fun vals w' hgr hdep K hK => ?_) (obs_cons (by rfl) (fun vals w' hgr hdep K hK => ?_) (obs_cons (by rfl) (fun vals w' hgr hdep K hK => ?_) (obs_cons (by rfl) (fun vals w' hgr hdep K hK => ?_) (obs_cons (by rfl) (fun vals w' hgr hdep K hK => ?_) (obs_nil)))))))))
          · exact wp_move (.tmp 0) rfl _ (at_out _ (by kernel_rfl) rfl) (hK _ _ (Below.refl _ _) rfl)
          · exact MapS.st_nil (.tmp 45) rfl _ ((at_dst 0 (by kernel_rfl)).trans (hdep 0 (by simp) (by kernel_rfl))) (hK _ _ (Below.refl _ _) rfl)
          · exact wp_field (.tmp 46) rfl _ _ ((at_dst 1 (by kernel_rfl)).trans (hdep 1 (by simp) (by kernel_rfl))) (by kernel_rfl) (hK _ _ (Below.refl _ _) rfl)
          · exact wp_load1 (.tmp 47) rfl ⟨g, 0, none⟩ ((at_dst 2 (by kernel_rfl)).trans (hdep 2 (by simp) (by kernel_rfl))) Tryd.underlying41 rfl _ ((XG.out w' hgr).cell 0) (hK _ _ (Below.refl _ _) rfl)
          · exact wp_move (.tmp 2) rfl _ (at_out _ (by kernel_rfl) rfl) (hK _ _ (Below.refl _ _) rfl)
          · exact wp_call 26 [.tmp 49] _ rfl ent_clone [.string d] (Draw.list1 ((at_dst 4 (by kernel_rfl)).trans (hdep 4 (by simp) (by kernel_rfl)))) (fun v w'' => Below w'.heap.size w' w'' ∧ v = .string d) ((CL.out w').mono fun e w'' ⟨h1, h2⟩ => ⟨_, h1, h2, rfl⟩) (fun v w'' ⟨h1, h2⟩ => hK _ _ h1 h2)
          · exact wp_move (.tmp 12) rfl _ (at_out _ (by kernel_rfl) rfl) (hK _ _ (Below.refl _ _) rfl)
          · exact wp_move (.tmp 1) rfl _ (at_out _ (by kernel_rfl) rfl) (hK _ _ (Below.refl _ _) rfl)
          · have eq6 : vals 6 = .int .i64 mm := hdep 6 (by simp) (by kernel_rfl)
            have eq7 : vals 7 = .int .i64 now := hdep 7 (by simp) (by kernel_rfl)
            refine st_build ([(0, 51, 6), (1, 52, 7)].map fun q => (q.1, Operand.tmp q.2.1)) rfl ([(0, 51, 6), (1, 52, 7)].map fun q => (q.1, vals q.2.2)) (map_fill [(0, 51, 6), (1, 52, 7)] (by kernel_rfl)) (.agg #[.int .i64 mm, .int .i64 now]) ?_ (hK _ _ (Below.refl _ _) rfl)
            simp only [List.map, eq6, eq7]
            kernel_rfl
        · intro vals w' hgr hG
          obtain ⟨oo, hrun, hat⟩ := run_update (P := Tryd.prog) (kt := 9) Tryd.underlying9 Tryd.underlying41 (XM.out w' hgr) d (mm, now)
          refine MapS.st_update 41 (.tmp 48) (.tmp 50) (.tmp 53) rfl (.map (some gm)) (.string d) (.agg #[.int .i64 mm, .int .i64 now]) ((at_dst 3 (by kernel_rfl)).trans (hG 3 (by simp))) ((at_dst 5 (by kernel_rfl)).trans (hG 5 (by simp))) ((at_dst 8 (by kernel_rfl)).trans (hG 8 (by simp))) (MapK.stored w' gm oo) hrun (wpAnyH_done (by kernel_rfl) ?_ _)
          have B4 := B3.out.trans ((Draw.below_1 hgr).mono B3.out.size)
          have F4 := Lib.hid (pc_stored (XG.out w' hgr) (XM.out w' hgr) NF.out NM.out oo hat GP.out)
          have K4 := Lib.hid ((Keep.of B4).trans (stored_keep oo NM.out))
          clear hG hgr XG XM B4 hrun hat
          simp only [fill, dstAt, List.getElem?_cons_zero, List.getElem?_cons_succ, Option.bind_some, Act.put, List.setIfInBounds_toArray, List.set_cons_zero, List.set_cons_succ]
          generalize vals 0 = y0, vals 1 = y1, vals 2 = y2, vals 3 = y3, vals 4 = y4, vals 5 = y5, vals 6 = y6, vals 7 = y7, vals 8 = y8 at *
          generalize MapK.stored w' gm oo = w5 at *
          go_wp2_with fail
          go_ret2
          exact ⟨⟨by rw [EA.out.1, HMM.out]; rfl, by rw [EA.out.2, HMM.out]; exact F4.out⟩, K4.out⟩
end Go.Proofs.YtjeenmeoiidmnaaDoor.Pmt5
