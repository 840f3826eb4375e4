/- The code's keep. -/
import Derived.Test.YtnpggkpcadefjaaDoorM06
import Derived.Test.YtnpggkpcadefjaaDoorM21
set_option linter.unusedVariables false
set_option maxRecDepth 100000
namespace Go.Proofs.YtnpggkpcadefjaaDoor.Jc11
open Go.RowKit Go.Proofs.YtnpggkpcadefjaaDoor.Sums Go.Proofs.YtnpggkpcadefjaaDoor.Mem Go.Proofs.YtnpggkpcadefjaaDoor.Blk Go.Proofs.YtnpggkpcadefjaaDoor.Pkt Go.Proofs.YtnpggkpcadefjaaDoor.Check Go.Proofs.YtnpggkpcadefjaaDoor.JoiM Go.Proofs.YtnpggkpcadefjaaDoor.JoiC Go.Proofs.YtnpggkpcadefjaaDoor.RowN Go.Proofs.YtnpggkpcadefjaaDoor.RowA Go.Proofs.YtnpggkpcadefjaaDoor.SplP Go.Proofs.YtnpggkpcadefjaaDoor.Spl1 Go.Proofs.YtnpggkpcadefjaaDoor.Spl5 Go.Proofs.YtnpggkpcadefjaaDoor.JcP Go.Proofs.YtnpggkpcadefjaaDoor.MapK Go.Proofs.YtnpggkpcadefjaaDoor.MapL Go.Proofs.YtnpggkpcadefjaaDoor.Free Go.Proofs.YtnpggkpcadefjaaDoor.Steps Go.Proofs.YtnpggkpcadefjaaDoor.JoiC2 Go.Proofs.YtnpggkpcadefjaaDoor.Jc1 Go.Proofs.YtnpggkpcadefjaaDoor.Jc2 Go.Proofs.YtnpggkpcadefjaaDoor.Jc3 Go.Proofs.YtnpggkpcadefjaaDoor.Cat Go.Proofs.YtnpggkpcadefjaaDoor.Jc4 Go.Proofs.YtnpggkpcadefjaaDoor.Jc5 Go.Proofs.YtnpggkpcadefjaaDoor.Jc6 Go.Proofs.YtnpggkpcadefjaaDoor.Jc7 Go.Proofs.YtnpggkpcadefjaaDoor.Jc8 Go.Proofs.YtnpggkpcadefjaaDoor.Jc9 Go.Proofs.YtnpggkpcadefjaaDoor.Jc10

theorem at_ce (ms : List ME) (m : Nm) : atC (ms.map ME.ce) m = ms.findIdx? (fun e => decide (e.nm = m)) := by
  unfold atC
  rw [List.findIdx?_map]
  rfl
theorem any_ce (zs : List Pc) (φ : Frag → Bool) : (zs.map (·.1)).any φ = zs.any (fun z => φ z.1) := by
  rw [List.any_map]
  rfl
theorem get_none {ms : List ME} {m : Nm} (h : ms.findIdx? (fun e => decide (e.nm = m)) = none) : MapK.get m (ms.map fun e => (e.nm, e.eb)) = none := by
  unfold MapK.get
  rw [at_idx, List.findIdx?_map]
  show ((ms.findIdx? (fun e => decide (e.nm = m))).bind _).map _ = _
  rw [h]
  rfl
theorem get_some {ms : List ME} {m : Nm} {i : Nat} {e : ME} (h : ms.findIdx? (fun e => decide (e.nm = m)) = some i) (hi : ms[i]? = some e) : MapK.get m (ms.map fun e => (e.nm, e.eb)) = some e.eb := by
  unfold MapK.get
  rw [at_idx, List.findIdx?_map]
  show ((ms.findIdx? (fun e => decide (e.nm = m))).bind _).map _ = _
  rw [h]
  simp [hi]
theorem zero_ptr (w : World) : (zeroValue 61).run Tryd.prog w = .ok (.pointer none) w := by kernel_rfl
theorem bare_ok {x : Frag} (h : FOk x) : FOk (bareF x) := by
  refine ⟨by rw [bare_off]; exact h.o0, by rw [bare_off]; exact h.o1, by rw [bare_dat]; exact h.len, by rw [bare_dat]; exact h.byt, ?_⟩
  unfold bareF
  split
  · exact h.txt
  · exact ⟨by show (0 : Nat) ≤ 10000; omega, by show (0 : Nat) ≤ 10000; omega, by show (0 : Nat) ≤ 10000; omega⟩
theorem texts_ok {x : Frag} (h : FOk x) : Texts x.1 := ⟨by have := h.txt.1; unfold maxT; omega, by have := h.txt.2.1; unfold maxT; omega, by have := h.txt.2.2; unfold maxT; omega⟩
set_option maxHeartbeats 4000000 in
theorem keep_new (F : Nat → Prop) (g gm : Nat) (OA : Option Addr) (oc n0 : Nat) (T : Nat → Nat) (ms : List ME) (now : Int) (p : Pkt) (A : Option Addr) (n c : Nat) (l : List Int) (m : Nm) (hm : nmOf p = m) (w : World) (h : CatM F w g gm OA oc T ms) (hn0 : ms.length = n0) (hp : Holds w w.heap.size A n c l) (hx : ms.findIdx? (fun e => decide (e.nm = m)) = none) (k : Int) (R : World → World → Prop) (SC : ∀ V, Below w.heap.size w V → CatM F V g gm OA oc T ms → Holds V V.heap.size A n c l → Calls Tryd.prog 46 #[.pointer (some ⟨g, 0, none⟩), .int .i64 now, val p (.slice A n c)] V fun er w' => er = .returned (.int .i64 k) ∧ R V w') :
    Calls Tryd.prog 27 #[.pointer (some ⟨g, 0, none⟩), .int .i64 now, val p (.slice A n c)] w fun er w' => er = .returned (.int .i64 k) ∧ ∃ V, Below w.heap.size w V ∧ R V w' := by
  have NC := Lib.hid (fun W => name_c p (.slice A n c) W)
  rw [hm] at NC
  have HM := Lib.hid hm
  have MN := Lib.hid hn0
  have HC := Lib.hid h
  have HP := Lib.hid hp
  have NX := Lib.hid (get_none hx)
  have SC := Lib.hid SC
  unfold val at SC
  have B0 := (Below.refl w.heap.size w).alloc (Nat.le_refl _) (.cells #[.int .i64 p.tos, .int .i64 p.id, .int .i64 p.ttl, .int .i64 p.proto, .bool p.df, .bool p.mf, .int .i64 p.off, .string p.src, .string p.dst, .string p.opt, .slice A n c] 32)
  have B1 := Lib.hid B0
  have K1 := Lib.hid (Blk.new w 32 #[.int .i64 p.tos, .int .i64 p.id, .int .i64 p.ttl, .int .i64 p.proto, .bool p.df, .bool p.mf, .int .i64 p.off, .string p.src, .string p.dst, .string p.opt, .slice A n c])
  unfold val nk at NC
  unfold val
  clear h hn0 hp hm B0
  go_enter Tryd.func27, Tryd.ntmps27
  go_wp2_with (refine Store.at_load 32 (.tmp 5) ?_ ?_; exact rfl; refine Loads.wpList_load_w rfl 32 (.tmp 5) rfl w.heap.size rfl 32 #[.int .i64 p.tos, .int .i64 p.id, .int .i64 p.ttl, .int .i64 p.proto, .bool p.df, .bool p.mf, .int .i64 p.off, .string p.src, .string p.dst, .string p.opt, .slice A n c] (0, 0) _ (K1.out) Tryd.underlying32 rfl (by kernel_rfl) ?_)
  refine (NC.out _).mono ?_
  rintro e w2 ⟨rfl, hb⟩
  have B2 := B1.out.trans (hb.mono B1.out.size)
  have K2 := K1.out.below hb K1.out.lt
  have S0 := Blk.new w2 60 #[.string ⟨#[]⟩, .string ⟨#[]⟩, .int .i64 0, .int .i64 0]
  have RS := Lib.hid (run_storeVar_row (P := Tryd.prog) (w2.alloc (.cells #[.string ⟨#[]⟩, .string ⟨#[]⟩, .int .i64 0, .int .i64 0] 60)) w2.heap.size 60 60 #[.string ⟨#[]⟩, .string ⟨#[]⟩, .int .i64 0, .int .i64 0] #[.string m.src, .string m.dst, .int .i64 m.proto, .int .i64 m.id] S0 (by kernel_rfl) rfl (by simp [Value.oneCell']))
  obtain ⟨w3, hw3⟩ : ∃ w3, w3 = (w2.alloc (.cells #[.string ⟨#[]⟩, .string ⟨#[]⟩, .int .i64 0, .int .i64 0] 60)).setRow w2.heap.size #[.string m.src, .string m.dst, .int .i64 m.proto, .int .i64 m.id] := ⟨_, rfl⟩
  rw [← hw3] at RS
  have ba : Below w2.heap.size w2 w3 := by rw [hw3]; exact Com.setRow_bel ((Below.refl _ _).alloc (Nat.le_refl _) _) (Nat.le_refl _) _
  obtain ⟨nb, hnb⟩ : ∃ nb, w2.heap.size = nb := ⟨_, rfl⟩
  have NBE := Lib.hid hnb
  have n3 : Blk w3 w2.heap.size NT #[.string m.src, .string m.dst, .int .i64 m.proto, .int .i64 m.id] := by rw [hw3]; exact setRow_heap _ _ _ _ _ _ S0
  rw [hnb] at n3
  have N3 := Lib.hid n3
  have B3 := Lib.hid (B2.trans (ba.mono B2.size))
  have K3 := Lib.hid (K2.below ba K2.lt)
  have XN : Hid (∀ V, Below w3.drew.heap.size w3.drew V → Blk V nb 60 #[.string m.src, .string m.dst, .int .i64 m.proto, .int .i64 m.id]) := Lib.hid fun V hV => Blk.below (show Blk w3.drew nb NT _ from N3.out) hV (Blk.lt N3.out)
  have XG : Hid (∀ V, Below w3.drew.heap.size w3.drew V → Blk V g 57 #[.map (some gm), .slice OA n0 oc]) := Lib.hid fun V hV => by
    have b := B3.out.trans ((Draw.below_1 hV).mono B3.out.size)
    rw [← MN.out]
    exact HC.out.blk.below b HC.out.blk.lt
  have LK : Hid (∀ V, Below w3.drew.heap.size w3.drew V → (Instr.lookup 54 (.map (some gm)) (nk m) false).run Tryd.prog V = .ok (.pointer none) V) := Lib.hid fun V hV => by
    have b := B3.out.trans ((Draw.below_1 hV).mono B3.out.size)
    have := run_lookup1 (P := Tryd.prog) (ev := ev) key_law Tryd.underlying54 (HC.out.map.below b HC.out.map.lt) (.pointer none) (zero_ptr V) m
    rw [NX.out] at this
    exact this
  clear hb NC K1 B1 B2 K2 S0 hw3 ba n3 hnb
  go_wp2_with (refine Store.at_store 60 (.tmp 7) (.tmp 10) ?_ ?_; exact rfl; refine JcP.wpList_store_run rfl 60 (.tmp 7) (.tmp 10) rfl ⟨w2.heap.size, 0, none⟩ (.agg #[.string m.src, .string m.dst, .int .i64 m.proto, .int .i64 m.id]) rfl rfl RS.out ?_)
  rw [NBE.out]
  clear RS
  refine wp_region_free [0, 1, 2, 3, 4, 5] 6 [] (fun w1 w2 => Below w1.heap.size w1 w2) (fun k' w' v => match k' with
      | 0 => v = .pointer (some ⟨g, 0, none⟩)
      | 1 => v = .pointer (some ⟨g, 0, none⟩)
      | 2 => v = .pointer (some ⟨g, 0, none⟩)
      | 3 => v = .map (some gm)
      | 4 => v = .agg #[.string m.src, .string m.dst, .int .i64 m.proto, .int .i64 m.id]
      | _ => v = .pointer none) (by kernel_rfl) (by kernel_rfl) (Below.refl _ _) (fun _ _ _ h k => h.trans (k.mono h.size)) (fun k' w1 w2 v h => match k' with
      | 0 => fun x => x
      | 1 => fun x => x
      | 2 => fun x => x
      | 3 => fun x => x
      | 4 => fun x => x
      | _ + 5 => fun x => x) (fun _ _ _ _ _ h => h) ?_ _ (by rfl) ?_
  · refine obs_cons (by rfl) (fun vals w' hgr hdep K hK => ?_) (obs_cons (by rfl) (fun vals w' hgr hdep K hK => ?_) (obs_cons (by rfl) (fun vals w' hgr hdep K hK => ?_) (obs_cons (by rfl) (fun vals w' hgr hdep K hK => ?_) (obs_cons (by rfl) (fun vals w' hgr hdep K hK => ?_) (obs_cons (by rfl) (fun vals w' hgr hdep K hK => ?_) (obs_nil))))))
    · exact wp_move (.tmp 0) rfl _ (at_out _ (by kernel_rfl) rfl) (hK _ _ (Below.refl _ _) rfl)
    · exact MapS.st_nil (.tmp 11) rfl _ ((at_dst 0 (by kernel_rfl)).trans (hdep 0 (by simp) (by kernel_rfl))) (hK _ _ (Below.refl _ _) rfl)
    · exact wp_field (.tmp 12) rfl _ _ ((at_dst 1 (by kernel_rfl)).trans (hdep 1 (by simp) (by kernel_rfl))) (by kernel_rfl) (hK _ _ (Below.refl _ _) rfl)
    · exact wp_load1 (.tmp 13) rfl ⟨g, 0, none⟩ ((at_dst 2 (by kernel_rfl)).trans (hdep 2 (by simp) (by kernel_rfl))) Tryd.underlying54 rfl _ ((XG.out w' hgr).cell 0) (hK _ _ (Below.refl _ _) rfl)
    · exact st_load_row 60 (.tmp 7) rfl nb (at_out _ (by kernel_rfl) rfl) 60 #[.string m.src, .string m.dst, .int .i64 m.proto, .int .i64 m.id] (0, 0) _ (XN.out w' hgr) Tryd.underlying60 rfl (by kernel_rfl) (hK _ _ (Below.refl _ _) rfl)
    · exact MapL.st_lookup1 54 (.tmp 14) (.tmp 15) rfl (.map (some gm)) (nk m) (.pointer none) ((at_dst 3 (by kernel_rfl)).trans (hdep 3 (by simp) (by kernel_rfl))) ((at_dst 4 (by kernel_rfl)).trans (hdep 4 (by simp) (by kernel_rfl))) (LK.out w' hgr) (hK _ _ (Below.refl _ _) rfl)
  · intro vals w' hgr hG
    refine st_assign (.tmp 16) _ rfl ((at_dst 5 (by kernel_rfl)).trans (hG 5 (by simp))) (wpAnyH_done (by kernel_rfl) ?_ _)
    have B4 := Lib.hid (B3.out.trans ((Draw.below_1 hgr).mono B3.out.size))
    have N4 := Lib.hid (XN.out w' hgr)
    have K4 := Lib.hid (K3.out.below (Draw.below_1 hgr) K3.out.lt)
    clear hG hgr XG XN LK K3 B3 N3
    simp only [fill, dstAt, List.getElem?_cons_zero, List.getElem?_cons_succ, Option.bind_some, Act.put, List.setIfInBounds_toArray, List.set_cons_zero, List.set_cons_succ]
    generalize vals 0 = y0, vals 1 = y1, vals 2 = y2, vals 3 = y3, vals 4 = y4, vals 5 = y5 at *
    generalize w' = w4 at *
    have C4 := HC.out.below B4.out
    have SC4 := Lib.hid (SC.out w4 B4.out C4 ((HP.out.below B4.out).more B4.out.size))
    clear C4 SC
    go_wp2_with (refine Store.at_load 32 (.tmp 5) ?_ ?_; exact rfl; refine Loads.wpList_load_w rfl 32 (.tmp 5) rfl w.heap.size rfl 32 #[.int .i64 p.tos, .int .i64 p.id, .int .i64 p.ttl, .int .i64 p.proto, .bool p.df, .bool p.mf, .int .i64 p.off, .string p.src, .string p.dst, .string p.opt, .slice A n c] (0, 0) _ (K4.out) Tryd.underlying32 rfl (by kernel_rfl) ?_)
    refine SC4.out.mono ?_
    rintro e w5 ⟨rfl, hr⟩
    clear SC4
    go_wp2_with fail
    go_ret
    exact ⟨rfl, w4, B4.out, hr⟩
set_option maxHeartbeats 4000000 in
theorem keep_twin (F : Nat → Prop) (g gm : Nat) (OA : Option Addr) (oc n0 : Nat) (T : Nat → Nat) (ms : List ME) (now : Int) (p : Pkt) (A : Option Addr) (n c : Nat) (l : List Int) (m : Nm) (hm : nmOf p = m) (w : World) (h : CatM F w g gm OA oc T ms) (hn0 : ms.length = n0) (hp : Holds w w.heap.size A n c l) (i : Nat) (e : ME) (hx : ms.findIdx? (fun e => decide (e.nm = m)) = some i) (hi : ms[i]? = some e) (fx : FOk (p, l)) (hs : Srt (e.zs.map (·.1))) (t1 : e.zs.any (fun z => twinB z.1 (p, l)) = true) :
    Calls Tryd.prog 27 #[.pointer (some ⟨g, 0, none⟩), .int .i64 now, val p (.slice A n c)] w fun er w' => er = .returned (.int .i64 0) ∧ Below w.heap.size w w' := by
  have NC := Lib.hid (fun W => name_c p (.slice A n c) W)
  rw [hm] at NC
  have HM := Lib.hid hm
  have MN := Lib.hid hn0
  have HC := Lib.hid h
  have HP := Lib.hid hp
  have NX := Lib.hid (get_some hx hi)
  have IX := Lib.hid hx
  have HI := Lib.hid hi
  have FX := Lib.hid fx
  have HS := Lib.hid hs
  have EO := Lib.hid (h.ok e (List.mem_of_getElem? hi))
  clear hx hi fx hs
  have T1 := Lib.hid t1
  clear t1
  have B0 := (Below.refl w.heap.size w).alloc (Nat.le_refl _) (.cells #[.int .i64 p.tos, .int .i64 p.id, .int .i64 p.ttl, .int .i64 p.proto, .bool p.df, .bool p.mf, .int .i64 p.off, .string p.src, .string p.dst, .string p.opt, .slice A n c] 32)
  have B1 := Lib.hid B0
  have K1 := Lib.hid (Blk.new w 32 #[.int .i64 p.tos, .int .i64 p.id, .int .i64 p.ttl, .int .i64 p.proto, .bool p.df, .bool p.mf, .int .i64 p.off, .string p.src, .string p.dst, .string p.opt, .slice A n c])
  unfold val nk at NC
  unfold val
  clear h hn0 hp hm B0
  go_enter Tryd.func27, Tryd.ntmps27
  go_wp2_with (refine Store.at_load 32 (.tmp 5) ?_ ?_; exact rfl; refine Loads.wpList_load_w rfl 32 (.tmp 5) rfl w.heap.size rfl 32 #[.int .i64 p.tos, .int .i64 p.id, .int .i64 p.ttl, .int .i64 p.proto, .bool p.df, .bool p.mf, .int .i64 p.off, .string p.src, .string p.dst, .string p.opt, .slice A n c] (0, 0) _ (K1.out) Tryd.underlying32 rfl (by kernel_rfl) ?_)
  refine (NC.out _).mono ?_
  rintro e w2 ⟨rfl, hb⟩
  have B2 := B1.out.trans (hb.mono B1.out.size)
  have K2 := K1.out.below hb K1.out.lt
  have S0 := Blk.new w2 60 #[.string ⟨#[]⟩, .string ⟨#[]⟩, .int .i64 0, .int .i64 0]
  have RS := Lib.hid (run_storeVar_row (P := Tryd.prog) (w2.alloc (.cells #[.string ⟨#[]⟩, .string ⟨#[]⟩, .int .i64 0, .int .i64 0] 60)) w2.heap.size 60 60 #[.string ⟨#[]⟩, .string ⟨#[]⟩, .int .i64 0, .int .i64 0] #[.string m.src, .string m.dst, .int .i64 m.proto, .int .i64 m.id] S0 (by kernel_rfl) rfl (by simp [Value.oneCell']))
  obtain ⟨w3, hw3⟩ : ∃ w3, w3 = (w2.alloc (.cells #[.string ⟨#[]⟩, .string ⟨#[]⟩, .int .i64 0, .int .i64 0] 60)).setRow w2.heap.size #[.string m.src, .string m.dst, .int .i64 m.proto, .int .i64 m.id] := ⟨_, rfl⟩
  rw [← hw3] at RS
  have ba : Below w2.heap.size w2 w3 := by rw [hw3]; exact Com.setRow_bel ((Below.refl _ _).alloc (Nat.le_refl _) _) (Nat.le_refl _) _
  obtain ⟨nb, hnb⟩ : ∃ nb, w2.heap.size = nb := ⟨_, rfl⟩
  have NBE := Lib.hid hnb
  have n3 : Blk w3 w2.heap.size NT #[.string m.src, .string m.dst, .int .i64 m.proto, .int .i64 m.id] := by rw [hw3]; exact setRow_heap _ _ _ _ _ _ S0
  rw [hnb] at n3
  have N3 := Lib.hid n3
  have B3 := Lib.hid (B2.trans (ba.mono B2.size))
  have K3 := Lib.hid (K2.below ba K2.lt)
  have XN : Hid (∀ V, Below w3.drew.heap.size w3.drew V → Blk V nb 60 #[.string m.src, .string m.dst, .int .i64 m.proto, .int .i64 m.id]) := Lib.hid fun V hV => Blk.below (show Blk w3.drew nb NT _ from N3.out) hV (Blk.lt N3.out)
  have XG : Hid (∀ V, Below w3.drew.heap.size w3.drew V → Blk V g 57 #[.map (some gm), .slice OA n0 oc]) := Lib.hid fun V hV => by
    have b := B3.out.trans ((Draw.below_1 hV).mono B3.out.size)
    rw [← MN.out]
    exact HC.out.blk.below b HC.out.blk.lt
  have LK : Hid (∀ V, Below w3.drew.heap.size w3.drew V → (Instr.lookup 54 (.map (some gm)) (nk m) false).run Tryd.prog V = .ok (.pointer (some ⟨e.eb, 0, none⟩)) V) := Lib.hid fun V hV => by
    have b := B3.out.trans ((Draw.below_1 hV).mono B3.out.size)
    have := run_lookup1 (P := Tryd.prog) (ev := ev) key_law Tryd.underlying54 (HC.out.map.below b HC.out.map.lt) (.pointer none) (zero_ptr V) m
    rw [NX.out] at this
    exact this
  clear hb NC K1 B1 B2 K2 S0 hw3 ba n3 hnb
  go_wp2_with (refine Store.at_store 60 (.tmp 7) (.tmp 10) ?_ ?_; exact rfl; refine JcP.wpList_store_run rfl 60 (.tmp 7) (.tmp 10) rfl ⟨w2.heap.size, 0, none⟩ (.agg #[.string m.src, .string m.dst, .int .i64 m.proto, .int .i64 m.id]) rfl rfl RS.out ?_)
  rw [NBE.out]
  clear RS
  refine wp_region_free [0, 1, 2, 3, 4, 5] 6 [] (fun w1 w2 => Below w1.heap.size w1 w2) (fun k' w' v => match k' with
      | 0 => v = .pointer (some ⟨g, 0, none⟩)
      | 1 => v = .pointer (some ⟨g, 0, none⟩)
      | 2 => v = .pointer (some ⟨g, 0, none⟩)
      | 3 => v = .map (some gm)
      | 4 => v = .agg #[.string m.src, .string m.dst, .int .i64 m.proto, .int .i64 m.id]
      | _ => v = .pointer (some ⟨e.eb, 0, none⟩)) (by kernel_rfl) (by kernel_rfl) (Below.refl _ _) (fun _ _ _ h k => h.trans (k.mono h.size)) (fun k' w1 w2 v h => match k' with
      | 0 => fun x => x
      | 1 => fun x => x
      | 2 => fun x => x
      | 3 => fun x => x
      | 4 => fun x => x
      | _ + 5 => fun x => x) (fun _ _ _ _ _ h => h) ?_ _ (by rfl) ?_
  · refine obs_cons (by rfl) (fun vals w' hgr hdep K hK => ?_) (obs_cons (by rfl) (fun vals w' hgr hdep K hK => ?_) (obs_cons (by rfl) (fun vals w' hgr hdep K hK => ?_) (obs_cons (by rfl) (fun vals w' hgr hdep K hK => ?_) (obs_cons (by rfl) (fun vals w' hgr hdep K hK => ?_) (obs_cons (by rfl) (fun vals w' hgr hdep K hK => ?_) (obs_nil))))))
    · exact wp_move (.tmp 0) rfl _ (at_out _ (by kernel_rfl) rfl) (hK _ _ (Below.refl _ _) rfl)
    · exact MapS.st_nil (.tmp 11) rfl _ ((at_dst 0 (by kernel_rfl)).trans (hdep 0 (by simp) (by kernel_rfl))) (hK _ _ (Below.refl _ _) rfl)
    · exact wp_field (.tmp 12) rfl _ _ ((at_dst 1 (by kernel_rfl)).trans (hdep 1 (by simp) (by kernel_rfl))) (by kernel_rfl) (hK _ _ (Below.refl _ _) rfl)
    · exact wp_load1 (.tmp 13) rfl ⟨g, 0, none⟩ ((at_dst 2 (by kernel_rfl)).trans (hdep 2 (by simp) (by kernel_rfl))) Tryd.underlying54 rfl _ ((XG.out w' hgr).cell 0) (hK _ _ (Below.refl _ _) rfl)
    · exact st_load_row 60 (.tmp 7) rfl nb (at_out _ (by kernel_rfl) rfl) 60 #[.string m.src, .string m.dst, .int .i64 m.proto, .int .i64 m.id] (0, 0) _ (XN.out w' hgr) Tryd.underlying60 rfl (by kernel_rfl) (hK _ _ (Below.refl _ _) rfl)
    · exact MapL.st_lookup1 54 (.tmp 14) (.tmp 15) rfl (.map (some gm)) (nk m) (.pointer (some ⟨e.eb, 0, none⟩)) ((at_dst 3 (by kernel_rfl)).trans (hdep 3 (by simp) (by kernel_rfl))) ((at_dst 4 (by kernel_rfl)).trans (hdep 4 (by simp) (by kernel_rfl))) (LK.out w' hgr) (hK _ _ (Below.refl _ _) rfl)
  · intro vals w' hgr hG
    refine st_assign (.tmp 16) _ rfl ((at_dst 5 (by kernel_rfl)).trans (hG 5 (by simp))) (wpAnyH_done (by kernel_rfl) ?_ _)
    have B4 := Lib.hid (B3.out.trans ((Draw.below_1 hgr).mono B3.out.size))
    have N4 := Lib.hid (XN.out w' hgr)
    have K4 := Lib.hid (K3.out.below (Draw.below_1 hgr) K3.out.lt)
    clear hG hgr XG XN LK K3 B3 N3
    simp only [fill, dstAt, List.getElem?_cons_zero, List.getElem?_cons_succ, Option.bind_some, Act.put, List.setIfInBounds_toArray, List.set_cons_zero, List.set_cons_succ]
    generalize vals 0 = y0, vals 1 = y1, vals 2 = y2, vals 3 = y3, vals 4 = y4, vals 5 = y5 at *
    generalize w' = w4 at *
    have C4 := HC.out.below B4.out
    have E4 := C4.at_ HI.out
    have ZL : e.zs.length ≤ 64 := by have := EO.out.few; simpa [ME.ce] using this
    have FZ : ∀ z ∈ e.zs, FOk z.1 := fun z hz => EO.out.each z.1 (List.mem_map.2 ⟨z, hz, rfl⟩)
    have FZ4 := Lib.hid FZ
    have ZL4 := Lib.hid ZL
    have H4 := (HP.out.below B4.out).more B4.out.size
    have HC4 := Lib.hid (has_c e.eb e.since e.PA e.pc e.zs p A n c l w4 E4.blk (Jc4.RAt.pr E4.row) (by omega) FZ FX.out HP.out.1 H4)
    rw [T1.out] at HC4
    unfold val at HC4
    clear C4 E4 ZL FZ H4
    go_wp2_with (refine Store.at_load 32 (.tmp 5) ?_ ?_; exact rfl; refine Loads.wpList_load_w rfl 32 (.tmp 5) rfl w.heap.size rfl 32 #[.int .i64 p.tos, .int .i64 p.id, .int .i64 p.ttl, .int .i64 p.proto, .bool p.df, .bool p.mf, .int .i64 p.off, .string p.src, .string p.dst, .string p.opt, .slice A n c] (0, 0) _ (K4.out) Tryd.underlying32 rfl (by kernel_rfl) ?_)
    refine HC4.out.mono ?_
    rintro e5 w5 ⟨rfl, hb⟩
    have B5 := Lib.hid (B4.out.trans (hb.mono B4.out.size))
    have N5 := Lib.hid (N4.out.below hb N4.out.lt)
    have K5 := Lib.hid (K4.out.below hb K4.out.lt)
    clear hb HC4 B4 N4 K4
    go_wp2_with fail
    go_ret
    exact ⟨rfl, B5.out⟩
set_option maxHeartbeats 4000000 in
theorem keep_full (F : Nat → Prop) (g gm : Nat) (OA : Option Addr) (oc n0 : Nat) (T : Nat → Nat) (ms : List ME) (now : Int) (p : Pkt) (A : Option Addr) (n c : Nat) (l : List Int) (m : Nm) (hm : nmOf p = m) (w : World) (h : CatM F w g gm OA oc T ms) (hn0 : ms.length = n0) (hp : Holds w w.heap.size A n c l) (i : Nat) (e : ME) (hx : ms.findIdx? (fun e => decide (e.nm = m)) = some i) (hi : ms[i]? = some e) (fx : FOk (p, l)) (hs : Srt (e.zs.map (·.1))) (t1 : e.zs.any (fun z => twinB z.1 (p, l)) = false) (t2 : 64 ≤ e.zs.length) :
    Calls Tryd.prog 27 #[.pointer (some ⟨g, 0, none⟩), .int .i64 now, val p (.slice A n c)] w fun er w' => er = .returned (.int .i64 7) ∧ Below w.heap.size w w' := by
  have NC := Lib.hid (fun W => name_c p (.slice A n c) W)
  rw [hm] at NC
  have HM := Lib.hid hm
  have MN := Lib.hid hn0
  have HC := Lib.hid h
  have HP := Lib.hid hp
  have NX := Lib.hid (get_some hx hi)
  have IX := Lib.hid hx
  have HI := Lib.hid hi
  have FX := Lib.hid fx
  have HS := Lib.hid hs
  have EO := Lib.hid (h.ok e (List.mem_of_getElem? hi))
  clear hx hi fx hs
  have T1 := Lib.hid t1
  have T2 := Lib.hid t2
  clear t1 t2
  have B0 := (Below.refl w.heap.size w).alloc (Nat.le_refl _) (.cells #[.int .i64 p.tos, .int .i64 p.id, .int .i64 p.ttl, .int .i64 p.proto, .bool p.df, .bool p.mf, .int .i64 p.off, .string p.src, .string p.dst, .string p.opt, .slice A n c] 32)
  have B1 := Lib.hid B0
  have K1 := Lib.hid (Blk.new w 32 #[.int .i64 p.tos, .int .i64 p.id, .int .i64 p.ttl, .int .i64 p.proto, .bool p.df, .bool p.mf, .int .i64 p.off, .string p.src, .string p.dst, .string p.opt, .slice A n c])
  unfold val nk at NC
  unfold val
  clear h hn0 hp hm B0
  go_enter Tryd.func27, Tryd.ntmps27
  go_wp2_with (refine Store.at_load 32 (.tmp 5) ?_ ?_; exact rfl; refine Loads.wpList_load_w rfl 32 (.tmp 5) rfl w.heap.size rfl 32 #[.int .i64 p.tos, .int .i64 p.id, .int .i64 p.ttl, .int .i64 p.proto, .bool p.df, .bool p.mf, .int .i64 p.off, .string p.src, .string p.dst, .string p.opt, .slice A n c] (0, 0) _ (K1.out) Tryd.underlying32 rfl (by kernel_rfl) ?_)
  refine (NC.out _).mono ?_
  rintro e w2 ⟨rfl, hb⟩
  have B2 := B1.out.trans (hb.mono B1.out.size)
  have K2 := K1.out.below hb K1.out.lt
  have S0 := Blk.new w2 60 #[.string ⟨#[]⟩, .string ⟨#[]⟩, .int .i64 0, .int .i64 0]
  have RS := Lib.hid (run_storeVar_row (P := Tryd.prog) (w2.alloc (.cells #[.string ⟨#[]⟩, .string ⟨#[]⟩, .int .i64 0, .int .i64 0] 60)) w2.heap.size 60 60 #[.string ⟨#[]⟩, .string ⟨#[]⟩, .int .i64 0, .int .i64 0] #[.string m.src, .string m.dst, .int .i64 m.proto, .int .i64 m.id] S0 (by kernel_rfl) rfl (by simp [Value.oneCell']))
  obtain ⟨w3, hw3⟩ : ∃ w3, w3 = (w2.alloc (.cells #[.string ⟨#[]⟩, .string ⟨#[]⟩, .int .i64 0, .int .i64 0] 60)).setRow w2.heap.size #[.string m.src, .string m.dst, .int .i64 m.proto, .int .i64 m.id] := ⟨_, rfl⟩
  rw [← hw3] at RS
  have ba : Below w2.heap.size w2 w3 := by rw [hw3]; exact Com.setRow_bel ((Below.refl _ _).alloc (Nat.le_refl _) _) (Nat.le_refl _) _
  obtain ⟨nb, hnb⟩ : ∃ nb, w2.heap.size = nb := ⟨_, rfl⟩
  have NBE := Lib.hid hnb
  have n3 : Blk w3 w2.heap.size NT #[.string m.src, .string m.dst, .int .i64 m.proto, .int .i64 m.id] := by rw [hw3]; exact setRow_heap _ _ _ _ _ _ S0
  rw [hnb] at n3
  have N3 := Lib.hid n3
  have B3 := Lib.hid (B2.trans (ba.mono B2.size))
  have K3 := Lib.hid (K2.below ba K2.lt)
  have XN : Hid (∀ V, Below w3.drew.heap.size w3.drew V → Blk V nb 60 #[.string m.src, .string m.dst, .int .i64 m.proto, .int .i64 m.id]) := Lib.hid fun V hV => Blk.below (show Blk w3.drew nb NT _ from N3.out) hV (Blk.lt N3.out)
  have XG : Hid (∀ V, Below w3.drew.heap.size w3.drew V → Blk V g 57 #[.map (some gm), .slice OA n0 oc]) := Lib.hid fun V hV => by
    have b := B3.out.trans ((Draw.below_1 hV).mono B3.out.size)
    rw [← MN.out]
    exact HC.out.blk.below b HC.out.blk.lt
  have LK : Hid (∀ V, Below w3.drew.heap.size w3.drew V → (Instr.lookup 54 (.map (some gm)) (nk m) false).run Tryd.prog V = .ok (.pointer (some ⟨e.eb, 0, none⟩)) V) := Lib.hid fun V hV => by
    have b := B3.out.trans ((Draw.below_1 hV).mono B3.out.size)
    have := run_lookup1 (P := Tryd.prog) (ev := ev) key_law Tryd.underlying54 (HC.out.map.below b HC.out.map.lt) (.pointer none) (zero_ptr V) m
    rw [NX.out] at this
    exact this
  clear hb NC K1 B1 B2 K2 S0 hw3 ba n3 hnb
  go_wp2_with (refine Store.at_store 60 (.tmp 7) (.tmp 10) ?_ ?_; exact rfl; refine JcP.wpList_store_run rfl 60 (.tmp 7) (.tmp 10) rfl ⟨w2.heap.size, 0, none⟩ (.agg #[.string m.src, .string m.dst, .int .i64 m.proto, .int .i64 m.id]) rfl rfl RS.out ?_)
  rw [NBE.out]
  clear RS
  refine wp_region_free [0, 1, 2, 3, 4, 5] 6 [] (fun w1 w2 => Below w1.heap.size w1 w2) (fun k' w' v => match k' with
      | 0 => v = .pointer (some ⟨g, 0, none⟩)
      | 1 => v = .pointer (some ⟨g, 0, none⟩)
      | 2 => v = .pointer (some ⟨g, 0, none⟩)
      | 3 => v = .map (some gm)
      | 4 => v = .agg #[.string m.src, .string m.dst, .int .i64 m.proto, .int .i64 m.id]
      | _ => v = .pointer (some ⟨e.eb, 0, none⟩)) (by kernel_rfl) (by kernel_rfl) (Below.refl _ _) (fun _ _ _ h k => h.trans (k.mono h.size)) (fun k' w1 w2 v h => match k' with
      | 0 => fun x => x
      | 1 => fun x => x
      | 2 => fun x => x
      | 3 => fun x => x
      | 4 => fun x => x
      | _ + 5 => fun x => x) (fun _ _ _ _ _ h => h) ?_ _ (by rfl) ?_
  · refine obs_cons (by rfl) (fun vals w' hgr hdep K hK => ?_) (obs_cons (by rfl) (fun vals w' hgr hdep K hK => ?_) (obs_cons (by rfl) (fun vals w' hgr hdep K hK => ?_) (obs_cons (by rfl) (fun vals w' hgr hdep K hK => ?_) (obs_cons (by rfl) (fun vals w' hgr hdep K hK => ?_) (obs_cons (by rfl) (fun vals w' hgr hdep K hK => ?_) (obs_nil))))))
    · exact wp_move (.tmp 0) rfl _ (at_out _ (by kernel_rfl) rfl) (hK _ _ (Below.refl _ _) rfl)
    · exact MapS.st_nil (.tmp 11) rfl _ ((at_dst 0 (by kernel_rfl)).trans (hdep 0 (by simp) (by kernel_rfl))) (hK _ _ (Below.refl _ _) rfl)
    · exact wp_field (.tmp 12) rfl _ _ ((at_dst 1 (by kernel_rfl)).trans (hdep 1 (by simp) (by kernel_rfl))) (by kernel_rfl) (hK _ _ (Below.refl _ _) rfl)
    · exact wp_load1 (.tmp 13) rfl ⟨g, 0, none⟩ ((at_dst 2 (by kernel_rfl)).trans (hdep 2 (by simp) (by kernel_rfl))) Tryd.underlying54 rfl _ ((XG.out w' hgr).cell 0) (hK _ _ (Below.refl _ _) rfl)
    · exact st_load_row 60 (.tmp 7) rfl nb (at_out _ (by kernel_rfl) rfl) 60 #[.string m.src, .string m.dst, .int .i64 m.proto, .int .i64 m.id] (0, 0) _ (XN.out w' hgr) Tryd.underlying60 rfl (by kernel_rfl) (hK _ _ (Below.refl _ _) rfl)
    · exact MapL.st_lookup1 54 (.tmp 14) (.tmp 15) rfl (.map (some gm)) (nk m) (.pointer (some ⟨e.eb, 0, none⟩)) ((at_dst 3 (by kernel_rfl)).trans (hdep 3 (by simp) (by kernel_rfl))) ((at_dst 4 (by kernel_rfl)).trans (hdep 4 (by simp) (by kernel_rfl))) (LK.out w' hgr) (hK _ _ (Below.refl _ _) rfl)
  · intro vals w' hgr hG
    refine st_assign (.tmp 16) _ rfl ((at_dst 5 (by kernel_rfl)).trans (hG 5 (by simp))) (wpAnyH_done (by kernel_rfl) ?_ _)
    have B4 := Lib.hid (B3.out.trans ((Draw.below_1 hgr).mono B3.out.size))
    have N4 := Lib.hid (XN.out w' hgr)
    have K4 := Lib.hid (K3.out.below (Draw.below_1 hgr) K3.out.lt)
    clear hG hgr XG XN LK K3 B3 N3
    simp only [fill, dstAt, List.getElem?_cons_zero, List.getElem?_cons_succ, Option.bind_some, Act.put, List.setIfInBounds_toArray, List.set_cons_zero, List.set_cons_succ]
    generalize vals 0 = y0, vals 1 = y1, vals 2 = y2, vals 3 = y3, vals 4 = y4, vals 5 = y5 at *
    generalize w' = w4 at *
    have C4 := HC.out.below B4.out
    have E4 := C4.at_ HI.out
    have ZL : e.zs.length ≤ 64 := by have := EO.out.few; simpa [ME.ce] using this
    have FZ : ∀ z ∈ e.zs, FOk z.1 := fun z hz => EO.out.each z.1 (List.mem_map.2 ⟨z, hz, rfl⟩)
    have FZ4 := Lib.hid FZ
    have ZL4 := Lib.hid ZL
    have H4 := (HP.out.below B4.out).more B4.out.size
    have HC4 := Lib.hid (has_c e.eb e.since e.PA e.pc e.zs p A n c l w4 E4.blk (Jc4.RAt.pr E4.row) (by omega) FZ FX.out HP.out.1 H4)
    rw [T1.out] at HC4
    unfold val at HC4
    clear C4 E4 ZL FZ H4
    go_wp2_with (refine Store.at_load 32 (.tmp 5) ?_ ?_; exact rfl; refine Loads.wpList_load_w rfl 32 (.tmp 5) rfl w.heap.size rfl 32 #[.int .i64 p.tos, .int .i64 p.id, .int .i64 p.ttl, .int .i64 p.proto, .bool p.df, .bool p.mf, .int .i64 p.off, .string p.src, .string p.dst, .string p.opt, .slice A n c] (0, 0) _ (K4.out) Tryd.underlying32 rfl (by kernel_rfl) ?_)
    refine HC4.out.mono ?_
    rintro e5 w5 ⟨rfl, hb⟩
    have B5 := Lib.hid (B4.out.trans (hb.mono B4.out.size))
    have N5 := Lib.hid (N4.out.below hb N4.out.lt)
    have K5 := Lib.hid (K4.out.below hb K4.out.lt)
    clear hb HC4 B4 N4 K4
    have E5 := (HC.out.below B5.out).at_ HI.out
    obtain ⟨zn, hzn⟩ : ∃ zn, e.zs.length = zn := ⟨_, rfl⟩
    have ZN_ := Lib.hid hzn
    have c5 := E5.blk.cell 1
    rw [hzn] at c5
    clear E5 hzn
    have c5' : w5.cell? ⟨e.eb, 1, none⟩ = some (.slice e.PA zn e.pc) := c5
    clear c5
    have q1 : decide (64 ≤ zn) = true := decide_eq_true (by rw [← ZN_.out]; exact T2.out)
    have q2 : decide ((64 : Int) ≤ (zn : Int)) = true := decide_eq_true (by have := of_decide_eq_true q1; omega)
    go_wp2_with fail
    go_ret
    exact ⟨rfl, B5.out⟩
set_option maxHeartbeats 4000000 in
theorem keep_bad (F : Nat → Prop) (g gm : Nat) (OA : Option Addr) (oc n0 : Nat) (T : Nat → Nat) (ms : List ME) (now : Int) (p : Pkt) (A : Option Addr) (n c : Nat) (l : List Int) (m : Nm) (hm : nmOf p = m) (w : World) (h : CatM F w g gm OA oc T ms) (hn0 : ms.length = n0) (hp : Holds w w.heap.size A n c l) (i : Nat) (e : ME) (hx : ms.findIdx? (fun e => decide (e.nm = m)) = some i) (hi : ms[i]? = some e) (fx : FOk (p, l)) (hs : Srt (e.zs.map (·.1))) (t1 : e.zs.any (fun z => twinB z.1 (p, l)) = false) (t2 : ¬ 64 ≤ e.zs.length) (t3 : e.zs.any (fun z => badB z.1 (p, l)) = true) :
    Calls Tryd.prog 27 #[.pointer (some ⟨g, 0, none⟩), .int .i64 now, val p (.slice A n c)] w fun er w' => er = .returned (.int .i64 4) ∧ ∃ V, Below w.heap.size w V ∧ CatM F w' g gm OA oc T (ms.eraseIdx i) ∧ Keep (fun k => k ≠ g ∧ k ≠ gm ∧ ¬ own OA k) V w' := by
  have NC := Lib.hid (fun W => name_c p (.slice A n c) W)
  rw [hm] at NC
  have HM := Lib.hid hm
  have MN := Lib.hid hn0
  have HC := Lib.hid h
  have HP := Lib.hid hp
  have NX := Lib.hid (get_some hx hi)
  have IX := Lib.hid hx
  have HI := Lib.hid hi
  have FX := Lib.hid fx
  have HS := Lib.hid hs
  have EO := Lib.hid (h.ok e (List.mem_of_getElem? hi))
  clear hx hi fx hs
  have T1 := Lib.hid t1
  have T2 := Lib.hid t2
  have T3 := Lib.hid t3
  clear t1 t2 t3
  have B0 := (Below.refl w.heap.size w).alloc (Nat.le_refl _) (.cells #[.int .i64 p.tos, .int .i64 p.id, .int .i64 p.ttl, .int .i64 p.proto, .bool p.df, .bool p.mf, .int .i64 p.off, .string p.src, .string p.dst, .string p.opt, .slice A n c] 32)
  have B1 := Lib.hid B0
  have K1 := Lib.hid (Blk.new w 32 #[.int .i64 p.tos, .int .i64 p.id, .int .i64 p.ttl, .int .i64 p.proto, .bool p.df, .bool p.mf, .int .i64 p.off, .string p.src, .string p.dst, .string p.opt, .slice A n c])
  unfold val nk at NC
  unfold val
  clear h hn0 hp hm B0
  go_enter Tryd.func27, Tryd.ntmps27
  go_wp2_with (refine Store.at_load 32 (.tmp 5) ?_ ?_; exact rfl; refine Loads.wpList_load_w rfl 32 (.tmp 5) rfl w.heap.size rfl 32 #[.int .i64 p.tos, .int .i64 p.id, .int .i64 p.ttl, .int .i64 p.proto, .bool p.df, .bool p.mf, .int .i64 p.off, .string p.src, .string p.dst, .string p.opt, .slice A n c] (0, 0) _ (K1.out) Tryd.underlying32 rfl (by kernel_rfl) ?_)
  refine (NC.out _).mono ?_
  rintro e w2 ⟨rfl, hb⟩
  have B2 := B1.out.trans (hb.mono B1.out.size)
  have K2 := K1.out.below hb K1.out.lt
  have S0 := Blk.new w2 60 #[.string ⟨#[]⟩, .string ⟨#[]⟩, .int .i64 0, .int .i64 0]
  have RS := Lib.hid (run_storeVar_row (P := Tryd.prog) (w2.alloc (.cells #[.string ⟨#[]⟩, .string ⟨#[]⟩, .int .i64 0, .int .i64 0] 60)) w2.heap.size 60 60 #[.string ⟨#[]⟩, .string ⟨#[]⟩, .int .i64 0, .int .i64 0] #[.string m.src, .string m.dst, .int .i64 m.proto, .int .i64 m.id] S0 (by kernel_rfl) rfl (by simp [Value.oneCell']))
  obtain ⟨w3, hw3⟩ : ∃ w3, w3 = (w2.alloc (.cells #[.string ⟨#[]⟩, .string ⟨#[]⟩, .int .i64 0, .int .i64 0] 60)).setRow w2.heap.size #[.string m.src, .string m.dst, .int .i64 m.proto, .int .i64 m.id] := ⟨_, rfl⟩
  rw [← hw3] at RS
  have ba : Below w2.heap.size w2 w3 := by rw [hw3]; exact Com.setRow_bel ((Below.refl _ _).alloc (Nat.le_refl _) _) (Nat.le_refl _) _
  obtain ⟨nb, hnb⟩ : ∃ nb, w2.heap.size = nb := ⟨_, rfl⟩
  have NBE := Lib.hid hnb
  have n3 : Blk w3 w2.heap.size NT #[.string m.src, .string m.dst, .int .i64 m.proto, .int .i64 m.id] := by rw [hw3]; exact setRow_heap _ _ _ _ _ _ S0
  rw [hnb] at n3
  have N3 := Lib.hid n3
  have B3 := Lib.hid (B2.trans (ba.mono B2.size))
  have K3 := Lib.hid (K2.below ba K2.lt)
  have XN : Hid (∀ V, Below w3.drew.heap.size w3.drew V → Blk V nb 60 #[.string m.src, .string m.dst, .int .i64 m.proto, .int .i64 m.id]) := Lib.hid fun V hV => Blk.below (show Blk w3.drew nb NT _ from N3.out) hV (Blk.lt N3.out)
  have XG : Hid (∀ V, Below w3.drew.heap.size w3.drew V → Blk V g 57 #[.map (some gm), .slice OA n0 oc]) := Lib.hid fun V hV => by
    have b := B3.out.trans ((Draw.below_1 hV).mono B3.out.size)
    rw [← MN.out]
    exact HC.out.blk.below b HC.out.blk.lt
  have LK : Hid (∀ V, Below w3.drew.heap.size w3.drew V → (Instr.lookup 54 (.map (some gm)) (nk m) false).run Tryd.prog V = .ok (.pointer (some ⟨e.eb, 0, none⟩)) V) := Lib.hid fun V hV => by
    have b := B3.out.trans ((Draw.below_1 hV).mono B3.out.size)
    have := run_lookup1 (P := Tryd.prog) (ev := ev) key_law Tryd.underlying54 (HC.out.map.below b HC.out.map.lt) (.pointer none) (zero_ptr V) m
    rw [NX.out] at this
    exact this
  clear hb NC K1 B1 B2 K2 S0 hw3 ba n3 hnb
  go_wp2_with (refine Store.at_store 60 (.tmp 7) (.tmp 10) ?_ ?_; exact rfl; refine JcP.wpList_store_run rfl 60 (.tmp 7) (.tmp 10) rfl ⟨w2.heap.size, 0, none⟩ (.agg #[.string m.src, .string m.dst, .int .i64 m.proto, .int .i64 m.id]) rfl rfl RS.out ?_)
  rw [NBE.out]
  clear RS
  refine wp_region_free [0, 1, 2, 3, 4, 5] 6 [] (fun w1 w2 => Below w1.heap.size w1 w2) (fun k' w' v => match k' with
      | 0 => v = .pointer (some ⟨g, 0, none⟩)
      | 1 => v = .pointer (some ⟨g, 0, none⟩)
      | 2 => v = .pointer (some ⟨g, 0, none⟩)
      | 3 => v = .map (some gm)
      | 4 => v = .agg #[.string m.src, .string m.dst, .int .i64 m.proto, .int .i64 m.id]
      | _ => v = .pointer (some ⟨e.eb, 0, none⟩)) (by kernel_rfl) (by kernel_rfl) (Below.refl _ _) (fun _ _ _ h k => h.trans (k.mono h.size)) (fun k' w1 w2 v h => match k' with
      | 0 => fun x => x
      | 1 => fun x => x
      | 2 => fun x => x
      | 3 => fun x => x
      | 4 => fun x => x
      | _ + 5 => fun x => x) (fun _ _ _ _ _ h => h) ?_ _ (by rfl) ?_
  · refine obs_cons (by rfl) (fun vals w' hgr hdep K hK => ?_) (obs_cons (by rfl) (fun vals w' hgr hdep K hK => ?_) (obs_cons (by rfl) (fun vals w' hgr hdep K hK => ?_) (obs_cons (by rfl) (fun vals w' hgr hdep K hK => ?_) (obs_cons (by rfl) (fun vals w' hgr hdep K hK => ?_) (obs_cons (by rfl) (fun vals w' hgr hdep K hK => ?_) (obs_nil))))))
    · exact wp_move (.tmp 0) rfl _ (at_out _ (by kernel_rfl) rfl) (hK _ _ (Below.refl _ _) rfl)
    · exact MapS.st_nil (.tmp 11) rfl _ ((at_dst 0 (by kernel_rfl)).trans (hdep 0 (by simp) (by kernel_rfl))) (hK _ _ (Below.refl _ _) rfl)
    · exact wp_field (.tmp 12) rfl _ _ ((at_dst 1 (by kernel_rfl)).trans (hdep 1 (by simp) (by kernel_rfl))) (by kernel_rfl) (hK _ _ (Below.refl _ _) rfl)
    · exact wp_load1 (.tmp 13) rfl ⟨g, 0, none⟩ ((at_dst 2 (by kernel_rfl)).trans (hdep 2 (by simp) (by kernel_rfl))) Tryd.underlying54 rfl _ ((XG.out w' hgr).cell 0) (hK _ _ (Below.refl _ _) rfl)
    · exact st_load_row 60 (.tmp 7) rfl nb (at_out _ (by kernel_rfl) rfl) 60 #[.string m.src, .string m.dst, .int .i64 m.proto, .int .i64 m.id] (0, 0) _ (XN.out w' hgr) Tryd.underlying60 rfl (by kernel_rfl) (hK _ _ (Below.refl _ _) rfl)
    · exact MapL.st_lookup1 54 (.tmp 14) (.tmp 15) rfl (.map (some gm)) (nk m) (.pointer (some ⟨e.eb, 0, none⟩)) ((at_dst 3 (by kernel_rfl)).trans (hdep 3 (by simp) (by kernel_rfl))) ((at_dst 4 (by kernel_rfl)).trans (hdep 4 (by simp) (by kernel_rfl))) (LK.out w' hgr) (hK _ _ (Below.refl _ _) rfl)
  · intro vals w' hgr hG
    refine st_assign (.tmp 16) _ rfl ((at_dst 5 (by kernel_rfl)).trans (hG 5 (by simp))) (wpAnyH_done (by kernel_rfl) ?_ _)
    have B4 := Lib.hid (B3.out.trans ((Draw.below_1 hgr).mono B3.out.size))
    have N4 := Lib.hid (XN.out w' hgr)
    have K4 := Lib.hid (K3.out.below (Draw.below_1 hgr) K3.out.lt)
    clear hG hgr XG XN LK K3 B3 N3
    simp only [fill, dstAt, List.getElem?_cons_zero, List.getElem?_cons_succ, Option.bind_some, Act.put, List.setIfInBounds_toArray, List.set_cons_zero, List.set_cons_succ]
    generalize vals 0 = y0, vals 1 = y1, vals 2 = y2, vals 3 = y3, vals 4 = y4, vals 5 = y5 at *
    generalize w' = w4 at *
    have C4 := HC.out.below B4.out
    have E4 := C4.at_ HI.out
    have ZL : e.zs.length ≤ 64 := by have := EO.out.few; simpa [ME.ce] using this
    have FZ : ∀ z ∈ e.zs, FOk z.1 := fun z hz => EO.out.each z.1 (List.mem_map.2 ⟨z, hz, rfl⟩)
    have FZ4 := Lib.hid FZ
    have ZL4 := Lib.hid ZL
    have H4 := (HP.out.below B4.out).more B4.out.size
    have HC4 := Lib.hid (has_c e.eb e.since e.PA e.pc e.zs p A n c l w4 E4.blk (Jc4.RAt.pr E4.row) (by omega) FZ FX.out HP.out.1 H4)
    rw [T1.out] at HC4
    unfold val at HC4
    clear C4 E4 ZL FZ H4
    go_wp2_with (refine Store.at_load 32 (.tmp 5) ?_ ?_; exact rfl; refine Loads.wpList_load_w rfl 32 (.tmp 5) rfl w.heap.size rfl 32 #[.int .i64 p.tos, .int .i64 p.id, .int .i64 p.ttl, .int .i64 p.proto, .bool p.df, .bool p.mf, .int .i64 p.off, .string p.src, .string p.dst, .string p.opt, .slice A n c] (0, 0) _ (K4.out) Tryd.underlying32 rfl (by kernel_rfl) ?_)
    refine HC4.out.mono ?_
    rintro e5 w5 ⟨rfl, hb⟩
    have B5 := Lib.hid (B4.out.trans (hb.mono B4.out.size))
    have N5 := Lib.hid (N4.out.below hb N4.out.lt)
    have K5 := Lib.hid (K4.out.below hb K4.out.lt)
    clear hb HC4 B4 N4 K4
    have E5 := (HC.out.below B5.out).at_ HI.out
    obtain ⟨zn, hzn⟩ : ∃ zn, e.zs.length = zn := ⟨_, rfl⟩
    have ZN_ := Lib.hid hzn
    have c5 := E5.blk.cell 1
    rw [hzn] at c5
    clear E5 hzn
    have c5' : w5.cell? ⟨e.eb, 1, none⟩ = some (.slice e.PA zn e.pc) := c5
    clear c5
    have q1 : decide (64 ≤ zn) = false := decide_eq_false (by rw [← ZN_.out]; have := T2.out; omega)
    have q2 : decide ((64 : Int) ≤ (zn : Int)) = false := decide_eq_false (by have := of_decide_eq_false q1; omega)
    have C5 := HC.out.below B5.out
    have E5 := C5.at_ HI.out
    have H5 := (HP.out.below B5.out).more B5.out.size
    have RC5 := Lib.hid (ref_c e.eb e.since e.PA e.pc e.zs p A n c l w5 E5.blk (Jc4.RAt.pr E5.row) (by have := ZL4.out; omega) FZ4.out FX.out HP.out.1 H5)
    rw [T3.out] at RC5
    unfold val at RC5
    clear C5 E5 H5
    go_wp2_with (refine Store.at_load 32 (.tmp 5) ?_ ?_; exact rfl; refine Loads.wpList_load_w rfl 32 (.tmp 5) rfl w.heap.size rfl 32 #[.int .i64 p.tos, .int .i64 p.id, .int .i64 p.ttl, .int .i64 p.proto, .bool p.df, .bool p.mf, .int .i64 p.off, .string p.src, .string p.dst, .string p.opt, .slice A n c] (0, 0) _ (K5.out) Tryd.underlying32 rfl (by kernel_rfl) ?_)
    refine RC5.out.mono ?_
    rintro e6 w6 ⟨rfl, hb⟩
    have B6 := Lib.hid (B5.out.trans (hb.mono B5.out.size))
    have N6 := Lib.hid (N5.out.below hb N5.out.lt)
    have K6 := Lib.hid (K5.out.below hb K5.out.lt)
    clear hb RC5 B5 N5 K5 c5' q1 q2
    have DC := Lib.hid (drop_c F g gm OA oc T ms m i w6 (HC.out.below B6.out) IX.out)
    unfold nk at DC
    go_wp2_with (refine Store.at_load 60 (.tmp 7) ?_ ?_; exact rfl; refine Loads.wpList_load_w rfl 60 (.tmp 7) rfl nb rfl 60 #[.string m.src, .string m.dst, .int .i64 m.proto, .int .i64 m.id] (0, 0) _ (N6.out) Tryd.underlying60 rfl (by kernel_rfl) ?_)
    refine DC.out.mono ?_
    rintro e7 w7 ⟨rfl, h1, h2⟩
    have FIN := Lib.hid (show CatM F w7 g gm OA oc T (ms.eraseIdx i) ∧ Keep (fun k => k ≠ g ∧ k ≠ gm ∧ ¬ own OA k) w6 w7 from ⟨h1, h2⟩)
    clear h1 h2 DC
    go_wp2_with fail
    go_ret
    exact ⟨rfl, w6, B6.out, FIN.out⟩
set_option maxHeartbeats 4000000 in
theorem keep_add (F : Nat → Prop) (g gm : Nat) (OA : Option Addr) (oc n0 : Nat) (T : Nat → Nat) (ms : List ME) (now : Int) (p : Pkt) (A : Option Addr) (n c : Nat) (l : List Int) (m : Nm) (hm : nmOf p = m) (w : World) (h : CatM F w g gm OA oc T ms) (hn0 : ms.length = n0) (hp : Holds w w.heap.size A n c l) (i : Nat) (e : ME) (hx : ms.findIdx? (fun e => decide (e.nm = m)) = some i) (hi : ms[i]? = some e) (fx : FOk (p, l)) (hs : Srt (e.zs.map (·.1))) (hF : ∀ k, F k → k < w.heap.size) (hA : ∀ b o, 0 < n → A = some ⟨b, o, none⟩ → F b) (hn : n ≤ 1048576) (t1 : e.zs.any (fun z => twinB z.1 (p, l)) = false) (t2 : ¬ 64 ≤ e.zs.length) (t3 : e.zs.any (fun z => badB z.1 (p, l)) = false) :
    Calls Tryd.prog 27 #[.pointer (some ⟨g, 0, none⟩), .int .i64 now, val p (.slice A n c)] w fun er w' => er = .returned (.int .i64 0) ∧ ∃ V, Below w.heap.size w V ∧ AddR F T V e (bareF (p, l)) w' := by
  have NC := Lib.hid (fun W => name_c p (.slice A n c) W)
  rw [hm] at NC
  have HM := Lib.hid hm
  have MN := Lib.hid hn0
  have HC := Lib.hid h
  have HP := Lib.hid hp
  have NX := Lib.hid (get_some hx hi)
  have IX := Lib.hid hx
  have HI := Lib.hid hi
  have FX := Lib.hid fx
  have HS := Lib.hid hs
  have EO := Lib.hid (h.ok e (List.mem_of_getElem? hi))
  clear hx hi fx hs
  have HF := Lib.hid hF
  have HA := Lib.hid hA
  have HNB := Lib.hid hn
  clear hF hA hn
  have T1 := Lib.hid t1
  have T2 := Lib.hid t2
  have T3 := Lib.hid t3
  clear t1 t2 t3
  have B0 := (Below.refl w.heap.size w).alloc (Nat.le_refl _) (.cells #[.int .i64 p.tos, .int .i64 p.id, .int .i64 p.ttl, .int .i64 p.proto, .bool p.df, .bool p.mf, .int .i64 p.off, .string p.src, .string p.dst, .string p.opt, .slice A n c] 32)
  have B1 := Lib.hid B0
  have K1 := Lib.hid (Blk.new w 32 #[.int .i64 p.tos, .int .i64 p.id, .int .i64 p.ttl, .int .i64 p.proto, .bool p.df, .bool p.mf, .int .i64 p.off, .string p.src, .string p.dst, .string p.opt, .slice A n c])
  unfold val nk at NC
  unfold val
  clear h hn0 hp hm B0
  go_enter Tryd.func27, Tryd.ntmps27
  go_wp2_with (refine Store.at_load 32 (.tmp 5) ?_ ?_; exact rfl; refine Loads.wpList_load_w rfl 32 (.tmp 5) rfl w.heap.size rfl 32 #[.int .i64 p.tos, .int .i64 p.id, .int .i64 p.ttl, .int .i64 p.proto, .bool p.df, .bool p.mf, .int .i64 p.off, .string p.src, .string p.dst, .string p.opt, .slice A n c] (0, 0) _ (K1.out) Tryd.underlying32 rfl (by kernel_rfl) ?_)
  refine (NC.out _).mono ?_
  rintro e w2 ⟨rfl, hb⟩
  have B2 := B1.out.trans (hb.mono B1.out.size)
  have K2 := K1.out.below hb K1.out.lt
  have S0 := Blk.new w2 60 #[.string ⟨#[]⟩, .string ⟨#[]⟩, .int .i64 0, .int .i64 0]
  have RS := Lib.hid (run_storeVar_row (P := Tryd.prog) (w2.alloc (.cells #[.string ⟨#[]⟩, .string ⟨#[]⟩, .int .i64 0, .int .i64 0] 60)) w2.heap.size 60 60 #[.string ⟨#[]⟩, .string ⟨#[]⟩, .int .i64 0, .int .i64 0] #[.string m.src, .string m.dst, .int .i64 m.proto, .int .i64 m.id] S0 (by kernel_rfl) rfl (by simp [Value.oneCell']))
  obtain ⟨w3, hw3⟩ : ∃ w3, w3 = (w2.alloc (.cells #[.string ⟨#[]⟩, .string ⟨#[]⟩, .int .i64 0, .int .i64 0] 60)).setRow w2.heap.size #[.string m.src, .string m.dst, .int .i64 m.proto, .int .i64 m.id] := ⟨_, rfl⟩
  rw [← hw3] at RS
  have ba : Below w2.heap.size w2 w3 := by rw [hw3]; exact Com.setRow_bel ((Below.refl _ _).alloc (Nat.le_refl _) _) (Nat.le_refl _) _
  obtain ⟨nb, hnb⟩ : ∃ nb, w2.heap.size = nb := ⟨_, rfl⟩
  have NBE := Lib.hid hnb
  have n3 : Blk w3 w2.heap.size NT #[.string m.src, .string m.dst, .int .i64 m.proto, .int .i64 m.id] := by rw [hw3]; exact setRow_heap _ _ _ _ _ _ S0
  rw [hnb] at n3
  have N3 := Lib.hid n3
  have B3 := Lib.hid (B2.trans (ba.mono B2.size))
  have K3 := Lib.hid (K2.below ba K2.lt)
  have XN : Hid (∀ V, Below w3.drew.heap.size w3.drew V → Blk V nb 60 #[.string m.src, .string m.dst, .int .i64 m.proto, .int .i64 m.id]) := Lib.hid fun V hV => Blk.below (show Blk w3.drew nb NT _ from N3.out) hV (Blk.lt N3.out)
  have XG : Hid (∀ V, Below w3.drew.heap.size w3.drew V → Blk V g 57 #[.map (some gm), .slice OA n0 oc]) := Lib.hid fun V hV => by
    have b := B3.out.trans ((Draw.below_1 hV).mono B3.out.size)
    rw [← MN.out]
    exact HC.out.blk.below b HC.out.blk.lt
  have LK : Hid (∀ V, Below w3.drew.heap.size w3.drew V → (Instr.lookup 54 (.map (some gm)) (nk m) false).run Tryd.prog V = .ok (.pointer (some ⟨e.eb, 0, none⟩)) V) := Lib.hid fun V hV => by
    have b := B3.out.trans ((Draw.below_1 hV).mono B3.out.size)
    have := run_lookup1 (P := Tryd.prog) (ev := ev) key_law Tryd.underlying54 (HC.out.map.below b HC.out.map.lt) (.pointer none) (zero_ptr V) m
    rw [NX.out] at this
    exact this
  clear hb NC K1 B1 B2 K2 S0 hw3 ba n3 hnb
  go_wp2_with (refine Store.at_store 60 (.tmp 7) (.tmp 10) ?_ ?_; exact rfl; refine JcP.wpList_store_run rfl 60 (.tmp 7) (.tmp 10) rfl ⟨w2.heap.size, 0, none⟩ (.agg #[.string m.src, .string m.dst, .int .i64 m.proto, .int .i64 m.id]) rfl rfl RS.out ?_)
  rw [NBE.out]
  clear RS
  refine wp_region_free [0, 1, 2, 3, 4, 5] 6 [] (fun w1 w2 => Below w1.heap.size w1 w2) (fun k' w' v => match k' with
      | 0 => v = .pointer (some ⟨g, 0, none⟩)
      | 1 => v = .pointer (some ⟨g, 0, none⟩)
      | 2 => v = .pointer (some ⟨g, 0, none⟩)
      | 3 => v = .map (some gm)
      | 4 => v = .agg #[.string m.src, .string m.dst, .int .i64 m.proto, .int .i64 m.id]
      | _ => v = .pointer (some ⟨e.eb, 0, none⟩)) (by kernel_rfl) (by kernel_rfl) (Below.refl _ _) (fun _ _ _ h k => h.trans (k.mono h.size)) (fun k' w1 w2 v h => match k' with
      | 0 => fun x => x
      | 1 => fun x => x
      | 2 => fun x => x
      | 3 => fun x => x
      | 4 => fun x => x
      | _ + 5 => fun x => x) (fun _ _ _ _ _ h => h) ?_ _ (by rfl) ?_
  · refine obs_cons (by rfl) (fun vals w' hgr hdep K hK => ?_) (obs_cons (by rfl) (fun vals w' hgr hdep K hK => ?_) (obs_cons (by rfl) (fun vals w' hgr hdep K hK => ?_) (obs_cons (by rfl) (fun vals w' hgr hdep K hK => ?_) (obs_cons (by rfl) (fun vals w' hgr hdep K hK => ?_) (obs_cons (by rfl) (fun vals w' hgr hdep K hK => ?_) (obs_nil))))))
    · exact wp_move (.tmp 0) rfl _ (at_out _ (by kernel_rfl) rfl) (hK _ _ (Below.refl _ _) rfl)
    · exact MapS.st_nil (.tmp 11) rfl _ ((at_dst 0 (by kernel_rfl)).trans (hdep 0 (by simp) (by kernel_rfl))) (hK _ _ (Below.refl _ _) rfl)
    · exact wp_field (.tmp 12) rfl _ _ ((at_dst 1 (by kernel_rfl)).trans (hdep 1 (by simp) (by kernel_rfl))) (by kernel_rfl) (hK _ _ (Below.refl _ _) rfl)
    · exact wp_load1 (.tmp 13) rfl ⟨g, 0, none⟩ ((at_dst 2 (by kernel_rfl)).trans (hdep 2 (by simp) (by kernel_rfl))) Tryd.underlying54 rfl _ ((XG.out w' hgr).cell 0) (hK _ _ (Below.refl _ _) rfl)
    · exact st_load_row 60 (.tmp 7) rfl nb (at_out _ (by kernel_rfl) rfl) 60 #[.string m.src, .string m.dst, .int .i64 m.proto, .int .i64 m.id] (0, 0) _ (XN.out w' hgr) Tryd.underlying60 rfl (by kernel_rfl) (hK _ _ (Below.refl _ _) rfl)
    · exact MapL.st_lookup1 54 (.tmp 14) (.tmp 15) rfl (.map (some gm)) (nk m) (.pointer (some ⟨e.eb, 0, none⟩)) ((at_dst 3 (by kernel_rfl)).trans (hdep 3 (by simp) (by kernel_rfl))) ((at_dst 4 (by kernel_rfl)).trans (hdep 4 (by simp) (by kernel_rfl))) (LK.out w' hgr) (hK _ _ (Below.refl _ _) rfl)
  · intro vals w' hgr hG
    refine st_assign (.tmp 16) _ rfl ((at_dst 5 (by kernel_rfl)).trans (hG 5 (by simp))) (wpAnyH_done (by kernel_rfl) ?_ _)
    have B4 := Lib.hid (B3.out.trans ((Draw.below_1 hgr).mono B3.out.size))
    have N4 := Lib.hid (XN.out w' hgr)
    have K4 := Lib.hid (K3.out.below (Draw.below_1 hgr) K3.out.lt)
    clear hG hgr XG XN LK K3 B3 N3
    simp only [fill, dstAt, List.getElem?_cons_zero, List.getElem?_cons_succ, Option.bind_some, Act.put, List.setIfInBounds_toArray, List.set_cons_zero, List.set_cons_succ]
    generalize vals 0 = y0, vals 1 = y1, vals 2 = y2, vals 3 = y3, vals 4 = y4, vals 5 = y5 at *
    generalize w' = w4 at *
    have C4 := HC.out.below B4.out
    have E4 := C4.at_ HI.out
    have ZL : e.zs.length ≤ 64 := by have := EO.out.few; simpa [ME.ce] using this
    have FZ : ∀ z ∈ e.zs, FOk z.1 := fun z hz => EO.out.each z.1 (List.mem_map.2 ⟨z, hz, rfl⟩)
    have FZ4 := Lib.hid FZ
    have ZL4 := Lib.hid ZL
    have H4 := (HP.out.below B4.out).more B4.out.size
    have HC4 := Lib.hid (has_c e.eb e.since e.PA e.pc e.zs p A n c l w4 E4.blk (Jc4.RAt.pr E4.row) (by omega) FZ FX.out HP.out.1 H4)
    rw [T1.out] at HC4
    unfold val at HC4
    clear C4 E4 ZL FZ H4
    go_wp2_with (refine Store.at_load 32 (.tmp 5) ?_ ?_; exact rfl; refine Loads.wpList_load_w rfl 32 (.tmp 5) rfl w.heap.size rfl 32 #[.int .i64 p.tos, .int .i64 p.id, .int .i64 p.ttl, .int .i64 p.proto, .bool p.df, .bool p.mf, .int .i64 p.off, .string p.src, .string p.dst, .string p.opt, .slice A n c] (0, 0) _ (K4.out) Tryd.underlying32 rfl (by kernel_rfl) ?_)
    refine HC4.out.mono ?_
    rintro e5 w5 ⟨rfl, hb⟩
    have B5 := Lib.hid (B4.out.trans (hb.mono B4.out.size))
    have N5 := Lib.hid (N4.out.below hb N4.out.lt)
    have K5 := Lib.hid (K4.out.below hb K4.out.lt)
    clear hb HC4 B4 N4 K4
    have E5 := (HC.out.below B5.out).at_ HI.out
    obtain ⟨zn, hzn⟩ : ∃ zn, e.zs.length = zn := ⟨_, rfl⟩
    have ZN_ := Lib.hid hzn
    have c5 := E5.blk.cell 1
    rw [hzn] at c5
    clear E5 hzn
    have c5' : w5.cell? ⟨e.eb, 1, none⟩ = some (.slice e.PA zn e.pc) := c5
    clear c5
    have q1 : decide (64 ≤ zn) = false := decide_eq_false (by rw [← ZN_.out]; have := T2.out; omega)
    have q2 : decide ((64 : Int) ≤ (zn : Int)) = false := decide_eq_false (by have := of_decide_eq_false q1; omega)
    have C5 := HC.out.below B5.out
    have E5 := C5.at_ HI.out
    have H5 := (HP.out.below B5.out).more B5.out.size
    have RC5 := Lib.hid (ref_c e.eb e.since e.PA e.pc e.zs p A n c l w5 E5.blk (Jc4.RAt.pr E5.row) (by have := ZL4.out; omega) FZ4.out FX.out HP.out.1 H5)
    rw [T3.out] at RC5
    unfold val at RC5
    clear C5 E5 H5
    go_wp2_with (refine Store.at_load 32 (.tmp 5) ?_ ?_; exact rfl; refine Loads.wpList_load_w rfl 32 (.tmp 5) rfl w.heap.size rfl 32 #[.int .i64 p.tos, .int .i64 p.id, .int .i64 p.ttl, .int .i64 p.proto, .bool p.df, .bool p.mf, .int .i64 p.off, .string p.src, .string p.dst, .string p.opt, .slice A n c] (0, 0) _ (K5.out) Tryd.underlying32 rfl (by kernel_rfl) ?_)
    refine RC5.out.mono ?_
    rintro e6 w6 ⟨rfl, hb⟩
    have B6 := Lib.hid (B5.out.trans (hb.mono B5.out.size))
    have N6 := Lib.hid (N5.out.below hb N5.out.lt)
    have K6 := Lib.hid (K5.out.below hb K5.out.lt)
    clear hb RC5 B5 N5 K5 c5' q1 q2
    have C6 := HC.out.below B6.out
    have AC := Lib.hid (add_c F T e p A n c l w6 (C6.at_ HI.out) (fun k hk => Nat.lt_of_lt_of_le (HF.out k hk) B6.out.size) ZL4.out HS.out ((HP.out.below B6.out).more B6.out.size) HA.out (texts_ok FX.out) HNB.out)
    unfold val at AC
    clear C6
    go_wp2_with (refine Store.at_load 32 (.tmp 5) ?_ ?_; exact rfl; refine Loads.wpList_load_w rfl 32 (.tmp 5) rfl w.heap.size rfl 32 #[.int .i64 p.tos, .int .i64 p.id, .int .i64 p.ttl, .int .i64 p.proto, .bool p.df, .bool p.mf, .int .i64 p.off, .string p.src, .string p.dst, .string p.opt, .slice A n c] (0, 0) _ (K6.out) Tryd.underlying32 rfl (by kernel_rfl) ?_)
    refine AC.out.mono ?_
    rintro e7 w7 ⟨rfl, h1⟩
    have FIN := Lib.hid h1
    clear h1 AC
    go_wp2_with fail
    go_ret
    exact ⟨rfl, w6, B6.out, FIN.out⟩
end Go.Proofs.YtnpggkpcadefjaaDoor.Jc11

/- The code's keep, whole. -/
set_option linter.unusedVariables false
set_option maxRecDepth 100000
namespace Go.Proofs.YtnpggkpcadefjaaDoor.Jc12
open Go.RowKit Go.Proofs.YtnpggkpcadefjaaDoor.Sums Go.Proofs.YtnpggkpcadefjaaDoor.Mem Go.Proofs.YtnpggkpcadefjaaDoor.Blk Go.Proofs.YtnpggkpcadefjaaDoor.Pkt Go.Proofs.YtnpggkpcadefjaaDoor.Check Go.Proofs.YtnpggkpcadefjaaDoor.JoiM Go.Proofs.YtnpggkpcadefjaaDoor.JoiC Go.Proofs.YtnpggkpcadefjaaDoor.RowN Go.Proofs.YtnpggkpcadefjaaDoor.SplP Go.Proofs.YtnpggkpcadefjaaDoor.Spl5 Go.Proofs.YtnpggkpcadefjaaDoor.JcP Go.Proofs.YtnpggkpcadefjaaDoor.MapK Go.Proofs.YtnpggkpcadefjaaDoor.MapL Go.Proofs.YtnpggkpcadefjaaDoor.JoiC2 Go.Proofs.YtnpggkpcadefjaaDoor.Jc1 Go.Proofs.YtnpggkpcadefjaaDoor.Jc3 Go.Proofs.YtnpggkpcadefjaaDoor.Cat Go.Proofs.YtnpggkpcadefjaaDoor.Jc4 Go.Proofs.YtnpggkpcadefjaaDoor.Jc5 Go.Proofs.YtnpggkpcadefjaaDoor.Jc6 Go.Proofs.YtnpggkpcadefjaaDoor.Jc8 Go.Proofs.YtnpggkpcadefjaaDoor.Jc9 Go.Proofs.YtnpggkpcadefjaaDoor.Jc10 Go.Proofs.YtnpggkpcadefjaaDoor.Jc11

theorem cat_keep {F : Nat → Prop} {w w' V : World} {g gm oc : Nat} {OA : Option Addr} {T : Nat → Nat} {ms : List ME} (h : CatM F w g gm OA oc T ms) (hb : Below w.heap.size w V) (hk : Keep (fun k => k ≠ g ∧ k ≠ gm ∧ ¬ own OA k) V w') : Keep F w w' :=
  (Keep.of hb).trans (hk.mono fun k fk _ => ⟨fun z => h.ng (z ▸ fk), fun z => h.nm (z ▸ fk), fun o => h.no k o fk⟩)
theorem keep_c (F : Nat → Prop) (g : Nat) (cs : List CEnt) (now : Int) (p : Pkt) (A : Option Addr) (n c : Nat) (l : List Int) (w : World) (h : CAt F w g cs) (hF : ∀ k, F k → k < w.heap.size) (hs : ∀ e ∈ cs, Srt e.2.2) (hp : Holds w w.heap.size A n c l) (hA : ∀ b o, 0 < n → A = some ⟨b, o, none⟩ → F b) (fx : FOk (p, l)) (hn : n ≤ 1048576) (hnow : -1099511627776 ≤ now ∧ now ≤ 1099511627776) :
    Calls Tryd.prog 27 #[.pointer (some ⟨g, 0, none⟩), .int .i64 now, val p (.slice A n c)] w fun er w' => er = .returned (.int .i64 (keepC now (p, l) cs).1) ∧ CAt F w' g (keepC now (p, l) cs).2 ∧ Keep F w w' := by
  obtain ⟨gm, OA, oc, T, ms, hc, rfl⟩ := h
  unfold keepC
  rw [at_ce]
  cases ha : ms.findIdx? (fun e => decide (e.nm = nmOf (p, l).1)) with
  | none =>
    have hx : ms.findIdx? (fun e => decide (e.nm = nmOf p)) = none := ha
    dsimp only
    rw [List.length_map]
    by_cases r : 16 ≤ ms.length
    · rw [if_pos r]
      exact (keep_new F g gm OA oc _ T ms now p A n c l _ rfl w hc rfl hp hx 7 (fun V w' => Below V.heap.size V w') fun V hV hC hh => start_no g gm _ oc OA now p A n c V hC.blk r).mono fun er w' ⟨h1, V, h2, h3⟩ => ⟨h1, ⟨gm, OA, oc, T, ms, (hc.below h2).below h3, rfl⟩, Keep.of (h2.trans (h3.mono h2.size))⟩
    · rw [if_neg r]
      refine (keep_new F g gm OA oc _ T ms now p A n c l _ rfl w hc rfl hp hx 0 (fun V w' => StartR F g gm OA T ms now (nmOf p) (bareF (p, l)) V w') fun V hV hC hh => start_c F g gm OA oc _ T ms now p A n c l V hC (fun k hk => Nat.lt_of_lt_of_le (hF k hk) hV.size) rfl (by omega) hx hh (bare_ok fx) (texts_ok fx) hn hnow).mono fun er w' ⟨h1, V, h2, ⟨⟨OA', oc', T', e, h3, h4⟩, h5⟩⟩ => ⟨h1, ⟨gm, OA', oc', T', ms ++ [e], h3, by rw [List.map_append, List.map_singleton, h4]⟩, cat_keep hc h2 h5⟩
  | some i =>
    have hx : ms.findIdx? (fun e => decide (e.nm = nmOf p)) = some i := ha
    obtain ⟨ilt, h2, _⟩ := List.findIdx?_eq_some_iff_getElem.1 hx
    obtain ⟨e, hi⟩ : ∃ e, ms[i]? = some e := ⟨_, List.getElem?_eq_getElem ilt⟩
    have hci : (ms.map ME.ce)[i]? = some e.ce := by rw [List.getElem?_map, hi]; rfl
    simp only [hci]
    have hse : Srt (e.zs.map (·.1)) := hs e.ce (List.mem_map.2 ⟨e, List.mem_of_getElem? hi, rfl⟩)
    have e1 : e.ce.2.2.any (fun x => twinB x (p, l)) = e.zs.any (fun z => twinB z.1 (p, l)) := any_ce e.zs _
    have e2 : e.ce.2.2.any (fun x => badB x (p, l)) = e.zs.any (fun z => badB z.1 (p, l)) := any_ce e.zs _
    have e3 : e.ce.2.2.length = e.zs.length := List.length_map _
    rw [e1, e2, e3]
    cases t1 : e.zs.any (fun z => twinB z.1 (p, l)) with
    | true =>
      rw [if_pos rfl]
      exact (keep_twin F g gm OA oc _ T ms now p A n c l _ rfl w hc rfl hp i e hx hi fx hse t1).mono fun er w' ⟨h1, h2⟩ => ⟨h1, ⟨gm, OA, oc, T, ms, hc.below h2, rfl⟩, Keep.of h2⟩
    | false =>
      rw [if_neg (by decide)]
      by_cases t2 : 64 ≤ e.zs.length
      · rw [if_pos t2]
        exact (keep_full F g gm OA oc _ T ms now p A n c l _ rfl w hc rfl hp i e hx hi fx hse t1 t2).mono fun er w' ⟨h1, h2⟩ => ⟨h1, ⟨gm, OA, oc, T, ms, hc.below h2, rfl⟩, Keep.of h2⟩
      rw [if_neg t2]
      cases t3 : e.zs.any (fun z => badB z.1 (p, l)) with
      | true =>
        rw [if_pos rfl]
        exact (keep_bad F g gm OA oc _ T ms now p A n c l _ rfl w hc rfl hp i e hx hi fx hse t1 t2 t3).mono fun er w' ⟨h1, V, h2, h3, h4⟩ => ⟨h1, ⟨gm, OA, oc, T, ms.eraseIdx i, h3, JoiC2.erase_map _ _ _⟩, cat_keep hc h2 h4⟩
      | false =>
        rw [if_neg (by decide)]
        refine (keep_add F g gm OA oc _ T ms now p A n c l _ rfl w hc rfl hp i e hx hi fx hse hF hA hn t1 t2 t3).mono fun er w' ⟨h1, V, h2, ⟨⟨e', T', n1, n2, n3, n4, n5, n6⟩, h3⟩⟩ => ?_
        have EO := hc.ok e (List.mem_of_getElem? hi)
        have ce' : e'.ce = (e.ce.1, e.ce.2.1, insF e.ce.2.2 (bareF (p, l))) := by unfold ME.ce; rw [n1, n2, n4]
        have pm := ins_perm e.ce.2.2 (bareF (p, l))
        have ok' : COk e'.ce := by
          rw [ce']
          refine ⟨fun z => ?_, ?_, fun x hx' => ?_, EO.now⟩
          · have := pm.length_eq
            dsimp only at z
            rw [z] at this
            simp at this
          · have := pm.length_eq
            have := e3
            simp only [List.length_cons] at *
            omega
          · rcases List.mem_cons.1 (pm.mem_iff.1 hx') with rfl | hx'
            · exact bare_ok fx
            · exact EO.each x hx'
        refine ⟨h1, ⟨gm, OA, oc, T', ms.set i e', (hc.below h2).edit hi n1 n3 h3 T' n5 n6 ok', by rw [List.map_set, ce']⟩, (Keep.of h2).trans (h3.mono fun k fk lk => ⟨fun z => ?_, fun o => ?_⟩)⟩
        · exact (hc.at_ hi).nf (z ▸ fk)
        · exact ((hc.at_ hi).row.own k o).1 fk
end Go.Proofs.YtnpggkpcadefjaaDoor.Jc12

/- The code's finish. -/
set_option linter.unusedVariables false
set_option maxRecDepth 100000
namespace Go.Proofs.YtnpggkpcadefjaaDoor.Jc13
open Go.RowKit Go.Proofs.YtnpggkpcadefjaaDoor.Sums Go.Proofs.YtnpggkpcadefjaaDoor.Mem Go.Proofs.YtnpggkpcadefjaaDoor.Blk Go.Proofs.YtnpggkpcadefjaaDoor.Pkt Go.Proofs.YtnpggkpcadefjaaDoor.Check Go.Proofs.YtnpggkpcadefjaaDoor.JoiM Go.Proofs.YtnpggkpcadefjaaDoor.JoiC Go.Proofs.YtnpggkpcadefjaaDoor.RowN Go.Proofs.YtnpggkpcadefjaaDoor.RowA Go.Proofs.YtnpggkpcadefjaaDoor.SplP Go.Proofs.YtnpggkpcadefjaaDoor.Spl1 Go.Proofs.YtnpggkpcadefjaaDoor.Spl5 Go.Proofs.YtnpggkpcadefjaaDoor.JcP Go.Proofs.YtnpggkpcadefjaaDoor.MapK Go.Proofs.YtnpggkpcadefjaaDoor.MapL Go.Proofs.YtnpggkpcadefjaaDoor.Free Go.Proofs.YtnpggkpcadefjaaDoor.Steps Go.Proofs.YtnpggkpcadefjaaDoor.JoiC2 Go.Proofs.YtnpggkpcadefjaaDoor.Jc1 Go.Proofs.YtnpggkpcadefjaaDoor.Jc2 Go.Proofs.YtnpggkpcadefjaaDoor.Jc3 Go.Proofs.YtnpggkpcadefjaaDoor.Cat Go.Proofs.YtnpggkpcadefjaaDoor.Jc4 Go.Proofs.YtnpggkpcadefjaaDoor.Jc5 Go.Proofs.YtnpggkpcadefjaaDoor.Jc6 Go.Proofs.YtnpggkpcadefjaaDoor.Jc7 Go.Proofs.YtnpggkpcadefjaaDoor.Jc8 Go.Proofs.YtnpggkpcadefjaaDoor.Jc9 Go.Proofs.YtnpggkpcadefjaaDoor.Jc10 Go.Proofs.YtnpggkpcadefjaaDoor.Jc11 Go.Proofs.YtnpggkpcadefjaaDoor.Jc12 Go.Proofs.YtnpggkpcadefjaaDoor.Errno Go.Proofs.YtnpggkpcadefjaaDoor.JoiP

theorem results_triple {fn : Func} {p q s : Tmp} {ty : TypeId} (h : fn.results = #[.cell p ty, .tmp q, .tmp s]) (tmps : Array Value) (w : World) (g : Nat) (t : TypeId) (cs : Array Value) (fr : Nat × Nat) (d : TypeDesc) (v u : Value)
    (hp : tmps.getD p undef = .pointer (some ⟨g, 0, none⟩)) (hq : tmps.getD q undef = v) (hs : tmps.getD s undef = u) (hg : w.heap[g]? = some (.cells cs t fr))
    (hu : Tryd.prog.underlying ty = some d) (hd : Com.aggB d = true) (hi : (Tryd.prog.info? ty).map (·.size) = some cs.size) :
    (results fn tmps).run Tryd.prog w = .ok (.tuple #[.agg cs, v, u]) w := by
  have hp' : tmps[p]?.getD undef = .pointer (some ⟨g, 0, none⟩) := by simpa using hp
  have hq' : tmps[q]?.getD undef = v := by simpa using hq
  have hs' : tmps[s]?.getD undef = u := by simpa using hs
  have e := run_loadVar_row (P := Tryd.prog) w g t ty cs fr d hg hu (by cases d <;> first | rfl | cases hd) hi
  simp [results, h, hp', hq', hs', asAddr, e]
theorem handle_keep {K : Nat → Prop} {w w' : World} (h : Handle w) (hk : Keep K w w') (h0 : K HB) : Handle w' := by
  unfold Handle at h ⊢
  have lt : HB < w.heap.size := World.block_lt_of_cell? w _ h
  exact (World.cell?_of_block (w := w) (hk.block HB h0 lt)).trans h
theorem put_zero (w : World) (e : Int) : PutR w (none, e) (.returned (.tuple #[.agg #[.int .i64 0, .int .i64 0, .int .i64 0, .int .i64 0, .bool false, .bool false, .int .i64 0, .string ⟨#[]⟩, .string ⟨#[]⟩, .string ⟨#[]⟩, .slice none 0 0], .bool false, .int .i64 e])) := ⟨none, 0, rfl, Holds.nil _ _ _⟩
theorem data_le {ps : List Frag} (hw : wholeC ps = true) (hz : ∀ x ∈ ps, FOk x) : (dataC ps).length ≤ 200000 := by
  unfold wholeC at hw
  rw [Bool.and_eq_true] at hw
  cases e : ps.getLast? with
  | none =>
    rw [List.getLast?_eq_none_iff] at e
    subst e
    simp [dataC]
  | some z =>
    have := cont_len _ _ z hw.1 e
    have fz := hz z (List.mem_of_getLast? e)
    have o1 := fz.o1
    have o2 := fz.len
    unfold endF at this
    omega
set_option maxHeartbeats 4000000 in
theorem fin_no (F : Nat → Prop) (g gm : Nat) (OA : Option Addr) (oc : Nat) (T : Nat → Nat) (ms : List ME) (m : Nm) (i : Nat) (e : ME) (w : World) (h : CatM F w g gm OA oc T ms) (hx : ms.findIdx? (fun e => decide (e.nm = m)) = some i) (hi : ms[i]? = some e) (hw : wholeC (e.zs.map (·.1)) = false)  :
    Calls Tryd.prog 28 #[.pointer (some ⟨g, 0, none⟩), nk m] w fun er w' => er = .returned (.tuple #[.agg #[.int .i64 0, .int .i64 0, .int .i64 0, .int .i64 0, .bool false, .bool false, .int .i64 0, .string ⟨#[]⟩, .string ⟨#[]⟩, .string ⟨#[]⟩, .slice none 0 0], .bool false, .int .i64 0]) ∧ Below w.heap.size w w' := by
  obtain ⟨n0, hn0⟩ : ∃ n0, ms.length = n0 := ⟨_, rfl⟩
  have MN := Lib.hid hn0
  have HC := Lib.hid h
  have NX := Lib.hid (get_some hx hi)
  have IX := Lib.hid hx
  have HI := Lib.hid hi
  have WU := Lib.hid hw
  have EO := h.ok e (List.mem_of_getElem? hi)
  have FZ := Lib.hid (fun (z : Pc) (hz : z ∈ e.zs) => EO.each z.1 (List.mem_map.2 ⟨z, hz, rfl⟩))
  have ZL : Hid (e.zs.length ≤ 64) := Lib.hid (by have := EO.few; simpa [ME.ce] using this)
  have Z0 : Hid (0 < e.zs.length) := Lib.hid (by
    have := EO.some
    rcases Nat.eq_zero_or_pos e.zs.length with q | q
    · exact absurd (by simp [ME.ce, List.eq_nil_of_length_eq_zero q]) this
    · exact q)

  have B0 := ((Below.refl w.heap.size w).alloc (Nat.le_refl _) (.cells #[.string m.src, .string m.dst, .int .i64 m.proto, .int .i64 m.id] 60)).alloc (by simp) (.cells #[.int .i64 0, .int .i64 0, .int .i64 0, .int .i64 0, .bool false, .bool false, .int .i64 0, .string ⟨#[]⟩, .string ⟨#[]⟩, .string ⟨#[]⟩, .slice none 0 0] 32)
  have B1 := Lib.hid B0
  have N1 : Hid (Blk ((w.alloc (.cells #[.string m.src, .string m.dst, .int .i64 m.proto, .int .i64 m.id] 60)).alloc (.cells #[.int .i64 0, .int .i64 0, .int .i64 0, .int .i64 0, .bool false, .bool false, .int .i64 0, .string ⟨#[]⟩, .string ⟨#[]⟩, .string ⟨#[]⟩, .slice none 0 0] 32)) w.heap.size 60 #[.string m.src, .string m.dst, .int .i64 m.proto, .int .i64 m.id]) := Lib.hid (Blk.alloc (Blk.new w 60 #[.string m.src, .string m.dst, .int .i64 m.proto, .int .i64 m.id]) _)
  have J1 : Hid (Blk ((w.alloc (.cells #[.string m.src, .string m.dst, .int .i64 m.proto, .int .i64 m.id] 60)).alloc (.cells #[.int .i64 0, .int .i64 0, .int .i64 0, .int .i64 0, .bool false, .bool false, .int .i64 0, .string ⟨#[]⟩, .string ⟨#[]⟩, .string ⟨#[]⟩, .slice none 0 0] 32)) (w.heap.size + 1) 32 #[.int .i64 0, .int .i64 0, .int .i64 0, .int .i64 0, .bool false, .bool false, .int .i64 0, .string ⟨#[]⟩, .string ⟨#[]⟩, .string ⟨#[]⟩, .slice none 0 0]) := Lib.hid (by
    have := Blk.new (w.alloc (.cells #[.string m.src, .string m.dst, .int .i64 m.proto, .int .i64 m.id] 60)) 32 #[.int .i64 0, .int .i64 0, .int .i64 0, .int .i64 0, .bool false, .bool false, .int .i64 0, .string ⟨#[]⟩, .string ⟨#[]⟩, .string ⟨#[]⟩, .slice none 0 0]
    simpa using this)
  unfold nk
  clear h hn0 hx hi hw EO B0
  go_enter Tryd.func28, Tryd.ntmps28
  go_wp2_with fail
  generalize ((w.alloc (.cells #[.string m.src, .string m.dst, .int .i64 m.proto, .int .i64 m.id] 60)).alloc (.cells #[.int .i64 0, .int .i64 0, .int .i64 0, .int .i64 0, .bool false, .bool false, .int .i64 0, .string ⟨#[]⟩, .string ⟨#[]⟩, .string ⟨#[]⟩, .slice none 0 0] 32)) = w1 at *
  have XN : Hid (∀ V, Below w1.drew.heap.size w1.drew V → Blk V w.heap.size 60 #[.string m.src, .string m.dst, .int .i64 m.proto, .int .i64 m.id]) := Lib.hid fun V hV => Blk.below (show Blk w1.drew w.heap.size NT _ from N1.out) hV (Blk.lt N1.out)
  have XG : Hid (∀ V, Below w1.drew.heap.size w1.drew V → Blk V g 57 #[.map (some gm), .slice OA n0 oc]) := Lib.hid fun V hV => by
    have b := B1.out.trans ((Draw.below_1 hV).mono B1.out.size)
    rw [← MN.out]
    exact HC.out.blk.below b HC.out.blk.lt
  have LK : Hid (∀ V, Below w1.drew.heap.size w1.drew V → (Instr.lookup 54 (.map (some gm)) (nk m) false).run Tryd.prog V = .ok (.pointer (some ⟨e.eb, 0, none⟩)) V) := Lib.hid fun V hV => by
    have b := B1.out.trans ((Draw.below_1 hV).mono B1.out.size)
    have := run_lookup1 (P := Tryd.prog) (ev := ev) key_law Tryd.underlying54 (HC.out.map.below b HC.out.map.lt) (.pointer none) (zero_ptr V) m
    rw [NX.out] at this
    exact this
  refine wp_region_free [0, 1, 2, 3, 4, 5] 6 [] (fun w1 w2 => Below w1.heap.size w1 w2) (fun k' w' v => match k' with
      | 0 => v = .pointer (some ⟨g, 0, none⟩)
      | 1 => v = .pointer (some ⟨g, 0, none⟩)
      | 2 => v = .pointer (some ⟨g, 0, none⟩)
      | 3 => v = .map (some gm)
      | 4 => v = .agg #[.string m.src, .string m.dst, .int .i64 m.proto, .int .i64 m.id]
      | _ => v = .pointer (some ⟨e.eb, 0, none⟩)) (by kernel_rfl) (by kernel_rfl) (Below.refl _ _) (fun _ _ _ h k => h.trans (k.mono h.size)) (fun k' w1 w2 v h => match k' with
      | 0 => fun x => x
      | 1 => fun x => x
      | 2 => fun x => x
      | 3 => fun x => x
      | 4 => fun x => x
      | _ + 5 => fun x => x) (fun _ _ _ _ _ h => h) ?_ _ (by rfl) ?_
  · refine obs_cons (by rfl) (fun vals w' hgr hdep K hK => ?_) (obs_cons (by rfl) (fun vals w' hgr hdep K hK => ?_) (obs_cons (by rfl) (fun vals w' hgr hdep K hK => ?_) (obs_cons (by rfl) (fun vals w' hgr hdep K hK => ?_) (obs_cons (by rfl) (fun vals w' hgr hdep K hK => ?_) (obs_cons (by rfl) (fun vals w' hgr hdep K hK => ?_) (obs_nil))))))
    · exact wp_move (.tmp 0) rfl _ (at_out _ (by kernel_rfl) rfl) (hK _ _ (Below.refl _ _) rfl)
    · exact MapS.st_nil (.tmp 9) rfl _ ((at_dst 0 (by kernel_rfl)).trans (hdep 0 (by simp) (by kernel_rfl))) (hK _ _ (Below.refl _ _) rfl)
    · exact wp_field (.tmp 10) rfl _ _ ((at_dst 1 (by kernel_rfl)).trans (hdep 1 (by simp) (by kernel_rfl))) (by kernel_rfl) (hK _ _ (Below.refl _ _) rfl)
    · exact wp_load1 (.tmp 11) rfl ⟨g, 0, none⟩ ((at_dst 2 (by kernel_rfl)).trans (hdep 2 (by simp) (by kernel_rfl))) Tryd.underlying54 rfl _ ((XG.out w' hgr).cell 0) (hK _ _ (Below.refl _ _) rfl)
    · exact st_load_row 60 (.tmp 3) rfl w.heap.size (at_out _ (by kernel_rfl) rfl) 60 #[.string m.src, .string m.dst, .int .i64 m.proto, .int .i64 m.id] (0, 0) _ (XN.out w' hgr) Tryd.underlying60 rfl (by kernel_rfl) (hK _ _ (Below.refl _ _) rfl)
    · exact MapL.st_lookup1 54 (.tmp 12) (.tmp 13) rfl (.map (some gm)) (nk m) (.pointer (some ⟨e.eb, 0, none⟩)) ((at_dst 3 (by kernel_rfl)).trans (hdep 3 (by simp) (by kernel_rfl))) ((at_dst 4 (by kernel_rfl)).trans (hdep 4 (by simp) (by kernel_rfl))) (LK.out w' hgr) (hK _ _ (Below.refl _ _) rfl)
  · intro vals w' hgr hG
    refine st_assign (.tmp 14) _ rfl ((at_dst 5 (by kernel_rfl)).trans (hG 5 (by simp))) (wpAnyH_done (by kernel_rfl) ?_ _)
    have B2 := Lib.hid (B1.out.trans ((Draw.below_1 hgr).mono B1.out.size))
    have N2 := Lib.hid (XN.out w' hgr)
    have J2 := Lib.hid (J1.out.below (Draw.below_1 hgr) J1.out.lt)
    clear hG hgr XG XN LK J1 B1 N1
    simp only [fill, dstAt, List.getElem?_cons_zero, List.getElem?_cons_succ, Option.bind_some, Act.put, List.setIfInBounds_toArray, List.set_cons_zero, List.set_cons_succ]
    generalize vals 0 = y0, vals 1 = y1, vals 2 = y2, vals 3 = y3, vals 4 = y4, vals 5 = y5 at *
    generalize w' = w2 at *
    have E2 := (HC.out.below B2.out).at_ HI.out
    have WC := Lib.hid (whole_c e.eb e.since e.PA e.pc e.zs w2 E2.blk (Jc4.RAt.pr E2.row) Z0.out ZL.out FZ.out)
    rw [WU.out] at WC
    clear E2
    go_wp2_with fail
    refine WC.out.mono ?_
    rintro e3 w3 ⟨rfl, hb⟩
    have B3 := Lib.hid (B2.out.trans (hb.mono B2.out.size))
    have N3 := Lib.hid (N2.out.below hb N2.out.lt)
    have J3 := Lib.hid (J2.out.below hb J2.out.lt)
    have oneZ : Hid ((#[.int .i64 0, .int .i64 0, .int .i64 0, .int .i64 0, .bool false, .bool false, .int .i64 0, .string ⟨#[]⟩, .string ⟨#[]⟩, .string ⟨#[]⟩, .slice none 0 0] : Array Value).all (·.oneCell') = true) := Lib.hid (by simp [Value.oneCell'])
    clear hb WC B2 N2 J2
    go_wp2_with (refine Store.at_store 32 (.tmp 4) (.tmp 18) ?_ ?_; exact rfl; refine wpList_store_row rfl 32 (.tmp 4) (.tmp 18) rfl (w.heap.size + 1) #[.int .i64 0, .int .i64 0, .int .i64 0, .int .i64 0, .bool false, .bool false, .int .i64 0, .string ⟨#[]⟩, .string ⟨#[]⟩, .string ⟨#[]⟩, .slice none 0 0] rfl rfl 32 _ (J3.out) (by kernel_rfl) rfl (oneZ.out) ?_)
    exact bodyPost_ret (results_triple rfl _ _ (w.heap.size + 1) 32 #[.int .i64 0, .int .i64 0, .int .i64 0, .int .i64 0, .bool false, .bool false, .int .i64 0, .string ⟨#[]⟩, .string ⟨#[]⟩, .string ⟨#[]⟩, .slice none 0 0] (0, 0) _ _ _ rfl rfl rfl (setRow_heap _ _ _ _ _ _ J3.out) Tryd.underlying32 rfl (by kernel_rfl)) rfl ⟨rfl, Com.setRow_bel B3.out (by omega) _⟩
set_option maxHeartbeats 4000000 in
theorem fin_long (F : Nat → Prop) (g gm : Nat) (OA : Option Addr) (oc : Nat) (T : Nat → Nat) (ms : List ME) (m : Nm) (i : Nat) (e : ME) (w : World) (h : CatM F w g gm OA oc T ms) (hx : ms.findIdx? (fun e => decide (e.nm = m)) = some i) (hi : ms[i]? = some e) (hw : wholeC (e.zs.map (·.1)) = true) (hg : Handle w) (hH : F HB) (q : Pkt) (dl : List Int) (hq : packC (e.zs.map (·.1)) = (q, dl)) (hdl : dl.length ≤ 200000) (k : Int) (hk : q.chk dl.length = k) (hk0 : k ≠ 0) (hF : ∀ k, F k → k < w.heap.size) :
    Calls Tryd.prog 28 #[.pointer (some ⟨g, 0, none⟩), nk m] w fun er w' => PutR w' (none, 2) er ∧ CatM F w' g gm OA oc T (ms.eraseIdx i) ∧ Keep F w w' := by
  obtain ⟨n0, hn0⟩ : ∃ n0, ms.length = n0 := ⟨_, rfl⟩
  have MN := Lib.hid hn0
  have HC := Lib.hid h
  have NX := Lib.hid (get_some hx hi)
  have IX := Lib.hid hx
  have HI := Lib.hid hi
  have WU := Lib.hid hw
  have EO := h.ok e (List.mem_of_getElem? hi)
  have FZ := Lib.hid (fun (z : Pc) (hz : z ∈ e.zs) => EO.each z.1 (List.mem_map.2 ⟨z, hz, rfl⟩))
  have ZL : Hid (e.zs.length ≤ 64) := Lib.hid (by have := EO.few; simpa [ME.ce] using this)
  have Z0 : Hid (0 < e.zs.length) := Lib.hid (by
    have := EO.some
    rcases Nat.eq_zero_or_pos e.zs.length with q | q
    · exact absurd (by simp [ME.ce, List.eq_nil_of_length_eq_zero q]) this
    · exact q)
  have HG := Lib.hid hg
  have FH := Lib.hid hH
  have QE := Lib.hid hq
  have QC := Lib.hid hk
  have TD : Hid ((dataC (e.zs.map (·.1))).length ≤ 200000) := Lib.hid (data_le hw fun x hx => EO.each x hx)
  have QO : Hid (q.opt.size ≤ 1048576 ∧ dl.length ≤ 200000) := Lib.hid (by
    refine ⟨?_, hdl⟩
    cases e1 : e.zs.map (·.1) with
    | nil =>
      rw [e1] at hq
      have : q = Pkt.zero := by injection hq with h1 _; exact h1.symm
      rw [this]
      decide
    | cons y t =>
      rw [e1] at hq
      have : q = { y.1 with mf := false } := by injection hq with h1 _; exact h1.symm
      rw [this]
      have := (EO.each y (by show y ∈ e.zs.map (·.1); rw [e1]; exact List.mem_cons_self)).txt.2.2
      show y.1.opt.size ≤ 1048576
      omega)
  clear hg hH hq hk hdl
  have HF := Lib.hid hF
  clear hF
  have g9 : (k != 0) = true := by simpa using hk0
  clear hk0
  have B0 := ((Below.refl w.heap.size w).alloc (Nat.le_refl _) (.cells #[.string m.src, .string m.dst, .int .i64 m.proto, .int .i64 m.id] 60)).alloc (by simp) (.cells #[.int .i64 0, .int .i64 0, .int .i64 0, .int .i64 0, .bool false, .bool false, .int .i64 0, .string ⟨#[]⟩, .string ⟨#[]⟩, .string ⟨#[]⟩, .slice none 0 0] 32)
  have B1 := Lib.hid B0
  have N1 : Hid (Blk ((w.alloc (.cells #[.string m.src, .string m.dst, .int .i64 m.proto, .int .i64 m.id] 60)).alloc (.cells #[.int .i64 0, .int .i64 0, .int .i64 0, .int .i64 0, .bool false, .bool false, .int .i64 0, .string ⟨#[]⟩, .string ⟨#[]⟩, .string ⟨#[]⟩, .slice none 0 0] 32)) w.heap.size 60 #[.string m.src, .string m.dst, .int .i64 m.proto, .int .i64 m.id]) := Lib.hid (Blk.alloc (Blk.new w 60 #[.string m.src, .string m.dst, .int .i64 m.proto, .int .i64 m.id]) _)
  have J1 : Hid (Blk ((w.alloc (.cells #[.string m.src, .string m.dst, .int .i64 m.proto, .int .i64 m.id] 60)).alloc (.cells #[.int .i64 0, .int .i64 0, .int .i64 0, .int .i64 0, .bool false, .bool false, .int .i64 0, .string ⟨#[]⟩, .string ⟨#[]⟩, .string ⟨#[]⟩, .slice none 0 0] 32)) (w.heap.size + 1) 32 #[.int .i64 0, .int .i64 0, .int .i64 0, .int .i64 0, .bool false, .bool false, .int .i64 0, .string ⟨#[]⟩, .string ⟨#[]⟩, .string ⟨#[]⟩, .slice none 0 0]) := Lib.hid (by
    have := Blk.new (w.alloc (.cells #[.string m.src, .string m.dst, .int .i64 m.proto, .int .i64 m.id] 60)) 32 #[.int .i64 0, .int .i64 0, .int .i64 0, .int .i64 0, .bool false, .bool false, .int .i64 0, .string ⟨#[]⟩, .string ⟨#[]⟩, .string ⟨#[]⟩, .slice none 0 0]
    simpa using this)
  unfold nk
  clear h hn0 hx hi hw EO B0
  go_enter Tryd.func28, Tryd.ntmps28
  go_wp2_with fail
  generalize ((w.alloc (.cells #[.string m.src, .string m.dst, .int .i64 m.proto, .int .i64 m.id] 60)).alloc (.cells #[.int .i64 0, .int .i64 0, .int .i64 0, .int .i64 0, .bool false, .bool false, .int .i64 0, .string ⟨#[]⟩, .string ⟨#[]⟩, .string ⟨#[]⟩, .slice none 0 0] 32)) = w1 at *
  have XN : Hid (∀ V, Below w1.drew.heap.size w1.drew V → Blk V w.heap.size 60 #[.string m.src, .string m.dst, .int .i64 m.proto, .int .i64 m.id]) := Lib.hid fun V hV => Blk.below (show Blk w1.drew w.heap.size NT _ from N1.out) hV (Blk.lt N1.out)
  have XG : Hid (∀ V, Below w1.drew.heap.size w1.drew V → Blk V g 57 #[.map (some gm), .slice OA n0 oc]) := Lib.hid fun V hV => by
    have b := B1.out.trans ((Draw.below_1 hV).mono B1.out.size)
    rw [← MN.out]
    exact HC.out.blk.below b HC.out.blk.lt
  have LK : Hid (∀ V, Below w1.drew.heap.size w1.drew V → (Instr.lookup 54 (.map (some gm)) (nk m) false).run Tryd.prog V = .ok (.pointer (some ⟨e.eb, 0, none⟩)) V) := Lib.hid fun V hV => by
    have b := B1.out.trans ((Draw.below_1 hV).mono B1.out.size)
    have := run_lookup1 (P := Tryd.prog) (ev := ev) key_law Tryd.underlying54 (HC.out.map.below b HC.out.map.lt) (.pointer none) (zero_ptr V) m
    rw [NX.out] at this
    exact this
  refine wp_region_free [0, 1, 2, 3, 4, 5] 6 [] (fun w1 w2 => Below w1.heap.size w1 w2) (fun k' w' v => match k' with
      | 0 => v = .pointer (some ⟨g, 0, none⟩)
      | 1 => v = .pointer (some ⟨g, 0, none⟩)
      | 2 => v = .pointer (some ⟨g, 0, none⟩)
      | 3 => v = .map (some gm)
      | 4 => v = .agg #[.string m.src, .string m.dst, .int .i64 m.proto, .int .i64 m.id]
      | _ => v = .pointer (some ⟨e.eb, 0, none⟩)) (by kernel_rfl) (by kernel_rfl) (Below.refl _ _) (fun _ _ _ h k => h.trans (k.mono h.size)) (fun k' w1 w2 v h => match k' with
      | 0 => fun x => x
      | 1 => fun x => x
      | 2 => fun x => x
      | 3 => fun x => x
      | 4 => fun x => x
      | _ + 5 => fun x => x) (fun _ _ _ _ _ h => h) ?_ _ (by rfl) ?_
  · refine obs_cons (by rfl) (fun vals w' hgr hdep K hK => ?_) (obs_cons (by rfl) (fun vals w' hgr hdep K hK => ?_) (obs_cons (by rfl) (fun vals w' hgr hdep K hK => ?_) (obs_cons (by rfl) (fun vals w' hgr hdep K hK => ?_) (obs_cons (by rfl) (fun vals w' hgr hdep K hK => ?_) (obs_cons (by rfl) (fun vals w' hgr hdep K hK => ?_) (obs_nil))))))
    · exact wp_move (.tmp 0) rfl _ (at_out _ (by kernel_rfl) rfl) (hK _ _ (Below.refl _ _) rfl)
    · exact MapS.st_nil (.tmp 9) rfl _ ((at_dst 0 (by kernel_rfl)).trans (hdep 0 (by simp) (by kernel_rfl))) (hK _ _ (Below.refl _ _) rfl)
    · exact wp_field (.tmp 10) rfl _ _ ((at_dst 1 (by kernel_rfl)).trans (hdep 1 (by simp) (by kernel_rfl))) (by kernel_rfl) (hK _ _ (Below.refl _ _) rfl)
    · exact wp_load1 (.tmp 11) rfl ⟨g, 0, none⟩ ((at_dst 2 (by kernel_rfl)).trans (hdep 2 (by simp) (by kernel_rfl))) Tryd.underlying54 rfl _ ((XG.out w' hgr).cell 0) (hK _ _ (Below.refl _ _) rfl)
    · exact st_load_row 60 (.tmp 3) rfl w.heap.size (at_out _ (by kernel_rfl) rfl) 60 #[.string m.src, .string m.dst, .int .i64 m.proto, .int .i64 m.id] (0, 0) _ (XN.out w' hgr) Tryd.underlying60 rfl (by kernel_rfl) (hK _ _ (Below.refl _ _) rfl)
    · exact MapL.st_lookup1 54 (.tmp 12) (.tmp 13) rfl (.map (some gm)) (nk m) (.pointer (some ⟨e.eb, 0, none⟩)) ((at_dst 3 (by kernel_rfl)).trans (hdep 3 (by simp) (by kernel_rfl))) ((at_dst 4 (by kernel_rfl)).trans (hdep 4 (by simp) (by kernel_rfl))) (LK.out w' hgr) (hK _ _ (Below.refl _ _) rfl)
  · intro vals w' hgr hG
    refine st_assign (.tmp 14) _ rfl ((at_dst 5 (by kernel_rfl)).trans (hG 5 (by simp))) (wpAnyH_done (by kernel_rfl) ?_ _)
    have B2 := Lib.hid (B1.out.trans ((Draw.below_1 hgr).mono B1.out.size))
    have N2 := Lib.hid (XN.out w' hgr)
    have J2 := Lib.hid (J1.out.below (Draw.below_1 hgr) J1.out.lt)
    clear hG hgr XG XN LK J1 B1 N1
    simp only [fill, dstAt, List.getElem?_cons_zero, List.getElem?_cons_succ, Option.bind_some, Act.put, List.setIfInBounds_toArray, List.set_cons_zero, List.set_cons_succ]
    generalize vals 0 = y0, vals 1 = y1, vals 2 = y2, vals 3 = y3, vals 4 = y4, vals 5 = y5 at *
    generalize w' = w2 at *
    have E2 := (HC.out.below B2.out).at_ HI.out
    have WC := Lib.hid (whole_c e.eb e.since e.PA e.pc e.zs w2 E2.blk (Jc4.RAt.pr E2.row) Z0.out ZL.out FZ.out)
    rw [WU.out] at WC
    clear E2
    go_wp2_with fail
    refine WC.out.mono ?_
    rintro e3 w3 ⟨rfl, hb⟩
    have B3 := Lib.hid (B2.out.trans (hb.mono B2.out.size))
    have N3 := Lib.hid (N2.out.below hb N2.out.lt)
    have J3 := Lib.hid (J2.out.below hb J2.out.lt)
    have oneZ : Hid ((#[.int .i64 0, .int .i64 0, .int .i64 0, .int .i64 0, .bool false, .bool false, .int .i64 0, .string ⟨#[]⟩, .string ⟨#[]⟩, .string ⟨#[]⟩, .slice none 0 0] : Array Value).all (·.oneCell') = true) := Lib.hid (by simp [Value.oneCell'])
    clear hb WC B2 N2 J2
    have C3 := HC.out.below B3.out
    have DC := Lib.hid (drop_c F g gm OA oc T ms m i w3 C3 IX.out)
    unfold nk at DC
    go_wp2_with (refine Store.at_load 60 (.tmp 3) ?_ ?_; exact rfl; refine Loads.wpList_load_w rfl 60 (.tmp 3) rfl w.heap.size rfl 60 #[.string m.src, .string m.dst, .int .i64 m.proto, .int .i64 m.id] (0, 0) _ (N3.out) Tryd.underlying60 rfl (by kernel_rfl) ?_)
    refine DC.out.mono ?_
    rintro e4 w4 ⟨rfl, h1, h2⟩
    have E4 := (C3.at_ HI.out).stay (w' := w4) fun k hf hK => h2.block k (C3.kin hK) (by
      obtain ⟨X, t, fz, hX, _⟩ := hK
      exact (Array.getElem?_eq_some_iff.1 hX).1)
    have far : ∀ k, w.heap.size ≤ k → k ≠ g ∧ k ≠ gm ∧ ¬ own OA k := fun k hk => ⟨fun z => by have := HC.out.blk.lt; omega, fun z => by have := HC.out.map.lt; omega, fun z => by have := HC.out.ord.lt z; omega⟩
    have J4 : Blk w4 (w.heap.size + 1) PT #[.int .i64 0, .int .i64 0, .int .i64 0, .int .i64 0, .bool false, .bool false, .int .i64 0, .string ⟨#[]⟩, .string ⟨#[]⟩, .string ⟨#[]⟩, .slice none 0 0] := (h2.block _ (far _ (by omega)) J3.out.lt).trans J3.out
    have K4 : Keep F w w4 := cat_keep HC.out B3.out h2
    have s4 := h2.size
    have s3 := B3.out.size
    have PK := Lib.hid (packet_c e.eb e.since e.PA e.pc e.zs w4 E4.blk (Jc4.RAt.pr E4.row) Z0.out ZL.out FZ.out TD.out)
    have H4 := Lib.hid (handle_keep HG.out K4 FH.out)
    have C4 := Lib.hid h1
    have KK4 := Lib.hid K4
    have JJ4 := Lib.hid J4
    have S4 := Lib.hid (show w.heap.size + 1 < w4.heap.size from J4.lt)
    rw [QE.out] at PK
    clear h1 h2 C3 E4 far J4 K4 s4 s3 DC J3 B3 N3
    unfold val at PK
    go_wp2_with fail
    refine PK.out.mono ?_
    rintro e5 w5 ⟨⟨A, c, rfl, ho⟩, hb⟩
    have J5 := JJ4.out.below hb JJ4.out.lt
    have S0 := Blk.new w5 32 #[.int .i64 0, .int .i64 0, .int .i64 0, .int .i64 0, .bool false, .bool false, .int .i64 0, .string ⟨#[]⟩, .string ⟨#[]⟩, .string ⟨#[]⟩, .slice none 0 0]
    have one5 : (#[.int .i64 q.tos, .int .i64 q.id, .int .i64 q.ttl, .int .i64 q.proto, .bool q.df, .bool q.mf, .int .i64 q.off, .string q.src, .string q.dst, .string q.opt, .slice A dl.length c] : Array Value).all (·.oneCell') = true := by simp [Value.oneCell']
    have RS := Lib.hid (run_storeVar_row (P := Tryd.prog) (w5.alloc (.cells #[.int .i64 0, .int .i64 0, .int .i64 0, .int .i64 0, .bool false, .bool false, .int .i64 0, .string ⟨#[]⟩, .string ⟨#[]⟩, .string ⟨#[]⟩, .slice none 0 0] 32)) w5.heap.size 32 32 #[.int .i64 0, .int .i64 0, .int .i64 0, .int .i64 0, .bool false, .bool false, .int .i64 0, .string ⟨#[]⟩, .string ⟨#[]⟩, .string ⟨#[]⟩, .slice none 0 0] #[.int .i64 q.tos, .int .i64 q.id, .int .i64 q.ttl, .int .i64 q.proto, .bool q.df, .bool q.mf, .int .i64 q.off, .string q.src, .string q.dst, .string q.opt, .slice A dl.length c] S0 (by kernel_rfl) rfl one5)
    have ON := Lib.hid one5
    obtain ⟨w6, hw6⟩ : ∃ w6, w6 = (w5.alloc (.cells #[.int .i64 0, .int .i64 0, .int .i64 0, .int .i64 0, .bool false, .bool false, .int .i64 0, .string ⟨#[]⟩, .string ⟨#[]⟩, .string ⟨#[]⟩, .slice none 0 0] 32)).setRow w5.heap.size #[.int .i64 q.tos, .int .i64 q.id, .int .i64 q.ttl, .int .i64 q.proto, .bool q.df, .bool q.mf, .int .i64 q.off, .string q.src, .string q.dst, .string q.opt, .slice A dl.length c] := ⟨_, rfl⟩
    rw [← hw6] at RS
    have ba : Below w5.heap.size w5 w6 := by rw [hw6]; exact Com.setRow_bel ((Below.refl _ _).alloc (Nat.le_refl _) _) (Nat.le_refl _) _
    have Q6 := Lib.hid (show Blk w6 w5.heap.size 32 #[.int .i64 q.tos, .int .i64 q.id, .int .i64 q.ttl, .int .i64 q.proto, .bool q.df, .bool q.mf, .int .i64 q.off, .string q.src, .string q.dst, .string q.opt, .slice A dl.length c] from by rw [hw6]; exact setRow_heap _ _ _ _ _ _ S0)
    have J6 := Lib.hid (J5.below ba J5.lt)
    have O6 := Lib.hid (ho.below ba (Nat.le_refl _))
    have B6 := Lib.hid (hb.trans (ba.mono hb.size))
    have H6 := H4.out.keep B6.out
    have CK := Lib.hid (check_code q A dl.length c w6 H6 QO.out.1 (by have := QO.out.2; omega))
    rw [QC.out] at CK
    clear hb ho J5 S0 one5 hw6 ba H6 PK JJ4 H4
    obtain ⟨qb, hqb⟩ : ∃ qb, w5.heap.size = qb := ⟨_, rfl⟩
    have QB := Lib.hid hqb
    rw [hqb] at Q6
    clear hqb
    unfold val at CK
    go_wp2_with (first | (refine Store.at_store 32 (.tmp 8) (.tmp 23) ?_ ?_; exact rfl; refine JcP.wpList_store_run rfl 32 (.tmp 8) (.tmp 23) rfl ⟨w5.heap.size, 0, none⟩ (.agg #[.int .i64 q.tos, .int .i64 q.id, .int .i64 q.ttl, .int .i64 q.proto, .bool q.df, .bool q.mf, .int .i64 q.off, .string q.src, .string q.dst, .string q.opt, .slice A dl.length c]) rfl rfl RS.out ?_) | (rw [QB.out]; (refine Store.at_load 32 (.tmp 8) ?_ ?_; exact rfl; refine Loads.wpList_load_w rfl 32 (.tmp 8) rfl qb rfl 32 #[.int .i64 q.tos, .int .i64 q.id, .int .i64 q.ttl, .int .i64 q.proto, .bool q.df, .bool q.mf, .int .i64 q.off, .string q.src, .string q.dst, .string q.opt, .slice A dl.length c] (0, 0) _ (Q6.out) Tryd.underlying32 rfl (by kernel_rfl) ?_)) | (refine Store.at_load 32 (.tmp 8) ?_ ?_; exact rfl; refine Loads.wpList_load_w rfl 32 (.tmp 8) rfl w5.heap.size rfl 32 #[.int .i64 q.tos, .int .i64 q.id, .int .i64 q.ttl, .int .i64 q.proto, .bool q.df, .bool q.mf, .int .i64 q.off, .string q.src, .string q.dst, .string q.opt, .slice A dl.length c] (0, 0) _ ((by rw [QB.out]; exact Q6.out)) Tryd.underlying32 rfl (by kernel_rfl) ?_))
    refine CK.out.mono ?_
    rintro e7 w7 ⟨rfl, hb⟩
    have J7 := Lib.hid (J6.out.below hb J6.out.lt)
    have Q7 := Lib.hid (Q6.out.below hb Q6.out.lt)
    have O7 := Lib.hid (O6.out.below hb (Nat.le_refl _))
    have B7 := Lib.hid (B6.out.trans (hb.mono B6.out.size))
    clear hb J6 Q6 O6 B6 CK RS
    have CF : ∀ X, CatM F (w7.setRow (w.heap.size + 1) X) g gm OA oc T (ms.eraseIdx i) ∧ Keep F w (w7.setRow (w.heap.size + 1) X) := fun X => by
      have c7 := C4.out.below B7.out
      have lt7 := B7.out.size
      have s4 := S4.out
      have nF : ¬ F (w.heap.size + 1) := fun z => by have := HF.out _ z; omega
      refine ⟨?_, (KK4.out.trans (Keep.of B7.out)).trans (Keep.row _ _ _ nF)⟩
      refine ⟨(setRow_other _ _ _ _ (by have := HC.out.blk.lt; omega)).trans c7.blk, c7.ng, c7.map.same (setRow_other _ _ _ _ (by have := HC.out.map.lt; omega)), c7.nm, c7.ord.keep fun k o _ => setRow_other _ _ _ _ (by have := HC.out.ord.lt o; omega), c7.no, fun x hx => ?_, c7.nd, c7.ok, c7.few⟩
      have E0 := HC.out.each x (List.mem_of_mem_eraseIdx hx)
      have E7 := c7.each x hx
      have ne : w.heap.size + 1 ≠ x.eb := by have := E0.blk.lt; omega
      refine ⟨(setRow_other _ _ _ _ ne.symm).trans E7.blk, E7.nf, ⟨E7.row.row.keep fun k o _ => setRow_other _ _ _ _ (by have := E0.row.row.lt o; omega), E7.row.own, fun z hz => ⟨owns_stay (E7.row.dat z hz).1 fun k Y fz ok hY => setRow_other _ _ _ _ (by have := dat_lt (E0.row.dat z hz) ok; omega), (E7.row.dat z hz).2⟩⟩⟩
    have CFH := Lib.hid CF
    clear CF
    clear Q7 O7
    go_wp2_with (refine Store.at_store 32 (.tmp 4) (.tmp 27) ?_ ?_; exact rfl; refine wpList_store_row rfl 32 (.tmp 4) (.tmp 27) rfl (w.heap.size + 1) #[.int .i64 0, .int .i64 0, .int .i64 0, .int .i64 0, .bool false, .bool false, .int .i64 0, .string ⟨#[]⟩, .string ⟨#[]⟩, .string ⟨#[]⟩, .slice none 0 0] rfl rfl 32 _ (J7.out) (by kernel_rfl) rfl (oneZ.out) ?_)
    exact bodyPost_ret (results_triple rfl _ _ (w.heap.size + 1) 32 #[.int .i64 0, .int .i64 0, .int .i64 0, .int .i64 0, .bool false, .bool false, .int .i64 0, .string ⟨#[]⟩, .string ⟨#[]⟩, .string ⟨#[]⟩, .slice none 0 0] (0, 0) _ _ _ rfl rfl rfl (setRow_heap _ _ _ _ _ _ J7.out) Tryd.underlying32 rfl (by kernel_rfl)) rfl ⟨put_zero _ _, CFH.out _⟩
set_option maxHeartbeats 4000000 in
theorem fin_yes (F : Nat → Prop) (g gm : Nat) (OA : Option Addr) (oc : Nat) (T : Nat → Nat) (ms : List ME) (m : Nm) (i : Nat) (e : ME) (w : World) (h : CatM F w g gm OA oc T ms) (hx : ms.findIdx? (fun e => decide (e.nm = m)) = some i) (hi : ms[i]? = some e) (hw : wholeC (e.zs.map (·.1)) = true) (hg : Handle w) (hH : F HB) (q : Pkt) (dl : List Int) (hq : packC (e.zs.map (·.1)) = (q, dl)) (hdl : dl.length ≤ 200000) (k : Int) (hk : q.chk dl.length = k) (hk0 : k = 0) (hF : ∀ k, F k → k < w.heap.size) :
    Calls Tryd.prog 28 #[.pointer (some ⟨g, 0, none⟩), nk m] w fun er w' => PutR w' (some (q, dl), 0) er ∧ CatM F w' g gm OA oc T (ms.eraseIdx i) ∧ Keep F w w' := by
  obtain ⟨n0, hn0⟩ : ∃ n0, ms.length = n0 := ⟨_, rfl⟩
  have MN := Lib.hid hn0
  have HC := Lib.hid h
  have NX := Lib.hid (get_some hx hi)
  have IX := Lib.hid hx
  have HI := Lib.hid hi
  have WU := Lib.hid hw
  have EO := h.ok e (List.mem_of_getElem? hi)
  have FZ := Lib.hid (fun (z : Pc) (hz : z ∈ e.zs) => EO.each z.1 (List.mem_map.2 ⟨z, hz, rfl⟩))
  have ZL : Hid (e.zs.length ≤ 64) := Lib.hid (by have := EO.few; simpa [ME.ce] using this)
  have Z0 : Hid (0 < e.zs.length) := Lib.hid (by
    have := EO.some
    rcases Nat.eq_zero_or_pos e.zs.length with q | q
    · exact absurd (by simp [ME.ce, List.eq_nil_of_length_eq_zero q]) this
    · exact q)
  have HG := Lib.hid hg
  have FH := Lib.hid hH
  have QE := Lib.hid hq
  have QC := Lib.hid hk
  have TD : Hid ((dataC (e.zs.map (·.1))).length ≤ 200000) := Lib.hid (data_le hw fun x hx => EO.each x hx)
  have QO : Hid (q.opt.size ≤ 1048576 ∧ dl.length ≤ 200000) := Lib.hid (by
    refine ⟨?_, hdl⟩
    cases e1 : e.zs.map (·.1) with
    | nil =>
      rw [e1] at hq
      have : q = Pkt.zero := by injection hq with h1 _; exact h1.symm
      rw [this]
      decide
    | cons y t =>
      rw [e1] at hq
      have : q = { y.1 with mf := false } := by injection hq with h1 _; exact h1.symm
      rw [this]
      have := (EO.each y (by show y ∈ e.zs.map (·.1); rw [e1]; exact List.mem_cons_self)).txt.2.2
      show y.1.opt.size ≤ 1048576
      omega)
  clear hg hH hq hk hdl
  have HF := Lib.hid hF
  clear hF
  have g9 : ((0 : Int) != 0) = false := rfl
  subst hk0
  have B0 := ((Below.refl w.heap.size w).alloc (Nat.le_refl _) (.cells #[.string m.src, .string m.dst, .int .i64 m.proto, .int .i64 m.id] 60)).alloc (by simp) (.cells #[.int .i64 0, .int .i64 0, .int .i64 0, .int .i64 0, .bool false, .bool false, .int .i64 0, .string ⟨#[]⟩, .string ⟨#[]⟩, .string ⟨#[]⟩, .slice none 0 0] 32)
  have B1 := Lib.hid B0
  have N1 : Hid (Blk ((w.alloc (.cells #[.string m.src, .string m.dst, .int .i64 m.proto, .int .i64 m.id] 60)).alloc (.cells #[.int .i64 0, .int .i64 0, .int .i64 0, .int .i64 0, .bool false, .bool false, .int .i64 0, .string ⟨#[]⟩, .string ⟨#[]⟩, .string ⟨#[]⟩, .slice none 0 0] 32)) w.heap.size 60 #[.string m.src, .string m.dst, .int .i64 m.proto, .int .i64 m.id]) := Lib.hid (Blk.alloc (Blk.new w 60 #[.string m.src, .string m.dst, .int .i64 m.proto, .int .i64 m.id]) _)
  have J1 : Hid (Blk ((w.alloc (.cells #[.string m.src, .string m.dst, .int .i64 m.proto, .int .i64 m.id] 60)).alloc (.cells #[.int .i64 0, .int .i64 0, .int .i64 0, .int .i64 0, .bool false, .bool false, .int .i64 0, .string ⟨#[]⟩, .string ⟨#[]⟩, .string ⟨#[]⟩, .slice none 0 0] 32)) (w.heap.size + 1) 32 #[.int .i64 0, .int .i64 0, .int .i64 0, .int .i64 0, .bool false, .bool false, .int .i64 0, .string ⟨#[]⟩, .string ⟨#[]⟩, .string ⟨#[]⟩, .slice none 0 0]) := Lib.hid (by
    have := Blk.new (w.alloc (.cells #[.string m.src, .string m.dst, .int .i64 m.proto, .int .i64 m.id] 60)) 32 #[.int .i64 0, .int .i64 0, .int .i64 0, .int .i64 0, .bool false, .bool false, .int .i64 0, .string ⟨#[]⟩, .string ⟨#[]⟩, .string ⟨#[]⟩, .slice none 0 0]
    simpa using this)
  unfold nk
  clear h hn0 hx hi hw EO B0
  go_enter Tryd.func28, Tryd.ntmps28
  go_wp2_with fail
  generalize ((w.alloc (.cells #[.string m.src, .string m.dst, .int .i64 m.proto, .int .i64 m.id] 60)).alloc (.cells #[.int .i64 0, .int .i64 0, .int .i64 0, .int .i64 0, .bool false, .bool false, .int .i64 0, .string ⟨#[]⟩, .string ⟨#[]⟩, .string ⟨#[]⟩, .slice none 0 0] 32)) = w1 at *
  have XN : Hid (∀ V, Below w1.drew.heap.size w1.drew V → Blk V w.heap.size 60 #[.string m.src, .string m.dst, .int .i64 m.proto, .int .i64 m.id]) := Lib.hid fun V hV => Blk.below (show Blk w1.drew w.heap.size NT _ from N1.out) hV (Blk.lt N1.out)
  have XG : Hid (∀ V, Below w1.drew.heap.size w1.drew V → Blk V g 57 #[.map (some gm), .slice OA n0 oc]) := Lib.hid fun V hV => by
    have b := B1.out.trans ((Draw.below_1 hV).mono B1.out.size)
    rw [← MN.out]
    exact HC.out.blk.below b HC.out.blk.lt
  have LK : Hid (∀ V, Below w1.drew.heap.size w1.drew V → (Instr.lookup 54 (.map (some gm)) (nk m) false).run Tryd.prog V = .ok (.pointer (some ⟨e.eb, 0, none⟩)) V) := Lib.hid fun V hV => by
    have b := B1.out.trans ((Draw.below_1 hV).mono B1.out.size)
    have := run_lookup1 (P := Tryd.prog) (ev := ev) key_law Tryd.underlying54 (HC.out.map.below b HC.out.map.lt) (.pointer none) (zero_ptr V) m
    rw [NX.out] at this
    exact this
  refine wp_region_free [0, 1, 2, 3, 4, 5] 6 [] (fun w1 w2 => Below w1.heap.size w1 w2) (fun k' w' v => match k' with
      | 0 => v = .pointer (some ⟨g, 0, none⟩)
      | 1 => v = .pointer (some ⟨g, 0, none⟩)
      | 2 => v = .pointer (some ⟨g, 0, none⟩)
      | 3 => v = .map (some gm)
      | 4 => v = .agg #[.string m.src, .string m.dst, .int .i64 m.proto, .int .i64 m.id]
      | _ => v = .pointer (some ⟨e.eb, 0, none⟩)) (by kernel_rfl) (by kernel_rfl) (Below.refl _ _) (fun _ _ _ h k => h.trans (k.mono h.size)) (fun k' w1 w2 v h => match k' with
      | 0 => fun x => x
      | 1 => fun x => x
      | 2 => fun x => x
      | 3 => fun x => x
      | 4 => fun x => x
      | _ + 5 => fun x => x) (fun _ _ _ _ _ h => h) ?_ _ (by rfl) ?_
  · refine obs_cons (by rfl) (fun vals w' hgr hdep K hK => ?_) (obs_cons (by rfl) (fun vals w' hgr hdep K hK => ?_) (obs_cons (by rfl) (fun vals w' hgr hdep K hK => ?_) (obs_cons (by rfl) (fun vals w' hgr hdep K hK => ?_) (obs_cons (by rfl) (fun vals w' hgr hdep K hK => ?_) (obs_cons (by rfl) (fun vals w' hgr hdep K hK => ?_) (obs_nil))))))
    · exact wp_move (.tmp 0) rfl _ (at_out _ (by kernel_rfl) rfl) (hK _ _ (Below.refl _ _) rfl)
    · exact MapS.st_nil (.tmp 9) rfl _ ((at_dst 0 (by kernel_rfl)).trans (hdep 0 (by simp) (by kernel_rfl))) (hK _ _ (Below.refl _ _) rfl)
    · exact wp_field (.tmp 10) rfl _ _ ((at_dst 1 (by kernel_rfl)).trans (hdep 1 (by simp) (by kernel_rfl))) (by kernel_rfl) (hK _ _ (Below.refl _ _) rfl)
    · exact wp_load1 (.tmp 11) rfl ⟨g, 0, none⟩ ((at_dst 2 (by kernel_rfl)).trans (hdep 2 (by simp) (by kernel_rfl))) Tryd.underlying54 rfl _ ((XG.out w' hgr).cell 0) (hK _ _ (Below.refl _ _) rfl)
    · exact st_load_row 60 (.tmp 3) rfl w.heap.size (at_out _ (by kernel_rfl) rfl) 60 #[.string m.src, .string m.dst, .int .i64 m.proto, .int .i64 m.id] (0, 0) _ (XN.out w' hgr) Tryd.underlying60 rfl (by kernel_rfl) (hK _ _ (Below.refl _ _) rfl)
    · exact MapL.st_lookup1 54 (.tmp 12) (.tmp 13) rfl (.map (some gm)) (nk m) (.pointer (some ⟨e.eb, 0, none⟩)) ((at_dst 3 (by kernel_rfl)).trans (hdep 3 (by simp) (by kernel_rfl))) ((at_dst 4 (by kernel_rfl)).trans (hdep 4 (by simp) (by kernel_rfl))) (LK.out w' hgr) (hK _ _ (Below.refl _ _) rfl)
  · intro vals w' hgr hG
    refine st_assign (.tmp 14) _ rfl ((at_dst 5 (by kernel_rfl)).trans (hG 5 (by simp))) (wpAnyH_done (by kernel_rfl) ?_ _)
    have B2 := Lib.hid (B1.out.trans ((Draw.below_1 hgr).mono B1.out.size))
    have N2 := Lib.hid (XN.out w' hgr)
    have J2 := Lib.hid (J1.out.below (Draw.below_1 hgr) J1.out.lt)
    clear hG hgr XG XN LK J1 B1 N1
    simp only [fill, dstAt, List.getElem?_cons_zero, List.getElem?_cons_succ, Option.bind_some, Act.put, List.setIfInBounds_toArray, List.set_cons_zero, List.set_cons_succ]
    generalize vals 0 = y0, vals 1 = y1, vals 2 = y2, vals 3 = y3, vals 4 = y4, vals 5 = y5 at *
    generalize w' = w2 at *
    have E2 := (HC.out.below B2.out).at_ HI.out
    have WC := Lib.hid (whole_c e.eb e.since e.PA e.pc e.zs w2 E2.blk (Jc4.RAt.pr E2.row) Z0.out ZL.out FZ.out)
    rw [WU.out] at WC
    clear E2
    go_wp2_with fail
    refine WC.out.mono ?_
    rintro e3 w3 ⟨rfl, hb⟩
    have B3 := Lib.hid (B2.out.trans (hb.mono B2.out.size))
    have N3 := Lib.hid (N2.out.below hb N2.out.lt)
    have J3 := Lib.hid (J2.out.below hb J2.out.lt)
    have oneZ : Hid ((#[.int .i64 0, .int .i64 0, .int .i64 0, .int .i64 0, .bool false, .bool false, .int .i64 0, .string ⟨#[]⟩, .string ⟨#[]⟩, .string ⟨#[]⟩, .slice none 0 0] : Array Value).all (·.oneCell') = true) := Lib.hid (by simp [Value.oneCell'])
    clear hb WC B2 N2 J2
    have C3 := HC.out.below B3.out
    have DC := Lib.hid (drop_c F g gm OA oc T ms m i w3 C3 IX.out)
    unfold nk at DC
    go_wp2_with (refine Store.at_load 60 (.tmp 3) ?_ ?_; exact rfl; refine Loads.wpList_load_w rfl 60 (.tmp 3) rfl w.heap.size rfl 60 #[.string m.src, .string m.dst, .int .i64 m.proto, .int .i64 m.id] (0, 0) _ (N3.out) Tryd.underlying60 rfl (by kernel_rfl) ?_)
    refine DC.out.mono ?_
    rintro e4 w4 ⟨rfl, h1, h2⟩
    have E4 := (C3.at_ HI.out).stay (w' := w4) fun k hf hK => h2.block k (C3.kin hK) (by
      obtain ⟨X, t, fz, hX, _⟩ := hK
      exact (Array.getElem?_eq_some_iff.1 hX).1)
    have far : ∀ k, w.heap.size ≤ k → k ≠ g ∧ k ≠ gm ∧ ¬ own OA k := fun k hk => ⟨fun z => by have := HC.out.blk.lt; omega, fun z => by have := HC.out.map.lt; omega, fun z => by have := HC.out.ord.lt z; omega⟩
    have J4 : Blk w4 (w.heap.size + 1) PT #[.int .i64 0, .int .i64 0, .int .i64 0, .int .i64 0, .bool false, .bool false, .int .i64 0, .string ⟨#[]⟩, .string ⟨#[]⟩, .string ⟨#[]⟩, .slice none 0 0] := (h2.block _ (far _ (by omega)) J3.out.lt).trans J3.out
    have K4 : Keep F w w4 := cat_keep HC.out B3.out h2
    have s4 := h2.size
    have s3 := B3.out.size
    have PK := Lib.hid (packet_c e.eb e.since e.PA e.pc e.zs w4 E4.blk (Jc4.RAt.pr E4.row) Z0.out ZL.out FZ.out TD.out)
    have H4 := Lib.hid (handle_keep HG.out K4 FH.out)
    have C4 := Lib.hid h1
    have KK4 := Lib.hid K4
    have JJ4 := Lib.hid J4
    have S4 := Lib.hid (show w.heap.size + 1 < w4.heap.size from J4.lt)
    rw [QE.out] at PK
    clear h1 h2 C3 E4 far J4 K4 s4 s3 DC J3 B3 N3
    unfold val at PK
    go_wp2_with fail
    refine PK.out.mono ?_
    rintro e5 w5 ⟨⟨A, c, rfl, ho⟩, hb⟩
    have J5 := JJ4.out.below hb JJ4.out.lt
    have S0 := Blk.new w5 32 #[.int .i64 0, .int .i64 0, .int .i64 0, .int .i64 0, .bool false, .bool false, .int .i64 0, .string ⟨#[]⟩, .string ⟨#[]⟩, .string ⟨#[]⟩, .slice none 0 0]
    have one5 : (#[.int .i64 q.tos, .int .i64 q.id, .int .i64 q.ttl, .int .i64 q.proto, .bool q.df, .bool q.mf, .int .i64 q.off, .string q.src, .string q.dst, .string q.opt, .slice A dl.length c] : Array Value).all (·.oneCell') = true := by simp [Value.oneCell']
    have RS := Lib.hid (run_storeVar_row (P := Tryd.prog) (w5.alloc (.cells #[.int .i64 0, .int .i64 0, .int .i64 0, .int .i64 0, .bool false, .bool false, .int .i64 0, .string ⟨#[]⟩, .string ⟨#[]⟩, .string ⟨#[]⟩, .slice none 0 0] 32)) w5.heap.size 32 32 #[.int .i64 0, .int .i64 0, .int .i64 0, .int .i64 0, .bool false, .bool false, .int .i64 0, .string ⟨#[]⟩, .string ⟨#[]⟩, .string ⟨#[]⟩, .slice none 0 0] #[.int .i64 q.tos, .int .i64 q.id, .int .i64 q.ttl, .int .i64 q.proto, .bool q.df, .bool q.mf, .int .i64 q.off, .string q.src, .string q.dst, .string q.opt, .slice A dl.length c] S0 (by kernel_rfl) rfl one5)
    have ON := Lib.hid one5
    obtain ⟨w6, hw6⟩ : ∃ w6, w6 = (w5.alloc (.cells #[.int .i64 0, .int .i64 0, .int .i64 0, .int .i64 0, .bool false, .bool false, .int .i64 0, .string ⟨#[]⟩, .string ⟨#[]⟩, .string ⟨#[]⟩, .slice none 0 0] 32)).setRow w5.heap.size #[.int .i64 q.tos, .int .i64 q.id, .int .i64 q.ttl, .int .i64 q.proto, .bool q.df, .bool q.mf, .int .i64 q.off, .string q.src, .string q.dst, .string q.opt, .slice A dl.length c] := ⟨_, rfl⟩
    rw [← hw6] at RS
    have ba : Below w5.heap.size w5 w6 := by rw [hw6]; exact Com.setRow_bel ((Below.refl _ _).alloc (Nat.le_refl _) _) (Nat.le_refl _) _
    have Q6 := Lib.hid (show Blk w6 w5.heap.size 32 #[.int .i64 q.tos, .int .i64 q.id, .int .i64 q.ttl, .int .i64 q.proto, .bool q.df, .bool q.mf, .int .i64 q.off, .string q.src, .string q.dst, .string q.opt, .slice A dl.length c] from by rw [hw6]; exact setRow_heap _ _ _ _ _ _ S0)
    have J6 := Lib.hid (J5.below ba J5.lt)
    have O6 := Lib.hid (ho.below ba (Nat.le_refl _))
    have B6 := Lib.hid (hb.trans (ba.mono hb.size))
    have H6 := H4.out.keep B6.out
    have CK := Lib.hid (check_code q A dl.length c w6 H6 QO.out.1 (by have := QO.out.2; omega))
    rw [QC.out] at CK
    clear hb ho J5 S0 one5 hw6 ba H6 PK JJ4 H4
    obtain ⟨qb, hqb⟩ : ∃ qb, w5.heap.size = qb := ⟨_, rfl⟩
    have QB := Lib.hid hqb
    rw [hqb] at Q6
    clear hqb
    unfold val at CK
    go_wp2_with (first | (refine Store.at_store 32 (.tmp 8) (.tmp 23) ?_ ?_; exact rfl; refine JcP.wpList_store_run rfl 32 (.tmp 8) (.tmp 23) rfl ⟨w5.heap.size, 0, none⟩ (.agg #[.int .i64 q.tos, .int .i64 q.id, .int .i64 q.ttl, .int .i64 q.proto, .bool q.df, .bool q.mf, .int .i64 q.off, .string q.src, .string q.dst, .string q.opt, .slice A dl.length c]) rfl rfl RS.out ?_) | (rw [QB.out]; (refine Store.at_load 32 (.tmp 8) ?_ ?_; exact rfl; refine Loads.wpList_load_w rfl 32 (.tmp 8) rfl qb rfl 32 #[.int .i64 q.tos, .int .i64 q.id, .int .i64 q.ttl, .int .i64 q.proto, .bool q.df, .bool q.mf, .int .i64 q.off, .string q.src, .string q.dst, .string q.opt, .slice A dl.length c] (0, 0) _ (Q6.out) Tryd.underlying32 rfl (by kernel_rfl) ?_)) | (refine Store.at_load 32 (.tmp 8) ?_ ?_; exact rfl; refine Loads.wpList_load_w rfl 32 (.tmp 8) rfl w5.heap.size rfl 32 #[.int .i64 q.tos, .int .i64 q.id, .int .i64 q.ttl, .int .i64 q.proto, .bool q.df, .bool q.mf, .int .i64 q.off, .string q.src, .string q.dst, .string q.opt, .slice A dl.length c] (0, 0) _ ((by rw [QB.out]; exact Q6.out)) Tryd.underlying32 rfl (by kernel_rfl) ?_))
    refine CK.out.mono ?_
    rintro e7 w7 ⟨rfl, hb⟩
    have J7 := Lib.hid (J6.out.below hb J6.out.lt)
    have Q7 := Lib.hid (Q6.out.below hb Q6.out.lt)
    have O7 := Lib.hid (O6.out.below hb (Nat.le_refl _))
    have B7 := Lib.hid (B6.out.trans (hb.mono B6.out.size))
    clear hb J6 Q6 O6 B6 CK RS
    have CF : ∀ X, CatM F (w7.setRow (w.heap.size + 1) X) g gm OA oc T (ms.eraseIdx i) ∧ Keep F w (w7.setRow (w.heap.size + 1) X) := fun X => by
      have c7 := C4.out.below B7.out
      have lt7 := B7.out.size
      have s4 := S4.out
      have nF : ¬ F (w.heap.size + 1) := fun z => by have := HF.out _ z; omega
      refine ⟨?_, (KK4.out.trans (Keep.of B7.out)).trans (Keep.row _ _ _ nF)⟩
      refine ⟨(setRow_other _ _ _ _ (by have := HC.out.blk.lt; omega)).trans c7.blk, c7.ng, c7.map.same (setRow_other _ _ _ _ (by have := HC.out.map.lt; omega)), c7.nm, c7.ord.keep fun k o _ => setRow_other _ _ _ _ (by have := HC.out.ord.lt o; omega), c7.no, fun x hx => ?_, c7.nd, c7.ok, c7.few⟩
      have E0 := HC.out.each x (List.mem_of_mem_eraseIdx hx)
      have E7 := c7.each x hx
      have ne : w.heap.size + 1 ≠ x.eb := by have := E0.blk.lt; omega
      refine ⟨(setRow_other _ _ _ _ ne.symm).trans E7.blk, E7.nf, ⟨E7.row.row.keep fun k o _ => setRow_other _ _ _ _ (by have := E0.row.row.lt o; omega), E7.row.own, fun z hz => ⟨owns_stay (E7.row.dat z hz).1 fun k Y fz ok hY => setRow_other _ _ _ _ (by have := dat_lt (E0.row.dat z hz) ok; omega), (E7.row.dat z hz).2⟩⟩⟩
    have CFH := Lib.hid CF
    clear CF
    have HO := Lib.hid (show Holds (w7.setRow (w.heap.size + 1) #[.int .i64 q.tos, .int .i64 q.id, .int .i64 q.ttl, .int .i64 q.proto, .bool q.df, .bool q.mf, .int .i64 q.off, .string q.src, .string q.dst, .string q.opt, .slice A dl.length c]) (w7.setRow (w.heap.size + 1) #[.int .i64 q.tos, .int .i64 q.id, .int .i64 q.ttl, .int .i64 q.proto, .bool q.df, .bool q.mf, .int .i64 q.off, .string q.src, .string q.dst, .string q.opt, .slice A dl.length c]).heap.size A dl.length c dl from (owns_set O7.out J7.out).holds)
    go_wp2_with (first | (refine Store.at_load 32 (.tmp 8) ?_ ?_; exact rfl; refine Loads.wpList_load_w rfl 32 (.tmp 8) rfl qb rfl 32 #[.int .i64 q.tos, .int .i64 q.id, .int .i64 q.ttl, .int .i64 q.proto, .bool q.df, .bool q.mf, .int .i64 q.off, .string q.src, .string q.dst, .string q.opt, .slice A dl.length c] (0, 0) _ (Q7.out) Tryd.underlying32 rfl (by kernel_rfl) ?_) | (refine Store.at_store 32 (.tmp 4) (.tmp 28) ?_ ?_; exact rfl; refine wpList_store_row rfl 32 (.tmp 4) (.tmp 28) rfl (w.heap.size + 1) #[.int .i64 q.tos, .int .i64 q.id, .int .i64 q.ttl, .int .i64 q.proto, .bool q.df, .bool q.mf, .int .i64 q.off, .string q.src, .string q.dst, .string q.opt, .slice A dl.length c] rfl rfl 32 _ (J7.out) (by kernel_rfl) rfl (ON.out) ?_))
    exact bodyPost_ret (results_triple rfl _ _ (w.heap.size + 1) 32 #[.int .i64 q.tos, .int .i64 q.id, .int .i64 q.ttl, .int .i64 q.proto, .bool q.df, .bool q.mf, .int .i64 q.off, .string q.src, .string q.dst, .string q.opt, .slice A dl.length c] (0, 0) _ _ _ rfl rfl rfl (setRow_heap _ _ _ _ _ _ J7.out) Tryd.underlying32 rfl (by kernel_rfl)) rfl ⟨⟨A, c, rfl, HO.out⟩, CFH.out _⟩
end Go.Proofs.YtnpggkpcadefjaaDoor.Jc13

