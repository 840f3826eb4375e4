/- The contract of Bytes of the code. -/
import Derived.Test.YtibfdacgdffpiaaDoorHeader
import Derived.Test.YtibfdacgdffpiaaDoorInetSum
namespace Go.Proofs.YtibfdacgdffpiaaDoor.BytesCode
open Go.RowKit Go.Proofs.YtibfdacgdffpiaaDoor.Sums Go.Proofs.YtibfdacgdffpiaaDoor.Mem Go.Proofs.YtibfdacgdffpiaaDoor.Blk Go.Proofs.YtibfdacgdffpiaaDoor.Pkt Go.Proofs.YtibfdacgdffpiaaDoor.Check Go.Proofs.YtibfdacgdffpiaaDoor.Head Go.Proofs.YtibfdacgdffpiaaDoor.Free Go.Proofs.YtibfdacgdffpiaaDoor.Steps Go.Proofs.YtibfdacgdffpiaaDoor.Errno Go.Proofs.YtibfdacgdffpiaaDoor.InetSum

/-- The head's numbers, as a value. -/
def hcells (p : Pkt) (n : Nat) (s : Int) : Array Value := #[.int .i64 p.first, .int .i64 p.tos, .int .i64 (p.total n), .int .i64 p.id, .int .i64 p.place, .int .i64 p.ttl, .int .i64 p.proto, .int .i64 s]

theorem headOf_pkt (p : Pkt) (A : Option Addr) (n c : Nat) (w : World) (h : Valid p) (hn : n ≤ 1048576) :
    Calls Tryd.prog 16 #[val p (.slice A n c)] w fun e w' => e = .returned (.agg (hcells p n 0)) ∧ Below w.heap.size w w' :=
  headOf_any p.tos p.id p.ttl p.proto p.off p.df p.mf p.src p.dst p.opt A n c w h hn

theorem header_pkt (p : Pkt) (n : Nat) (s : Int) (D : Value) (w : World) (h : Valid p) (hn : 20 + p.opt.size + n ≤ 65535) (s0 : 0 ≤ s) (s1 : s ≤ 65535) :
    Calls Tryd.prog 18 #[.agg (hcells p n s), val p D] w fun e w' => ∃ v, e = .returned v ∧ Owns w' w.heap.size v (20 + p.opt.size) (p.head n s) ∧ Below w.heap.size w w' := by
  have hp := h.place
  have h1 := h.s; have h2 := h.d; have h3 := h.z
  refine (header_any p.first p.tos (p.total n) p.id p.place p.ttl p.proto s p.tos p.id p.ttl p.proto p.off p.df p.mf p.src p.dst p.opt D w (by unfold Pkt.first; omega) (by unfold Pkt.first; omega) h.t0 h.t1 (by unfold Pkt.total; omega) (by unfold Pkt.total; omega) h.i0 h.i1 hp.1 (by omega) h.l0 h.l1 h.p0 h.p1 s0 s1 (by omega)).mono ?_
  rintro e w' ⟨v, he, ho, hb⟩
  refine ⟨v, he, ?_, hb⟩
  have e1 : 12 + p.src.size + p.dst.size + p.opt.size = 20 + p.opt.size := by omega
  have e2 : numsOf p.first p.tos (p.total n) p.id p.place p.ttl p.proto s ++ nums p.src ++ nums p.dst ++ nums p.opt = p.head n s := by simp [Pkt.head, Pkt.rest]
  rw [e1, e2] at ho
  exact ho

theorem ent_header : Enters Tryd.prog 18 := enters_of Tryd.func18 (by kernel_rfl) rfl
theorem field10 (g : Nat) (w : World) : (Instr.fieldAt 24 (.pointer (some ⟨g, 0, none⟩)) 10).run Tryd.prog w = .ok (.pointer (some ⟨g, 10, none⟩)) w := by kernel_rfl

theorem bytes_err (p : Pkt) (A : Option Addr) (n c : Nat) (w : World) (hg : Handle w) (hz : p.opt.size ≤ 1048576) (hn : n ≤ 1048576) (hk : p.chk n ≠ 0) :
    Calls Tryd.prog 9 #[val p (.slice A n c)] w fun e w' => e = .returned (.tuple #[.slice none 0 0, .int .i64 (p.chk n)]) ∧ Below w.heap.size w w' := by
  have X := Lib.hid (fun W hW => check_code p A n c W hW hz hn)
  unfold val at X ⊢
  go_enter Tryd.func9, Tryd.ntmps9
  go_wp2_with fail
  refine (X.out _ (hg.keep ((Below.refl _ _).alloc (Nat.le_refl _) _))).mono ?_
  rintro e w' ⟨rfl, hb⟩
  have b0 : Below w.heap.size w w' := ((Below.refl _ _).alloc (Nat.le_refl _) _).trans (hb.mono (by simp))
  have hk' : (p.chk n != 0) = true := by simpa using hk
  clear hb
  go_wp2_with fail
  go_ret2
  exact ⟨rfl, b0⟩

set_option maxHeartbeats 2000000 in
set_option maxRecDepth 100000 in
theorem bytes_ok (p : Pkt) (A : Option Addr) (n c : Nat) (l : List Int) (w : World) (hg : Handle w) (B : Nat) (h : Holds w B A n c l) (hB : B ≤ w.heap.size) (hv : Valid p) (hn : 20 + p.opt.size + n ≤ 65535) :
    Calls Tryd.prog 9 #[val p (.slice A n c)] w fun e w' => ∃ v, e = .returned (.tuple #[v, .int .i64 0]) ∧ Owns w' w.heap.size v (20 + p.opt.size + n) (p.bytes l) ∧ Below w.heap.size w w' := by
  have hz := hv.z
  have X := Lib.hid (fun W hW => check_code p A n c W hW (by omega) (by omega))
  rw [chk_ok hv hn] at X
  have Y := Lib.hid (fun W => headOf_pkt p A n c W hv (by omega))
  have Z := Lib.hid (fun W => header_pkt p n 0 (.slice A n c) W hv hn (by decide) (by decide))
  have V := Lib.hid (fun W s s0 s1 => header_pkt p n s (.slice A n c) W hv hn s0 s1)
  have HL := Lib.hid h
  have hcs := Lib.hid (check_in (p.head n 0))
  have hlen := h.1
  unfold val hcells at *
  go_enter Tryd.func9, Tryd.ntmps9
  go_wp2_with fail
  refine (X.out _ (hg.keep ((Below.refl _ _).alloc (Nat.le_refl _) _))).mono ?_
  rintro e w1 ⟨rfl, hb⟩
  have B1 := Lib.hid (((Below.refl w.heap.size w).alloc (Nat.le_refl _) _).trans (hb.mono (by simp)))
  have P1 := Lib.hid ((Blk.new w 24 #[.int .i64 p.tos, .int .i64 p.id, .int .i64 p.ttl, .int .i64 p.proto, .bool p.df, .bool p.mf, .int .i64 p.off, .string p.src, .string p.dst, .string p.opt, .slice A n c]).below hb (by simp))
  clear hb
  go_wp2_with (first
    | (refine wpList_load_row rfl _ _ rfl w.heap.size rfl 24 #[.int .i64 p.tos, .int .i64 p.id, .int .i64 p.ttl, .int .i64 p.proto, .bool p.df, .bool p.mf, .int .i64 p.off, .string p.src, .string p.dst, .string p.opt, .slice A n c] (0, 0) _ P1.out (Tryd.underlying24) rfl (by kernel_rfl) ?_))
  refine (Y.out _).mono ?_
  rintro e w2 ⟨rfl, hb2⟩
  have B2 := Lib.hid (B1.out.trans (hb2.mono B1.out.size))
  have P2 := Lib.hid ((P1.out.below hb2 P1.out.lt).alloc (.cells #[.int .i64 p.first, .int .i64 p.tos, .int .i64 (p.total n), .int .i64 p.id, .int .i64 p.place, .int .i64 p.ttl, .int .i64 p.proto, .int .i64 0] 43))
  have B3 := Lib.hid (B2.out.alloc B2.out.size (.cells #[.int .i64 p.first, .int .i64 p.tos, .int .i64 (p.total n), .int .i64 p.id, .int .i64 p.place, .int .i64 p.ttl, .int .i64 p.proto, .int .i64 0] 43))
  have lt2 := (P1.out.below hb2 P1.out.lt).lt
  have H3 := Lib.hid (Blk.new w2 43 #[.int .i64 p.first, .int .i64 p.tos, .int .i64 (p.total n), .int .i64 p.id, .int .i64 p.place, .int .i64 p.ttl, .int .i64 p.proto, .int .i64 0])
  clear hb2
  go_wp2_with (first
    | (refine wpList_load_row rfl _ _ rfl w.heap.size rfl 24 #[.int .i64 p.tos, .int .i64 p.id, .int .i64 p.ttl, .int .i64 p.proto, .bool p.df, .bool p.mf, .int .i64 p.off, .string p.src, .string p.dst, .string p.opt, .slice A n c] (0, 0) _ P2.out (Tryd.underlying24) rfl (by kernel_rfl) ?_))
  refine (Z.out _).mono ?_
  rintro e w4 ⟨v4, rfl, o4, hb4⟩
  obtain ⟨A4, c4, rfl, h4⟩ := o4.slice
  have B4 := Lib.hid (B3.out.trans (hb4.mono B3.out.size))
  have P4 := Lib.hid (P2.out.below hb4 P2.out.lt)
  have H4 := Lib.hid (H3.out.below hb4 H3.out.lt)
  have c7 := H4.out.cell 7
  have f7 := H4.out.frozen 7
  obtain ⟨s, hs⟩ : ∃ s, Hid (s = check (p.head n 0)) := ⟨_, Lib.hid rfl⟩
  have CK : Hid (Calls Tryd.prog 17 #[.slice A4 (20 + p.opt.size) c4] w4 fun e w' => e = .returned (.int .i64 s) ∧ w4 = w') := by
    rw [hs.out]
    exact Lib.hid (InetSum.check_any A4 (20 + p.opt.size) c4 (p.head n 0) w4 _ h4 (by omega))
  clear hb4 o4 h4
  go_wp2_with fail
  refine CK.out.mono ?_
  rintro e w' ⟨rfl, rfl⟩
  have hlt4 : w2.heap.size ≠ w.heap.size := by omega
  have B5 := Lib.hid (B4.out.setCell (p := ⟨w2.heap.size, 7, none⟩) B2.out.size (.int .i64 s))
  have P5 := Lib.hid (P4.out.far (p := ⟨w2.heap.size, 7, none⟩) (fun e => hlt4 e.symm) (.int .i64 s))
  have H5 : Hid (Blk (w4.setCell ⟨w2.heap.size, 7, none⟩ (.int .i64 s)) w2.heap.size 43 #[.int .i64 p.first, .int .i64 p.tos, .int .i64 (p.total n), .int .i64 p.id, .int .i64 p.place, .int .i64 p.ttl, .int .i64 p.proto, .int .i64 s]) := Lib.hid (by simpa using H4.out.put 7 (.int .i64 s))
  go_wp2_with fail
  generalize w4.setCell ⟨w2.heap.size, 7, none⟩ (.int .i64 s) = w5 at *
  have s0 : 0 ≤ s := by rw [hs.out]; exact hcs.out.1
  have s1 : s ≤ 65535 := by rw [hs.out]; exact hcs.out.2
  have hb5 := B5.out.size
  clear H4 P4 B4 CK H3 B3 P2 B2 P1 B1 c7 f7 Y X Z hg hlt4 h
  refine wp_region_free [0, 1, 2, 3, 4] 5 [6, 7] (fun w1 w2 => Below w1.heap.size w1 w2) (fun k w' v => match k with
    | 0 => v = .agg #[.int .i64 p.first, .int .i64 p.tos, .int .i64 (p.total n), .int .i64 p.id, .int .i64 p.place, .int .i64 p.ttl, .int .i64 p.proto, .int .i64 s]
    | 1 => v = .agg #[.int .i64 p.tos, .int .i64 p.id, .int .i64 p.ttl, .int .i64 p.proto, .bool p.df, .bool p.mf, .int .i64 p.off, .string p.src, .string p.dst, .string p.opt, .slice A n c]
    | 2 => Owns w' w.heap.size v (20 + p.opt.size) (p.head n s)
    | 3 => v = .pointer (some ⟨w.heap.size, 10, none⟩)
    | _ => v = .slice A n c) (by kernel_rfl) (by kernel_rfl) (Below.refl _ _) (fun _ _ _ h k => h.trans (k.mono h.size)) (fun k w1 w2 v h => match k with
    | 0 => fun x => x
    | 1 => fun x => x
    | 2 => fun o => Owns.below o h (Nat.le_refl _)
    | 3 => fun x => x
    | _ + 4 => fun x => x) (fun _ _ _ _ _ h => h) ?_ _ (by rfl) ?_
  · refine obs_cons (by rfl) (fun vals w' hgr hdep K hK => ?_) (obs_cons (by rfl) (fun vals w' hgr hdep K hK => ?_) (obs_cons (by rfl) (fun vals w' hgr hdep K hK => ?_) (obs_cons (by rfl) (fun vals w' hgr hdep K hK => ?_) (obs_cons (by rfl) (fun vals w' hgr hdep K hK => ?_) obs_nil))))
    · exact st_load_row 43 (.tmp 5) rfl w2.heap.size rfl 43 #[.int .i64 p.first, .int .i64 p.tos, .int .i64 (p.total n), .int .i64 p.id, .int .i64 p.place, .int .i64 p.ttl, .int .i64 p.proto, .int .i64 s] (0, 0) _ (H5.out.drew.below hgr H5.out.lt) (Tryd.underlying43) rfl (by kernel_rfl) (hK _ _ (Below.refl _ _) rfl)
    · exact st_load_row 24 (.tmp 1) rfl w.heap.size rfl 24 #[.int .i64 p.tos, .int .i64 p.id, .int .i64 p.ttl, .int .i64 p.proto, .bool p.df, .bool p.mf, .int .i64 p.off, .string p.src, .string p.dst, .string p.opt, .slice A n c] (0, 0) _ (P5.out.drew.below hgr P5.out.lt) (Tryd.underlying24) rfl (by kernel_rfl) (hK _ _ (Below.refl _ _) rfl)
    · have e0 : vals 0 = .agg #[.int .i64 p.first, .int .i64 p.tos, .int .i64 (p.total n), .int .i64 p.id, .int .i64 p.place, .int .i64 p.ttl, .int .i64 p.proto, .int .i64 s] := hdep 0 (by simp) (by kernel_rfl)
      have e1 : vals 1 = .agg #[.int .i64 p.tos, .int .i64 p.id, .int .i64 p.ttl, .int .i64 p.proto, .bool p.df, .bool p.mf, .int .i64 p.off, .string p.src, .string p.dst, .string p.opt, .slice A n c] := hdep 1 (by simp) (by kernel_rfl)
      refine wp_call 18 [.tmp 18, .tmp 19] _ (by rfl) ent_header [vals 0, vals 1] (by rfl) (fun v w'' => Owns w'' w'.heap.size v (20 + p.opt.size) (p.head n s) ∧ Below w'.heap.size w' w'') ?_ (fun v w'' h => hK v w'' h.2 (h.1.mono (Nat.le_trans hb5 hgr.size)))
      rw [e0, e1]
      exact (V.out w' s s0 s1).mono fun e w'' ⟨v, he, ho, hb⟩ => ⟨v, he, ho, hb⟩
    · exact wp_field (.tmp 1) rfl (.pointer (some ⟨w.heap.size, 0, none⟩)) (.pointer (some ⟨w.heap.size, 10, none⟩)) rfl (field10 w.heap.size w') (hK _ _ (Below.refl _ _) rfl)
    · have h1 : vals 3 = .pointer (some ⟨w.heap.size, 10, none⟩) := hdep 3 (by simp) (by kernel_rfl)
      have hc : w'.cell? ⟨w.heap.size, 10, none⟩ = some (.slice A n c) := ((P5.out.drew.below hgr P5.out.lt).cell 10).trans rfl
      exact wp_load1 (.tmp 21) rfl ⟨w.heap.size, 10, none⟩ h1 Tryd.underlying22 rfl (.slice A n c) hc (hK _ _ (Below.refl _ _) rfl)
  · intro vals w' hgr hG
    have o2 : Owns w' w.heap.size (vals 2) (20 + p.opt.size) (p.head n s) := hG 2 (by simp)
    have h4 : vals 4 = .slice A n c := hG 4 (by simp)
    have bw := B5.out.drew.trans (hgr.mono hb5)
    refine wp_append_bytes (.tmp 20) (.tmp 22) rfl w.heap.size (vals 2) _ _ rfl o2 B A n c l h4 (HL.out.below (bw.mono hB)) (by omega) (Nat.le_trans hb5 hgr.size) fun v1 w1 o1 g1 => ?_
    refine wpAnyH_assign2 6 7 (.tmp 23) (.const (.int .i64 0)) v1 (.int .i64 0) rfl rfl rfl rfl rfl rfl (by kernel_rfl) (by kernel_rfl) (by kernel_rfl) trivial rfl rfl ?_
    simp only [fill, dstAt, List.getElem?_cons_zero, List.getElem?_cons_succ, Option.bind_some, Act.put, List.setIfInBounds_toArray, List.set_cons_zero, List.set_cons_succ]
    clear hG
    have BW := Lib.hid (bw.grown g1 (Nat.le_trans hb5 hgr.size) fun k hk => (o2.lt k hk).1)
    go_wp2_with fail
    go_ret2
    refine ⟨_, rfl, ?_, BW.out⟩
    have e : p.bytes l = p.head n s ++ l := by rw [Pkt.bytes, Pkt.sum, hlen, ← hs.out]
    rw [e]
    exact o1
end Go.Proofs.YtibfdacgdffpiaaDoor.BytesCode
