/- The law Ip4Lays. -/
import Derived.Test.YtjhfginopbjldaaDoorBytesRef
set_option linter.unusedVariables false
namespace Go.Proofs.YtjhfginopbjldaaDoor.LawLays
open Go.RowKit Go.Proofs.YtjhfginopbjldaaDoor.Sums Go.Proofs.YtjhfginopbjldaaDoor.Mem Go.Proofs.YtjhfginopbjldaaDoor.Blk Go.Proofs.YtjhfginopbjldaaDoor.Pkt Go.Proofs.YtjhfginopbjldaaDoor.Check Go.Proofs.YtjhfginopbjldaaDoor.Free Go.Proofs.YtjhfginopbjldaaDoor.Steps Go.Proofs.YtjhfginopbjldaaDoor.Decode Go.Proofs.YtjhfginopbjldaaDoor.ParseCode Go.Proofs.YtjhfginopbjldaaDoor.BytesCode Go.Proofs.YtjhfginopbjldaaDoor.Errno Go.Proofs.YtjhfginopbjldaaDoor.Same Go.Proofs.YtjhfginopbjldaaDoor.Back Go.Proofs.YtjhfginopbjldaaDoor.Awake Go.Proofs.YtjhfginopbjldaaDoor.LawHeads Go.Proofs.YtjhfginopbjldaaDoor.BytesRef

theorem grown_set (w : World) (p : Addr) (v : Value) : w.grownBy (w.setCell p v) (some p.block) := ⟨rfl, rfl, rfl, by simp, fun k _ hk => Below.heap_setCell w p v k (fun e => hk (by rw [e]))⟩
theorem owns_ne {w : World} {base n k : Nat} {v : Value} {l : List Int} (h : Owns w base v n l) (hk : k < base) : v.ownBlock = none ∨ v.ownBlock ≠ some k := by
  refine .inr fun q => ?_
  have := (h.lt k q).1
  omega
theorem ent_awake : Enters Tryd.prog 14 := enters_of Tryd.func14 (by kernel_rfl) rfl
theorem ent_bref : Enters Tryd.prog 15 := enters_of Tryd.func15 (by kernel_rfl) rfl
theorem lies_own {w : World} {base n : Nat} {v : Value} {l : List Int} (h : Owns w base v n l) : Lies w v n l := by
  obtain ⟨A, c, rfl, hh⟩ := h.slice
  exact ⟨A, c, rfl, hh⟩
theorem eql_same (s : ByteArray) (x y : Operand) (w : World) : (do eqGuard .eql 9 x y (.string s) (.string s); binOp .eql 9 (.string s) (.string s) : Sem Value).run Tryd.prog w = .ok (.bool true) w := by
  simp [go_sem, eqGuard]

theorem lays_no (p : Pkt) (A : Option Addr) (n c : Nat) (w : World) (z1 : p.src.size ≤ 140737488355328) (z2 : p.dst.size ≤ 140737488355328) (z3 : p.opt.size ≤ 140737488355328) (z4 : n ≤ 140737488355328) (hf : fewB p n = false) :
    Calls Tryd.prog 3 #[val p (.slice A n c)] w (Yes w) := by
  have F := Lib.hid (fun W => few_any p A n c W z1 z2 z3 z4)
  rw [hf] at F
  have B0 := Lib.hid ((Below.refl w.heap.size w).alloc (Nat.le_refl _) (.cells #[.int .i64 p.tos, .int .i64 p.id, .int .i64 p.ttl, .int .i64 p.proto, .bool p.df, .bool p.mf, .int .i64 p.off, .string p.src, .string p.dst, .string p.opt, .slice A n c] 24))
  unfold val at *
  go_enter Tryd.func3, Tryd.ntmps3
  go_wp2_with fail
  refine (F.out _).mono ?_
  rintro e w1 ⟨rfl, hb⟩
  have B1 := Lib.hid (B0.out.trans (hb.mono B0.out.size))
  clear hb
  go_wp2_with fail
  go_ret
  exact ⟨rfl, B1.out⟩

set_option maxHeartbeats 8000000 in
set_option maxRecDepth 100000 in
theorem lays_err (p : Pkt) (A : Option Addr) (n c : Nat) (l : List Int) (w : World) (hg : Handle w) (h : Holds w w.heap.size A n c l) (hf : fewB p n = true) (hk : p.chk n ≠ 0) :
    Calls Tryd.prog 3 #[val p (.slice A n c)] w (Yes w) := by
  have fw := few_true hf
  have F := Lib.hid (fun W => few_any p A n c W (by omega) (by omega) (by omega) (by omega))
  rw [hf] at F
  have CC := Lib.hid (fun A n' c (e : n' = n) W hW => check_code p A n c W hW (by omega) (by omega))
  have CR := Lib.hid (fun W => check_ref p A n c W (by omega) (by omega))
  have B0 := Lib.hid ((Below.refl w.heap.size w).alloc (Nat.le_refl _) (.cells #[.int .i64 p.tos, .int .i64 p.id, .int .i64 p.ttl, .int .i64 p.proto, .bool p.df, .bool p.mf, .int .i64 p.off, .string p.src, .string p.dst, .string p.opt, .slice A n c] 24))
  have P0 := Lib.hid (Blk.new w 24 #[.int .i64 p.tos, .int .i64 p.id, .int .i64 p.ttl, .int .i64 p.proto, .bool p.df, .bool p.mf, .int .i64 p.off, .string p.src, .string p.dst, .string p.opt, .slice A n c])
  have G0 := Lib.hid hg
  have HL := Lib.hid h
  have n66 : n ≤ 66000 := by omega
  have EB := Lib.hid (fun A c W hW => bytes_err p A n c W hW (by omega) (by omega) hk)
  have hk' : (p.chk n != 0) = true := by rw [bne_iff_ne]; exact hk
  clear hg fw hf h hk
  unfold val at *
  go_enter Tryd.func3, Tryd.ntmps3
  go_wp2_with fail
  refine (F.out _).mono ?_
  rintro e w1 ⟨rfl, hb⟩
  have B1 := Lib.hid (B0.out.trans (hb.mono B0.out.size))
  have P1 := Lib.hid (P0.out.below hb P0.out.lt)
  clear hb F P0
  have lw := P1.out.lt
  have P2 := Lib.hid (P1.out.alloc (.cells #[.int .i64 p.tos, .int .i64 p.id, .int .i64 p.ttl, .int .i64 p.proto, .bool p.df, .bool p.mf, .int .i64 p.off, .string p.src, .string p.dst, .string p.opt, .slice A n c] 24))
  have Q2 := Lib.hid (Blk.new w1 24 #[.int .i64 p.tos, .int .i64 p.id, .int .i64 p.ttl, .int .i64 p.proto, .bool p.df, .bool p.mf, .int .i64 p.off, .string p.src, .string p.dst, .string p.opt, .slice A n c])
  have B2 := Lib.hid (B1.out.alloc B1.out.size (.cells #[.int .i64 p.tos, .int .i64 p.id, .int .i64 p.ttl, .int .i64 p.proto, .bool p.df, .bool p.mf, .int .i64 p.off, .string p.src, .string p.dst, .string p.opt, .slice A n c] 24))
  have H2 := Lib.hid (HL.out.below B2.out)
  have d10 := P2.out.cell 10
  go_wp2_with (first
    | (refine Loads.wpList_load_w rfl 24 (.tmp 1) rfl w.heap.size rfl 24 #[.int .i64 p.tos, .int .i64 p.id, .int .i64 p.ttl, .int .i64 p.proto, .bool p.df, .bool p.mf, .int .i64 p.off, .string p.src, .string p.dst, .string p.opt, .slice A n c] (0, 0) _ P1.out (Tryd.underlying24) rfl (by kernel_rfl) ?_))
  refine (Both.both_lit (B := w.heap.size) B2.out.size [⟨A, n, c, l⟩] _ _ rfl (Both.mem1 H2.out) (w1.heap.size + 1) 1 (by simp) rfl (by decide) (by show n + 0 ≤ 1048576; omega)).mono ?_
  rintro e w3 ⟨A2, c2, rfl, h3, o3, hb⟩
  have e1 : Both.flat [⟨A, n, c, l⟩] = l := by simp [Both.flat]
  have e0 : Both.total [⟨A, n, c, l⟩] = n := rfl
  rw [e1, e0] at o3
  rw [e0]
  have B3 := Lib.hid (B2.out.trans (hb.mono B2.out.size))
  have P3 := Lib.hid (P2.out.below hb P2.out.lt)
  have Q3 := Lib.hid (Q2.out.below hb Q2.out.lt)
  have q10 := Q3.out.cell 10
  have f10 := Q3.out.frozen 10
  have lq := Q3.out.lt
  have Q4 := Lib.hid (Q3.out.put 10 (.slice A2 n c2))
  have P4 := Lib.hid (P3.out.far (p := ⟨w1.heap.size, 10, none⟩) (by show w.heap.size ≠ w1.heap.size; omega) (.slice A2 n c2))
  have B4 := Lib.hid (B3.out.setCell (p := ⟨w1.heap.size, 10, none⟩) (by show w.heap.size ≤ w1.heap.size; omega) (.slice A2 n c2))
  have D4 := Lib.hid ((o3.kept (row := some w1.heap.size) (grown_set w3 ⟨w1.heap.size, 10, none⟩ (.slice A2 n c2)) (owns_ne o3 (by simp))).holds)
  clear hb P2 Q2 B2 H2 h3 o3 P3 Q3 B3 P1 B1 d10
  go_wp2_with (first
    | (refine Loads.wpList_load_w rfl 24 (.tmp 3) rfl w1.heap.size rfl 24 #[.int .i64 p.tos, .int .i64 p.id, .int .i64 p.ttl, .int .i64 p.proto, .bool p.df, .bool p.mf, .int .i64 p.off, .string p.src, .string p.dst, .string p.opt, .slice A2 n c2] (0, 0) _ Q4.out (Tryd.underlying24) rfl (by kernel_rfl) ?_))
  generalize w3.setCell ⟨w1.heap.size, 10, none⟩ (.slice A2 n c2) = w4 at *
  refine (EB.out A2 c2 _ (G0.out.keep B4.out)).mono ?_
  rintro e w5 ⟨rfl, hb⟩
  have B5 := Lib.hid (B4.out.trans (hb.mono B4.out.size))
  have C5 := Lib.hid hb
  have P5 := Lib.hid (P4.out.below hb P4.out.lt)
  have Q5 := Lib.hid (Q4.out.below hb Q4.out.lt)
  clear hb P4 Q4 B4
  go_wp2_with (first
    | (refine Loads.wpList_load_w rfl 24 (.tmp 1) rfl w.heap.size rfl 24 #[.int .i64 p.tos, .int .i64 p.id, .int .i64 p.ttl, .int .i64 p.proto, .bool p.df, .bool p.mf, .int .i64 p.off, .string p.src, .string p.dst, .string p.opt, .slice A n c] (0, 0) _ P5.out (Tryd.underlying24) rfl (by kernel_rfl) ?_))
  refine (CR.out _).mono ?_
  rintro e w6 ⟨rfl, hb⟩
  skip
  have B6 := Lib.hid (B5.out.trans (hb.mono B5.out.size))
  have C6 := Lib.hid (C5.out.trans (hb.mono C5.out.size))
  skip
  have P6 := Lib.hid (P5.out.below hb P5.out.lt)
  have Q6 := Lib.hid (Q5.out.below hb Q5.out.lt)
  clear hb P5 Q5 B5 C5
  go_wp2_with (first
    | (refine Loads.wpList_load_w rfl 24 (.tmp 3) rfl w1.heap.size rfl 24 #[.int .i64 p.tos, .int .i64 p.id, .int .i64 p.ttl, .int .i64 p.proto, .bool p.df, .bool p.mf, .int .i64 p.off, .string p.src, .string p.dst, .string p.opt, .slice A2 n c2] (0, 0) _ Q6.out (Tryd.underlying24) rfl (by kernel_rfl) ?_))
  refine (CC.out A2 n c2 rfl _ (G0.out.keep B6.out)).mono ?_
  rintro e w7 ⟨rfl, hb⟩
  skip
  have B7 := Lib.hid (B6.out.trans (hb.mono B6.out.size))
  have C7 := Lib.hid (C6.out.trans (hb.mono C6.out.size))
  skip
  have P7 := Lib.hid (P6.out.below hb P6.out.lt)
  have Q7 := Lib.hid (Q6.out.below hb Q6.out.lt)
  clear hb P6 Q6 B6 C6
  have SY := Lib.hid (same_yes p A2 A n c2 n c _ l w7 ((D4.out.below C7.out).more C7.out.size) ((HL.out.below B7.out).more B7.out.size) (Nat.le_refl _))
  unfold val at SY
  go_wp2_with (first
    | (refine Loads.wpList_load_w rfl 24 (.tmp 3) rfl w1.heap.size rfl 24 #[.int .i64 p.tos, .int .i64 p.id, .int .i64 p.ttl, .int .i64 p.proto, .bool p.df, .bool p.mf, .int .i64 p.off, .string p.src, .string p.dst, .string p.opt, .slice A2 n c2] (0, 0) _ Q7.out (Tryd.underlying24) rfl (by kernel_rfl) ?_)
    | (refine Loads.wpList_load_w rfl 24 (.tmp 1) rfl w.heap.size rfl 24 #[.int .i64 p.tos, .int .i64 p.id, .int .i64 p.ttl, .int .i64 p.proto, .bool p.df, .bool p.mf, .int .i64 p.off, .string p.src, .string p.dst, .string p.opt, .slice A n c] (0, 0) _ P7.out (Tryd.underlying24) rfl (by kernel_rfl) ?_))
  refine SY.out.mono ?_
  rintro e w8 ⟨rfl, hb⟩
  have B8 := Lib.hid (B7.out.trans (hb.mono B7.out.size))
  skip
  have P8 := Lib.hid (P7.out.below hb P7.out.lt)
  clear hb SY P7 Q7 B7 C7
  go_wp2_with fail
  refine (awake_any _ (G0.out.keep B8.out)).mono ?_
  rintro e w9 ⟨rfl, hb⟩
  have B9 := Lib.hid (B8.out.trans (hb.mono B8.out.size))
  clear hb
  go_wp2_with fail
  go_ret
  exact ⟨rfl, B9.out⟩

set_option maxHeartbeats 8000000 in
set_option maxRecDepth 100000 in
theorem lays_ok (p : Pkt) (A : Option Addr) (n c : Nat) (l : List Int) (w : World) (hg : Handle w) (h : Holds w w.heap.size A n c l) (hf : fewB p n = true) (hk : p.chk n = 0) :
    Calls Tryd.prog 3 #[val p (.slice A n c)] w (Yes w) := by
  have fw := few_true hf
  have F := Lib.hid (fun W => few_any p A n c W (by omega) (by omega) (by omega) (by omega))
  rw [hf] at F
  have CC := Lib.hid (fun A n' c (e : n' = n) W hW => check_code p A n c W hW (by omega) (by omega))
  have CR := Lib.hid (fun W => check_ref p A n c W (by omega) (by omega))
  have B0 := Lib.hid ((Below.refl w.heap.size w).alloc (Nat.le_refl _) (.cells #[.int .i64 p.tos, .int .i64 p.id, .int .i64 p.ttl, .int .i64 p.proto, .bool p.df, .bool p.mf, .int .i64 p.off, .string p.src, .string p.dst, .string p.opt, .slice A n c] 24))
  have P0 := Lib.hid (Blk.new w 24 #[.int .i64 p.tos, .int .i64 p.id, .int .i64 p.ttl, .int .i64 p.proto, .bool p.df, .bool p.mf, .int .i64 p.off, .string p.src, .string p.dst, .string p.opt, .slice A n c])
  have G0 := Lib.hid hg
  have HL := Lib.hid h
  have n66 : n ≤ 66000 := by omega
  obtain ⟨hv, hn⟩ := chk_zero hk
  have VV := Lib.hid hv
  have CK0 := Lib.hid hk
  have OKB := Lib.hid (fun A c W hW B h hB => bytes_ok p A n c l W hW B h hB hv hn)
  have BR := Lib.hid (fun W (bel : Below w.heap.size w W) => bytes_ref p A n c l W ((h.below bel).more bel.size) hv hn)
  clear hg fw hf h hk hv
  unfold val at *
  go_enter Tryd.func3, Tryd.ntmps3
  go_wp2_with fail
  refine (F.out _).mono ?_
  rintro e w1 ⟨rfl, hb⟩
  have B1 := Lib.hid (B0.out.trans (hb.mono B0.out.size))
  have P1 := Lib.hid (P0.out.below hb P0.out.lt)
  clear hb F P0
  have lw := P1.out.lt
  have P2 := Lib.hid (P1.out.alloc (.cells #[.int .i64 p.tos, .int .i64 p.id, .int .i64 p.ttl, .int .i64 p.proto, .bool p.df, .bool p.mf, .int .i64 p.off, .string p.src, .string p.dst, .string p.opt, .slice A n c] 24))
  have Q2 := Lib.hid (Blk.new w1 24 #[.int .i64 p.tos, .int .i64 p.id, .int .i64 p.ttl, .int .i64 p.proto, .bool p.df, .bool p.mf, .int .i64 p.off, .string p.src, .string p.dst, .string p.opt, .slice A n c])
  have B2 := Lib.hid (B1.out.alloc B1.out.size (.cells #[.int .i64 p.tos, .int .i64 p.id, .int .i64 p.ttl, .int .i64 p.proto, .bool p.df, .bool p.mf, .int .i64 p.off, .string p.src, .string p.dst, .string p.opt, .slice A n c] 24))
  have H2 := Lib.hid (HL.out.below B2.out)
  have d10 := P2.out.cell 10
  go_wp2_with (first
    | (refine Loads.wpList_load_w rfl 24 (.tmp 1) rfl w.heap.size rfl 24 #[.int .i64 p.tos, .int .i64 p.id, .int .i64 p.ttl, .int .i64 p.proto, .bool p.df, .bool p.mf, .int .i64 p.off, .string p.src, .string p.dst, .string p.opt, .slice A n c] (0, 0) _ P1.out (Tryd.underlying24) rfl (by kernel_rfl) ?_))
  refine (Both.both_lit (B := w.heap.size) B2.out.size [⟨A, n, c, l⟩] _ _ rfl (Both.mem1 H2.out) (w1.heap.size + 1) 1 (by simp) rfl (by decide) (by show n + 0 ≤ 1048576; omega)).mono ?_
  rintro e w3 ⟨A2, c2, rfl, h3, o3, hb⟩
  have e1 : Both.flat [⟨A, n, c, l⟩] = l := by simp [Both.flat]
  have e0 : Both.total [⟨A, n, c, l⟩] = n := rfl
  rw [e1, e0] at o3
  rw [e0]
  have B3 := Lib.hid (B2.out.trans (hb.mono B2.out.size))
  have P3 := Lib.hid (P2.out.below hb P2.out.lt)
  have Q3 := Lib.hid (Q2.out.below hb Q2.out.lt)
  have q10 := Q3.out.cell 10
  have f10 := Q3.out.frozen 10
  have lq := Q3.out.lt
  have Q4 := Lib.hid (Q3.out.put 10 (.slice A2 n c2))
  have P4 := Lib.hid (P3.out.far (p := ⟨w1.heap.size, 10, none⟩) (by show w.heap.size ≠ w1.heap.size; omega) (.slice A2 n c2))
  have B4 := Lib.hid (B3.out.setCell (p := ⟨w1.heap.size, 10, none⟩) (by show w.heap.size ≤ w1.heap.size; omega) (.slice A2 n c2))
  have D4 := Lib.hid ((o3.kept (row := some w1.heap.size) (grown_set w3 ⟨w1.heap.size, 10, none⟩ (.slice A2 n c2)) (owns_ne o3 (by simp))).holds)
  clear hb P2 Q2 B2 H2 h3 o3 P3 Q3 B3 P1 B1 d10
  go_wp2_with (first
    | (refine Loads.wpList_load_w rfl 24 (.tmp 3) rfl w1.heap.size rfl 24 #[.int .i64 p.tos, .int .i64 p.id, .int .i64 p.ttl, .int .i64 p.proto, .bool p.df, .bool p.mf, .int .i64 p.off, .string p.src, .string p.dst, .string p.opt, .slice A2 n c2] (0, 0) _ Q4.out (Tryd.underlying24) rfl (by kernel_rfl) ?_))
  generalize w3.setCell ⟨w1.heap.size, 10, none⟩ (.slice A2 n c2) = w4 at *
  refine (OKB.out A2 c2 _ (G0.out.keep B4.out) _ D4.out (Nat.le_refl _)).mono ?_
  rintro e w5 ⟨v5, rfl, o5, hb⟩
  obtain ⟨A5, c5, rfl, h5⟩ := o5.slice
  have H5 := Lib.hid h5
  clear o5 h5
  have B5 := Lib.hid (B4.out.trans (hb.mono B4.out.size))
  have C5 := Lib.hid hb
  have P5 := Lib.hid (P4.out.below hb P4.out.lt)
  have Q5 := Lib.hid (Q4.out.below hb Q4.out.lt)
  clear hb P4 Q4 B4
  go_wp2_with (first
    | (refine Loads.wpList_load_w rfl 24 (.tmp 1) rfl w.heap.size rfl 24 #[.int .i64 p.tos, .int .i64 p.id, .int .i64 p.ttl, .int .i64 p.proto, .bool p.df, .bool p.mf, .int .i64 p.off, .string p.src, .string p.dst, .string p.opt, .slice A n c] (0, 0) _ P5.out (Tryd.underlying24) rfl (by kernel_rfl) ?_))
  refine (CR.out _).mono ?_
  rintro e w6 ⟨rfl, hb⟩
  rw [CK0.out]
  have B6 := Lib.hid (B5.out.trans (hb.mono B5.out.size))
  have C6 := Lib.hid (C5.out.trans (hb.mono C5.out.size))
  have X6 := Lib.hid hb
  have P6 := Lib.hid (P5.out.below hb P5.out.lt)
  have Q6 := Lib.hid (Q5.out.below hb Q5.out.lt)
  clear hb P5 Q5 B5 C5
  go_wp2_with (first
    | (refine Loads.wpList_load_w rfl 24 (.tmp 3) rfl w1.heap.size rfl 24 #[.int .i64 p.tos, .int .i64 p.id, .int .i64 p.ttl, .int .i64 p.proto, .bool p.df, .bool p.mf, .int .i64 p.off, .string p.src, .string p.dst, .string p.opt, .slice A2 n c2] (0, 0) _ Q6.out (Tryd.underlying24) rfl (by kernel_rfl) ?_))
  refine (CC.out A2 n c2 rfl _ (G0.out.keep B6.out)).mono ?_
  rintro e w7 ⟨rfl, hb⟩
  rw [CK0.out]
  have B7 := Lib.hid (B6.out.trans (hb.mono B6.out.size))
  have C7 := Lib.hid (C6.out.trans (hb.mono C6.out.size))
  have X7 := Lib.hid (X6.out.trans (hb.mono X6.out.size))
  have P7 := Lib.hid (P6.out.below hb P6.out.lt)
  have Q7 := Lib.hid (Q6.out.below hb Q6.out.lt)
  clear hb P6 Q6 B6 C6
  have SY := Lib.hid (same_yes p A2 A n c2 n c _ l w7 ((D4.out.below C7.out).more C7.out.size) ((HL.out.below B7.out).more B7.out.size) (Nat.le_refl _))
  unfold val at SY
  go_wp2_with (first
    | (refine Loads.wpList_load_w rfl 24 (.tmp 3) rfl w1.heap.size rfl 24 #[.int .i64 p.tos, .int .i64 p.id, .int .i64 p.ttl, .int .i64 p.proto, .bool p.df, .bool p.mf, .int .i64 p.off, .string p.src, .string p.dst, .string p.opt, .slice A2 n c2] (0, 0) _ Q7.out (Tryd.underlying24) rfl (by kernel_rfl) ?_)
    | (refine Loads.wpList_load_w rfl 24 (.tmp 1) rfl w.heap.size rfl 24 #[.int .i64 p.tos, .int .i64 p.id, .int .i64 p.ttl, .int .i64 p.proto, .bool p.df, .bool p.mf, .int .i64 p.off, .string p.src, .string p.dst, .string p.opt, .slice A n c] (0, 0) _ P7.out (Tryd.underlying24) rfl (by kernel_rfl) ?_))
  refine SY.out.mono ?_
  rintro e w8 ⟨rfl, hb⟩
  have B8 := Lib.hid (B7.out.trans (hb.mono B7.out.size))
  have X8 := Lib.hid (X7.out.trans (hb.mono X7.out.size))
  have P8 := Lib.hid (P7.out.below hb P7.out.lt)
  clear hb SY P7 Q7 B7 C7
  go_wp2_with fail
  obtain ⟨N, hN⟩ : ∃ N, N = 20 + p.opt.size + n := ⟨_, rfl⟩
  obtain ⟨bstr, hbs⟩ : ∃ bstr, strOfNums (p.bytes l) = bstr := ⟨_, rfl⟩
  have BS := Lib.hid hbs
  have H8 := Lib.hid ((H5.out.below X8.out).more X8.out.size)
  rw [← hN] at H8 BR ⊢
  clear hbs hN
  refine wp_region_freeP [0, 1, 2, 3, 4, 5, 6, 7, 8] 9 [] [(1, true)] (fun w1 w2 => Below w1.heap.size w1 w2) (fun k' w' v => match k' with
    | 0 => v = .bool true
    | 1 => v = .bool true
    | 2 => v = .slice A5 N c5
    | 3 => v = .string bstr
    | 4 => v = .agg #[.int .i64 p.tos, .int .i64 p.id, .int .i64 p.ttl, .int .i64 p.proto, .bool p.df, .bool p.mf, .int .i64 p.off, .string p.src, .string p.dst, .string p.opt, .slice A n c]
    | 5 => Lies w' v N (p.bytes l)
    | 6 => v = .string bstr
    | 7 => v = .bool true
    | _ => v = .bool true) (by kernel_rfl) (by kernel_rfl) (fun q hq w v hv => ?_) (Below.refl _ _) (fun _ _ _ h k => h.trans (k.mono h.size)) (fun k' w1 w2 v h => match k' with
    | 0 => fun x => x
    | 1 => fun x => x
    | 2 => fun x => x
    | 3 => fun x => x
    | 4 => fun x => x
    | 5 => fun x => Lies.below x h
    | 6 => fun x => x
    | 7 => fun x => x
    | _ + 8 => fun x => x) (fun _ _ _ _ _ h => h) ?_ _ (by rfl) ?_
  · simp only [List.mem_cons, List.not_mem_nil, or_false] at hq
    rcases hq with rfl <;> exact hv
  · refine obs_cons (by rfl) (fun vals w' hgr hdep K hK => ?_) (obs_cons (by rfl) (fun vals w' hgr hdep K hK => ?_) (obs_cons (by rfl) (fun vals w' hgr hdep K hK => ?_) (obs_cons (by rfl) (fun vals w' hgr hdep K hK => ?_) (obs_cons (by rfl) (fun vals w' hgr hdep K hK => ?_) (obs_cons (by rfl) (fun vals w' hgr hdep K hK => ?_) (obs_cons (by rfl) (fun vals w' hgr hdep K hK => ?_) (obs_cons (by rfl) (fun vals w' hgr hdep K hK => ?_) (obs_cons (by rfl) (fun vals w' hgr hdep K hK => ?_) (obs_nil)))))))))
    · exact wp_call 14 [] _ rfl ent_awake [] rfl (fun v w'' => v = .bool true ∧ Below w'.heap.size w' w'') ((awake_any w' (G0.out.keep (B8.out.trans (((below_drewN (Below.refl w8.heap.size w8) 1).trans hgr).mono B8.out.size)))).mono fun e w'' ⟨h1, h2⟩ => ⟨_, h1, rfl, h2⟩) (fun v w'' ⟨h1, h2⟩ => hK v _ h2 h1)
    · exact wp_move (.tmp 46) rfl _ ((at_dst 0 (by kernel_rfl)).trans (hdep 0 (by simp) (by kernel_rfl))) (hK _ _ (Below.refl _ _) rfl)
    · exact wp_move (.tmp 4) rfl _ (at_out _ (by kernel_rfl) rfl) (hK _ _ (Below.refl _ _) rfl)
    · exact wp_conv (.tmp 48) rfl _ _ ((at_dst 2 (by kernel_rfl)).trans (hdep 2 (by simp) (by kernel_rfl))) (by have := run_string_bytes (H8.out.below ((below_drewN (Below.refl w8.heap.size w8) 1).trans hgr)); rwa [BS.out] at this) (hK _ _ (Below.refl _ _) rfl)
    · exact st_load_row 24 (.tmp 1) rfl w.heap.size (at_out _ (by kernel_rfl) rfl) 24 #[.int .i64 p.tos, .int .i64 p.id, .int .i64 p.ttl, .int .i64 p.proto, .bool p.df, .bool p.mf, .int .i64 p.off, .string p.src, .string p.dst, .string p.opt, .slice A n c] (0, 0) _ (P8.out.below ((below_drewN (Below.refl w8.heap.size w8) 1).trans hgr) P8.out.lt) Tryd.underlying24 rfl (by kernel_rfl) (hK _ _ (Below.refl _ _) rfl)
    · exact wp_call 15 [.tmp 50] _ rfl ent_bref [.agg #[.int .i64 p.tos, .int .i64 p.id, .int .i64 p.ttl, .int .i64 p.proto, .bool p.df, .bool p.mf, .int .i64 p.off, .string p.src, .string p.dst, .string p.opt, .slice A n c]] (congrArg (fun z => [z]) ((at_dst 4 (by kernel_rfl)).trans (hdep 4 (by simp) (by kernel_rfl)))) (fun v w'' => Lies w'' v N (p.bytes l) ∧ Below w'.heap.size w' w'') ((BR.out w' (B8.out.trans (((below_drewN (Below.refl w8.heap.size w8) 1).trans hgr).mono B8.out.size))).mono fun e w'' ⟨v, h1, h2, h3⟩ => ⟨v, h1, lies_own h2, h3⟩) (fun v w'' ⟨h1, h2⟩ => hK v _ h2 h1)
    · obtain ⟨A6, c6, e6, l6⟩ := hdep 5 (by simp) (by kernel_rfl)
      exact wp_conv (.tmp 51) rfl _ _ ((at_dst 5 (by kernel_rfl)).trans e6) (by have := run_string_bytes l6; rwa [BS.out] at this) (hK _ _ (Below.refl _ _) rfl)
    · exact wp_bin (.tmp 49) (.tmp 52) rfl _ _ _ ((at_dst 3 (by kernel_rfl)).trans (hdep 3 (by simp) (by kernel_rfl))) ((at_dst 6 (by kernel_rfl)).trans (hdep 6 (by simp) (by kernel_rfl))) (eql_same bstr _ _ _) (hK _ _ (Below.refl _ _) rfl)
    · exact st_pick (.tmp 47) (.tmp 53) _ rfl _ ((at_dst 1 (by kernel_rfl)).trans (hdep 1 (by simp) (by kernel_rfl))) ((at_dst 7 (by kernel_rfl)).trans (hdep 7 (by simp) (by kernel_rfl))) (hK _ _ (Below.refl _ _) rfl)
  · intro vals w' hgr hG
    refine st_assign (.tmp 54) _ rfl ((at_dst 8 (by kernel_rfl)).trans (hG 8 (by simp))) (wpAnyH_done (by kernel_rfl) ?_ _)
    have B9 := Lib.hid (B8.out.trans (((below_drewN (Below.refl w8.heap.size w8) 1).trans hgr).mono B8.out.size))
    clear hG hgr
    simp only [fill, dstAt, List.getElem?_cons_zero, List.getElem?_cons_succ, Option.bind_some, Act.put, List.setIfInBounds_toArray, List.set_cons_zero, List.set_cons_succ]
    go_wp2_with fail
    go_ret
    exact ⟨rfl, B9.out⟩

theorem lays_any (p : Pkt) (A : Option Addr) (n c : Nat) (l : List Int) (w : World) (hg : Handle w) (h : Holds w w.heap.size A n c l) (z : p.src.size ≤ 140737488355328 ∧ p.dst.size ≤ 140737488355328 ∧ p.opt.size ≤ 140737488355328 ∧ n ≤ 140737488355328) :
    Calls Tryd.prog 3 #[val p (.slice A n c)] w (Yes w) := by
  cases hf : fewB p n with
  | false => exact lays_no p A n c w z.1 z.2.1 z.2.2.1 z.2.2.2 hf
  | true =>
    by_cases hk : p.chk n = 0
    · exact lays_ok p A n c l w hg h hf hk
    · exact lays_err p A n c l w hg h hf hk
end Go.Proofs.YtjhfginopbjldaaDoor.LawLays
