/- The law IcmpLays. -/
import Derived.Test.YthmleabmklnmcaaDoorLawKinds
import Derived.Test.YthmleabmklnmcaaDoorIcmB
set_option linter.unusedVariables false
namespace Go.Proofs.YthmleabmklnmcaaDoor.LawLays
open Go.RowKit Go.Sort Go.Proofs.YthmleabmklnmcaaDoor.Sums Go.Proofs.YthmleabmklnmcaaDoor.Words Go.Proofs.YthmleabmklnmcaaDoor.Mem Go.Proofs.YthmleabmklnmcaaDoor.Ahead Go.Proofs.YthmleabmklnmcaaDoor.IcmD Go.Proofs.YthmleabmklnmcaaDoor.Blk Go.Proofs.YthmleabmklnmcaaDoor.Bits Go.Proofs.YthmleabmklnmcaaDoor.InetSum Go.Proofs.YthmleabmklnmcaaDoor.Steps Go.Proofs.YthmleabmklnmcaaDoor.Free Go.Proofs.YthmleabmklnmcaaDoor.Cut
open Go.Proofs.YthmleabmklnmcaaDoor.Com Go.Proofs.YthmleabmklnmcaaDoor.Fam Go.Proofs.YthmleabmklnmcaaDoor.IcmC Go.Proofs.YthmleabmklnmcaaDoor.IcmR Go.Proofs.YthmleabmklnmcaaDoor.IcmB Go.Proofs.YthmleabmklnmcaaDoor.MakeR Go.Proofs.YthmleabmklnmcaaDoor.IcmA Go.Proofs.YthmleabmklnmcaaDoor.LawAnswers Go.Proofs.YthmleabmklnmcaaDoor.LawKinds
open Go.Proofs.YthmleabmklnmcaaDoor.Regs (Lies lies_own)

theorem ent_bytes : Enters Tryd.prog 14 := enters_of Tryd.func14 (by kernel_rfl) rfl
theorem list3 {f : Operand → Value} {x y z : Operand} {u v t : Value} (h1 : f x = u) (h2 : f y = v) (h3 : f z = t) : [x, y, z].map f = [u, v, t] := by simp [h1, h2, h3]

theorem lays_no (p : Ic) (A : Option Addr) (n c : Nat) (s d : ByteArray) (w : World) (h1 : s.size ≤ 140737488355328) (h2 : d.size ≤ 140737488355328) (h3 : n ≤ 140737488355328) (hf : fewB s d n = false) :
    Calls Tryd.prog 3 #[.agg #[.int .i64 p.typ, .int .i64 p.code, .int .i64 p.rest, .slice A n c], .string s, .string d] w (Yes w) := by
  have B0 := Lib.hid ((Below.refl w.heap.size w).alloc (Nat.le_refl _) (.cells #[.int .i64 p.typ, .int .i64 p.code, .int .i64 p.rest, .slice A n c] 24))
  have P0 := Lib.hid (Blk.new w 24 #[.int .i64 p.typ, .int .i64 p.code, .int .i64 p.rest, .slice A n c])
  have F := Lib.hid (fun W => few_any p A n c s d W h1 h2 h3)
  rw [hf] at F
  clear hf
  go_enter Tryd.func3, Tryd.ntmps3
  go_wp2_with (refine Loads.wpList_load_w rfl 24 (.tmp 3) rfl w.heap.size rfl 24 #[.int .i64 p.typ, .int .i64 p.code, .int .i64 p.rest, .slice A n c] (0, 0) _ P0.out (Tryd.underlying24) rfl (by kernel_rfl) ?_)
  refine (F.out _).mono ?_
  rintro e w1 ⟨rfl, hb⟩
  have B1 := Lib.hid (B0.out.trans (hb.mono B0.out.size))
  clear hb
  go_wp2_with fail
  go_ret
  exact ⟨rfl, B1.out⟩

set_option maxHeartbeats 4000000 in
set_option maxRecDepth 100000 in
theorem lays_err (p : Ic) (A : Option Addr) (n c : Nat) (l : List Int) (s d : ByteArray) (w : World) (h : Holds w w.heap.size A n c l) (h1 : s.size ≤ 140737488355328) (h2 : d.size ≤ 140737488355328) (h3 : n ≤ 140737488355328) (hf : fewB s d n = true) (hk : p.err s d n ≠ 0) (hfam : Fam w) :
    Calls Tryd.prog 3 #[.agg #[.int .i64 p.typ, .int .i64 p.code, .int .i64 p.rest, .slice A n c], .string s, .string d] w (Yes w) := by
  have B0 := Lib.hid ((Below.refl w.heap.size w).alloc (Nat.le_refl _) (.cells #[.int .i64 p.typ, .int .i64 p.code, .int .i64 p.rest, .slice A n c] 24))
  have P0 := Lib.hid (Blk.new w 24 #[.int .i64 p.typ, .int .i64 p.code, .int .i64 p.rest, .slice A n c])
  have fw := few_true hf
  have F := Lib.hid (fun W => few_any p A n c s d W h1 h2 h3)
  rw [hf] at F
  have HL := Lib.hid h
  have n66 : n ≤ 66000 := fw.2
  have HK := Lib.hid hk
  have F0 := Lib.hid hfam
  clear h hf fw hk hfam
  go_enter Tryd.func3, Tryd.ntmps3
  go_wp2_with (refine Loads.wpList_load_w rfl 24 (.tmp 3) rfl w.heap.size rfl 24 #[.int .i64 p.typ, .int .i64 p.code, .int .i64 p.rest, .slice A n c] (0, 0) _ P0.out (Tryd.underlying24) rfl (by kernel_rfl) ?_)
  refine (F.out _).mono ?_
  rintro e w1 ⟨rfl, hb⟩
  have B1 := Lib.hid (B0.out.trans (hb.mono B0.out.size))
  have P1 := Lib.hid (P0.out.below hb P0.out.lt)
  clear hb F P0
  have Q2 := Lib.hid (Blk.new w1 24 #[.int .i64 p.typ, .int .i64 p.code, .int .i64 p.rest, .slice A n c])
  have P2 := Lib.hid (P1.out.alloc (.cells #[.int .i64 p.typ, .int .i64 p.code, .int .i64 p.rest, .slice A n c] 24))
  have B2 := Lib.hid (B1.out.alloc B1.out.size (.cells #[.int .i64 p.typ, .int .i64 p.code, .int .i64 p.rest, .slice A n c] 24))
  have p2 := P2.out.cell 3
  have hne : w.heap.size < w1.heap.size := P1.out.lt
  go_wp2_with (refine Loads.wpList_load_w rfl 24 (.tmp 3) rfl w.heap.size rfl 24 #[.int .i64 p.typ, .int .i64 p.code, .int .i64 p.rest, .slice A n c] (0, 0) _ P1.out (Tryd.underlying24) rfl (by kernel_rfl) ?_)
  have hz2 : (w1.alloc (.cells #[.int .i64 p.typ, .int .i64 p.code, .int .i64 p.rest, .slice A n c] 24)).heap.size = w1.heap.size + 1 := by simp
  generalize w1.alloc (.cells #[.int .i64 p.typ, .int .i64 p.code, .int .i64 p.rest, .slice A n c] 24) = w2 at *
  refine (Both.both_lit (B := w2.heap.size) (Nat.le_refl _) [⟨A, n, c, l⟩] _ _ rfl (Both.mem1 ((HL.out.below B2.out).more B2.out.size)) _ 1 hz2 rfl (by decide) (by show n + 0 ≤ 1048576; omega)).mono ?_
  rintro e w3 ⟨A2, c2, rfl, h3', o3, hb⟩
  have e1 : Both.flat [⟨A, n, c, l⟩] = l := by simp [Both.flat]
  have e0 : Both.total [⟨A, n, c, l⟩] = n := rfl
  rw [e1, e0] at h3' o3
  rw [e0]
  have H3 := Lib.hid h3'
  have O3 := Lib.hid o3
  have B3 := Lib.hid (B2.out.trans (hb.mono B2.out.size))
  have P3 := Lib.hid (P2.out.below hb P2.out.lt)
  have Q3 := Lib.hid (Q2.out.below hb Q2.out.lt)
  have qc : w3.cell? ⟨w1.heap.size, 3, none⟩ = some (.slice A n c) := Q3.out.cell 3
  have qf := Q3.out.frozen 3
  have Q4 : Hid (Blk (w3.setCell ⟨w1.heap.size, 3, none⟩ (.slice A2 n c2)) w1.heap.size 24 #[.int .i64 p.typ, .int .i64 p.code, .int .i64 p.rest, .slice A2 n c2]) := Lib.hid (Q3.out.put 3 _)
  have P4 := Lib.hid (P3.out.far (p := ⟨w1.heap.size, 3, none⟩) (by show w.heap.size ≠ w1.heap.size; omega) (.slice A2 n c2))
  have B4 := Lib.hid (B3.out.setCell (p := ⟨w1.heap.size, 3, none⟩) (by show w.heap.size ≤ w1.heap.size; omega) (.slice A2 n c2))
  have hq2 := Q2.out.lt
  have H4 : Hid (Holds (w3.setCell ⟨w1.heap.size, 3, none⟩ (.slice A2 n c2)) (w3.setCell ⟨w1.heap.size, 3, none⟩ (.slice A2 n c2)).heap.size A2 n c2 l) := Lib.hid (owns_setCell O3.out (owns_far O3.out hq2) 3 (.slice A2 n c2)).holds
  clear hb h3' o3 e1 e0 p2
  clear P1 P2 P3 Q2 Q3 H3 O3
  go_wp2_with (refine Loads.wpList_load_w rfl 24 (.tmp 7) rfl w1.heap.size rfl 24 #[.int .i64 p.typ, .int .i64 p.code, .int .i64 p.rest, .slice A2 n c2] (0, 0) _ Q4.out (Tryd.underlying24) rfl (by kernel_rfl) ?_)
  clear qc qf
  generalize w3.setCell ⟨w1.heap.size, 3, none⟩ (.slice A2 n c2) = w4 at *
  obtain ⟨g, hg⟩ : ∃ g, g = w1.heap.size := ⟨_, rfl⟩
  rw [← hg] at Q4 ⊢
  clear hg
  refine (bytes_err p A2 n c2 s d w4 (by omega) HK.out).mono ?_
  rintro e w5 ⟨rfl, hb⟩
  have B5 := Lib.hid (B4.out.trans (hb.mono B4.out.size))
  have P5 := Lib.hid (P4.out.below hb P4.out.lt)
  have Q5 := Lib.hid (Q4.out.below hb Q4.out.lt)
  have C5 := Lib.hid hb
  clear hb P4 Q4
  obtain ⟨k, hk⟩ : ∃ k, k = p.err s d n := ⟨_, rfl⟩
  have KH := Lib.hid hk
  rw [← hk]
  clear hk
  go_wp2_with (refine Loads.wpList_load_w rfl 24 (.tmp 3) rfl w.heap.size rfl 24 #[.int .i64 p.typ, .int .i64 p.code, .int .i64 p.rest, .slice A n c] (0, 0) _ P5.out (Tryd.underlying24) rfl (by kernel_rfl) ?_)
  refine (check_ref p A n c s d w5 (by omega)).mono ?_
  rintro e w6 ⟨rfl, hb⟩
  rw [← KH.out]
  have B6 := Lib.hid (B5.out.trans (hb.mono B5.out.size))
  have P6 := Lib.hid (P5.out.below hb P5.out.lt)
  have Q6 := Lib.hid (Q5.out.below hb Q5.out.lt)
  have C6 := Lib.hid (C5.out.trans (hb.mono C5.out.size))
  clear hb P5 Q5 C5
  have SY := Lib.hid (same_yes p A2 n c2 A n c l _ w6 ((H4.out.below C6.out).more C6.out.size) ((HL.out.below B6.out).more B6.out.size) (Nat.le_refl _))
  have m0 : (k != 0) = true := by rw [bne_iff_ne, KH.out]; exact HK.out
  go_wp2_with (first
    | (refine Loads.wpList_load_w rfl 24 (.tmp 7) rfl g rfl 24 #[.int .i64 p.typ, .int .i64 p.code, .int .i64 p.rest, .slice A2 n c2] (0, 0) _ Q6.out (Tryd.underlying24) rfl (by kernel_rfl) ?_)
    | (refine Loads.wpList_load_w rfl 24 (.tmp 3) rfl w.heap.size rfl 24 #[.int .i64 p.typ, .int .i64 p.code, .int .i64 p.rest, .slice A n c] (0, 0) _ P6.out (Tryd.underlying24) rfl (by kernel_rfl) ?_))
  refine SY.out.mono ?_
  rintro e w7 ⟨rfl, hb⟩
  have B7 := Lib.hid (B6.out.trans (hb.mono B6.out.size))
  clear hb P6 Q6 C6 SY
  go_wp2_with fail
  refine (awake_any _ (F0.out.below B7.out)).mono ?_
  rintro e w8 ⟨rfl, hb⟩
  have B8 := Lib.hid (B7.out.trans (hb.mono B7.out.size))
  clear hb
  go_wp2_with fail
  go_ret
  exact ⟨rfl, B8.out⟩

set_option maxHeartbeats 4000000 in
set_option maxRecDepth 100000 in
theorem lays_ok (p : Ic) (A : Option Addr) (n c : Nat) (l : List Int) (s d : ByteArray) (w : World) (h : Holds w w.heap.size A n c l) (h1 : s.size ≤ 140737488355328) (h2 : d.size ≤ 140737488355328) (h3 : n ≤ 140737488355328) (hf : fewB s d n = true) (hk : p.err s d n = 0) (hfam : Fam w) :
    Calls Tryd.prog 3 #[.agg #[.int .i64 p.typ, .int .i64 p.code, .int .i64 p.rest, .slice A n c], .string s, .string d] w (Yes w) := by
  have B0 := Lib.hid ((Below.refl w.heap.size w).alloc (Nat.le_refl _) (.cells #[.int .i64 p.typ, .int .i64 p.code, .int .i64 p.rest, .slice A n c] 24))
  have P0 := Lib.hid (Blk.new w 24 #[.int .i64 p.typ, .int .i64 p.code, .int .i64 p.rest, .slice A n c])
  have fw := few_true hf
  have F := Lib.hid (fun W => few_any p A n c s d W h1 h2 h3)
  rw [hf] at F
  have HL := Lib.hid h
  have n66 : n ≤ 66000 := fw.2
  have HK := Lib.hid hk
  have F0 := Lib.hid hfam
  clear h hf fw hk hfam
  go_enter Tryd.func3, Tryd.ntmps3
  go_wp2_with (refine Loads.wpList_load_w rfl 24 (.tmp 3) rfl w.heap.size rfl 24 #[.int .i64 p.typ, .int .i64 p.code, .int .i64 p.rest, .slice A n c] (0, 0) _ P0.out (Tryd.underlying24) rfl (by kernel_rfl) ?_)
  refine (F.out _).mono ?_
  rintro e w1 ⟨rfl, hb⟩
  have B1 := Lib.hid (B0.out.trans (hb.mono B0.out.size))
  have P1 := Lib.hid (P0.out.below hb P0.out.lt)
  clear hb F P0
  have Q2 := Lib.hid (Blk.new w1 24 #[.int .i64 p.typ, .int .i64 p.code, .int .i64 p.rest, .slice A n c])
  have P2 := Lib.hid (P1.out.alloc (.cells #[.int .i64 p.typ, .int .i64 p.code, .int .i64 p.rest, .slice A n c] 24))
  have B2 := Lib.hid (B1.out.alloc B1.out.size (.cells #[.int .i64 p.typ, .int .i64 p.code, .int .i64 p.rest, .slice A n c] 24))
  have p2 := P2.out.cell 3
  have hne : w.heap.size < w1.heap.size := P1.out.lt
  go_wp2_with (refine Loads.wpList_load_w rfl 24 (.tmp 3) rfl w.heap.size rfl 24 #[.int .i64 p.typ, .int .i64 p.code, .int .i64 p.rest, .slice A n c] (0, 0) _ P1.out (Tryd.underlying24) rfl (by kernel_rfl) ?_)
  have hz2 : (w1.alloc (.cells #[.int .i64 p.typ, .int .i64 p.code, .int .i64 p.rest, .slice A n c] 24)).heap.size = w1.heap.size + 1 := by simp
  generalize w1.alloc (.cells #[.int .i64 p.typ, .int .i64 p.code, .int .i64 p.rest, .slice A n c] 24) = w2 at *
  refine (Both.both_lit (B := w2.heap.size) (Nat.le_refl _) [⟨A, n, c, l⟩] _ _ rfl (Both.mem1 ((HL.out.below B2.out).more B2.out.size)) _ 1 hz2 rfl (by decide) (by show n + 0 ≤ 1048576; omega)).mono ?_
  rintro e w3 ⟨A2, c2, rfl, h3', o3, hb⟩
  have e1 : Both.flat [⟨A, n, c, l⟩] = l := by simp [Both.flat]
  have e0 : Both.total [⟨A, n, c, l⟩] = n := rfl
  rw [e1, e0] at h3' o3
  rw [e0]
  have H3 := Lib.hid h3'
  have O3 := Lib.hid o3
  have B3 := Lib.hid (B2.out.trans (hb.mono B2.out.size))
  have P3 := Lib.hid (P2.out.below hb P2.out.lt)
  have Q3 := Lib.hid (Q2.out.below hb Q2.out.lt)
  have qc : w3.cell? ⟨w1.heap.size, 3, none⟩ = some (.slice A n c) := Q3.out.cell 3
  have qf := Q3.out.frozen 3
  have Q4 : Hid (Blk (w3.setCell ⟨w1.heap.size, 3, none⟩ (.slice A2 n c2)) w1.heap.size 24 #[.int .i64 p.typ, .int .i64 p.code, .int .i64 p.rest, .slice A2 n c2]) := Lib.hid (Q3.out.put 3 _)
  have P4 := Lib.hid (P3.out.far (p := ⟨w1.heap.size, 3, none⟩) (by show w.heap.size ≠ w1.heap.size; omega) (.slice A2 n c2))
  have B4 := Lib.hid (B3.out.setCell (p := ⟨w1.heap.size, 3, none⟩) (by show w.heap.size ≤ w1.heap.size; omega) (.slice A2 n c2))
  have hq2 := Q2.out.lt
  have H4 : Hid (Holds (w3.setCell ⟨w1.heap.size, 3, none⟩ (.slice A2 n c2)) (w3.setCell ⟨w1.heap.size, 3, none⟩ (.slice A2 n c2)).heap.size A2 n c2 l) := Lib.hid (owns_setCell O3.out (owns_far O3.out hq2) 3 (.slice A2 n c2)).holds
  clear hb h3' o3 e1 e0 p2
  clear P1 P2 P3 Q2 Q3 H3 O3
  go_wp2_with (refine Loads.wpList_load_w rfl 24 (.tmp 7) rfl w1.heap.size rfl 24 #[.int .i64 p.typ, .int .i64 p.code, .int .i64 p.rest, .slice A2 n c2] (0, 0) _ Q4.out (Tryd.underlying24) rfl (by kernel_rfl) ?_)
  clear qc qf
  generalize w3.setCell ⟨w1.heap.size, 3, none⟩ (.slice A2 n c2) = w4 at *
  obtain ⟨g, hg⟩ : ∃ g, g = w1.heap.size := ⟨_, rfl⟩
  rw [← hg] at Q4 ⊢
  clear hg
  refine (bytes_ok p A2 n c2 l s d w4 _ H4.out (Nat.le_refl _) HK.out).mono ?_
  rintro e w5 ⟨v5, rfl, o5, hb⟩
  obtain ⟨A5, c5, rfl, h5⟩ := o5.slice
  have H5 := Lib.hid h5
  clear h5 o5
  have B5 := Lib.hid (B4.out.trans (hb.mono B4.out.size))
  have P5 := Lib.hid (P4.out.below hb P4.out.lt)
  have Q5 := Lib.hid (Q4.out.below hb Q4.out.lt)
  have C5 := Lib.hid hb
  clear hb P4 Q4
  obtain ⟨k, hk⟩ : ∃ k, k = p.err s d n := ⟨_, rfl⟩
  have KH := Lib.hid hk
  clear hk
  go_wp2_with (refine Loads.wpList_load_w rfl 24 (.tmp 3) rfl w.heap.size rfl 24 #[.int .i64 p.typ, .int .i64 p.code, .int .i64 p.rest, .slice A n c] (0, 0) _ P5.out (Tryd.underlying24) rfl (by kernel_rfl) ?_)
  refine (check_ref p A n c s d w5 (by omega)).mono ?_
  rintro e w6 ⟨rfl, hb⟩
  rw [← KH.out]
  have B6 := Lib.hid (B5.out.trans (hb.mono B5.out.size))
  have P6 := Lib.hid (P5.out.below hb P5.out.lt)
  have Q6 := Lib.hid (Q5.out.below hb Q5.out.lt)
  have C6 := Lib.hid (C5.out.trans (hb.mono C5.out.size))
  have D6 := Lib.hid hb
  clear hb P5 Q5 C5
  have SY := Lib.hid (same_yes p A2 n c2 A n c l _ w6 ((H4.out.below C6.out).more C6.out.size) ((HL.out.below B6.out).more B6.out.size) (Nat.le_refl _))
  obtain rfl : k = 0 := KH.out.trans HK.out
  go_wp2_with (first
    | (refine Loads.wpList_load_w rfl 24 (.tmp 7) rfl g rfl 24 #[.int .i64 p.typ, .int .i64 p.code, .int .i64 p.rest, .slice A2 n c2] (0, 0) _ Q6.out (Tryd.underlying24) rfl (by kernel_rfl) ?_)
    | (refine Loads.wpList_load_w rfl 24 (.tmp 3) rfl w.heap.size rfl 24 #[.int .i64 p.typ, .int .i64 p.code, .int .i64 p.rest, .slice A n c] (0, 0) _ P6.out (Tryd.underlying24) rfl (by kernel_rfl) ?_))
  refine SY.out.mono ?_
  rintro e w7 ⟨rfl, hb⟩
  have B7 := Lib.hid (B6.out.trans (hb.mono B6.out.size))
  have P7 := Lib.hid (P6.out.below hb P6.out.lt)
  have H7 := Lib.hid ((H5.out.below (D6.out.trans (hb.mono D6.out.size))).more (Nat.le_trans D6.out.size hb.size))
  clear hb P6 Q6 C6 D6 H5 SY
  obtain ⟨NN, hN⟩ : ∃ NN, NN = 8 + n := ⟨_, rfl⟩
  obtain ⟨bstr, hbs⟩ : ∃ bstr, strOfNums (p.bytes s d l) = bstr := ⟨_, rfl⟩
  have BS := Lib.hid hbs
  have BR := Lib.hid (fun W (bel : Below w.heap.size w W) => bytes_ref p A n c l s d W w.heap.size (HL.out.below bel) bel.size HK.out)
  rw [← hN] at H7 BR ⊢
  clear hbs hN
  go_wp2_with fail
  have PW := Lib.hid P7.out.drew
  have GR : Hid (∀ w', Below w7.drew.heap.size w7.drew w' → Below w7.heap.size w7 w') := Lib.hid fun w' hw => (below_drewN (Below.refl w7.heap.size w7) 1).trans hw
  refine wp_region_freeP [0, 1, 2, 3, 4, 5, 6, 7, 8, 9, 10] 11 [] [(1, true)] (fun w1 w2 => Below w1.heap.size w1 w2) (fun k' w' v => match k' with
    | 0 => v = .bool true
    | 1 => v = .bool true
    | 2 => v = .slice A5 NN c5
    | 3 => v = .string bstr
    | 4 => v = .agg #[.int .i64 p.typ, .int .i64 p.code, .int .i64 p.rest, .slice A n c]
    | 5 => v = .string s
    | 6 => v = .string d
    | 7 => Lies w' v NN (p.bytes s d l)
    | 8 => v = .string bstr
    | 9 => v = .bool true
    | _ => v = .bool true) (by kernel_rfl) (by kernel_rfl) (fun q hq w v hv => ?_) (Below.refl _ _) (fun _ _ _ h k => h.trans (k.mono h.size)) (fun k' w1 w2 v h => match k' with
    | 0 => fun x => x
    | 1 => fun x => x
    | 2 => fun x => x
    | 3 => fun x => x
    | 4 => fun x => x
    | 5 => fun x => x
    | 6 => fun x => x
    | 7 => fun x => Regs.Lies.below x h
    | 8 => fun x => x
    | 9 => fun x => x
    | _ + 10 => fun x => x) (fun _ _ _ _ _ h => h) ?_ _ (by rfl) ?_
  · simp only [List.mem_cons, List.not_mem_nil, or_false] at hq
    rcases hq with rfl <;> exact hv
  · refine obs_cons (by rfl) (fun vals w' hgr hdep K hK => ?_) (obs_cons (by rfl) (fun vals w' hgr hdep K hK => ?_) (obs_cons (by rfl) (fun vals w' hgr hdep K hK => ?_) (obs_cons (by rfl) (fun vals w' hgr hdep K hK => ?_) (obs_cons (by rfl) (fun vals w' hgr hdep K hK => ?_) (obs_cons (by rfl) (fun vals w' hgr hdep K hK => ?_) (obs_cons (by rfl) (fun vals w' hgr hdep K hK => ?_) (obs_cons (by rfl) (fun vals w' hgr hdep K hK => ?_) (obs_cons (by rfl) (fun vals w' hgr hdep K hK => ?_) (obs_cons (by rfl) (fun vals w' hgr hdep K hK => ?_) (obs_cons (by rfl) (fun vals w' hgr hdep K hK => ?_) (obs_nil)))))))))))
    · exact wp_call 13 [] _ rfl ent_awake [] rfl (fun v w'' => v = .bool true ∧ Below w'.heap.size w' w'') ((awake_any w' (F0.out.below (B7.out.trans ((GR.out w' hgr).mono B7.out.size)))).mono fun e w'' ⟨h1, h2⟩ => ⟨_, h1, rfl, h2⟩) (fun v w'' ⟨h1, h2⟩ => hK v _ h2 h1)
    · exact wp_move (.tmp 50) rfl _ ((at_dst 0 (by kernel_rfl)).trans (hdep 0 (by simp) (by kernel_rfl))) (hK _ _ (Below.refl _ _) rfl)
    · exact wp_move (.tmp 8) rfl _ (at_out _ (by kernel_rfl) rfl) (hK _ _ (Below.refl _ _) rfl)
    · exact wp_conv (.tmp 52) rfl _ _ ((at_dst 2 (by kernel_rfl)).trans (hdep 2 (by simp) (by kernel_rfl))) (by have := run_string_bytes (H7.out.below (GR.out w' hgr)); rwa [BS.out] at this) (hK _ _ (Below.refl _ _) rfl)
    · exact st_load_row 24 (.tmp 3) rfl w.heap.size (at_out _ (by kernel_rfl) rfl) 24 #[.int .i64 p.typ, .int .i64 p.code, .int .i64 p.rest, .slice A n c] (0, 0) _ (PW.out.below hgr PW.out.lt) Tryd.underlying24 rfl (by kernel_rfl) (hK _ _ (Below.refl _ _) rfl)
    · exact wp_move (.tmp 1) rfl _ (at_out _ (by kernel_rfl) rfl) (hK _ _ (Below.refl _ _) rfl)
    · exact wp_move (.tmp 2) rfl _ (at_out _ (by kernel_rfl) rfl) (hK _ _ (Below.refl _ _) rfl)
    · exact wp_call 14 [.tmp 54, .tmp 55, .tmp 56] _ rfl ent_bytes [.agg #[.int .i64 p.typ, .int .i64 p.code, .int .i64 p.rest, .slice A n c], .string s, .string d] (list3 ((at_dst 4 (by kernel_rfl)).trans (hdep 4 (by simp) (by kernel_rfl))) ((at_dst 5 (by kernel_rfl)).trans (hdep 5 (by simp) (by kernel_rfl))) ((at_dst 6 (by kernel_rfl)).trans (hdep 6 (by simp) (by kernel_rfl)))) (fun v w'' => Lies w'' v NN (p.bytes s d l) ∧ Below w'.heap.size w' w'') ((BR.out w' (B7.out.trans ((GR.out w' hgr).mono B7.out.size))).mono fun e w'' ⟨v, h1, h2, h3⟩ => ⟨v, h1, lies_own h2, h3⟩) (fun v w'' ⟨h1, h2⟩ => hK v _ h2 h1)
    · obtain ⟨A6, c6, e6, l6⟩ := hdep 7 (by simp) (by kernel_rfl)
      exact wp_conv (.tmp 57) rfl _ _ ((at_dst 7 (by kernel_rfl)).trans e6) (by have := run_string_bytes l6; rwa [BS.out] at this) (hK _ _ (Below.refl _ _) rfl)
    · exact wp_bin (.tmp 53) (.tmp 58) rfl _ _ _ ((at_dst 3 (by kernel_rfl)).trans (hdep 3 (by simp) (by kernel_rfl))) ((at_dst 8 (by kernel_rfl)).trans (hdep 8 (by simp) (by kernel_rfl))) (eql_str bstr _ _ _) (hK _ _ (Below.refl _ _) rfl)
    · exact st_pick (.tmp 51) (.tmp 59) _ rfl _ ((at_dst 1 (by kernel_rfl)).trans (hdep 1 (by simp) (by kernel_rfl))) ((at_dst 9 (by kernel_rfl)).trans (hdep 9 (by simp) (by kernel_rfl))) (hK _ _ (Below.refl _ _) rfl)
  · intro vals w' hgr hG
    refine st_assign (.tmp 60) _ rfl ((at_dst 10 (by kernel_rfl)).trans (hG 10 (by simp))) (wpAnyH_done (by kernel_rfl) ?_ _)
    have B8 := Lib.hid (B7.out.trans ((GR.out _ hgr).mono B7.out.size))
    clear hG hgr
    simp only [fill, dstAt, List.getElem?_cons_zero, List.getElem?_cons_succ, Option.bind_some, Act.put, List.setIfInBounds_toArray, List.set_cons_zero, List.set_cons_succ]
    go_wp2_with fail
    go_ret
    exact ⟨rfl, B8.out⟩

theorem lays_any (p : Ic) (A : Option Addr) (n c : Nat) (l : List Int) (s d : ByteArray) (w : World) (h : Holds w w.heap.size A n c l) (h1 : s.size ≤ 140737488355328) (h2 : d.size ≤ 140737488355328) (h3 : n ≤ 140737488355328) (hfam : Fam w) :
    Calls Tryd.prog 3 #[.agg #[.int .i64 p.typ, .int .i64 p.code, .int .i64 p.rest, .slice A n c], .string s, .string d] w (Yes w) := by
  cases hf : fewB s d n with
  | false => exact lays_no p A n c s d w h1 h2 h3 hf
  | true =>
    by_cases hk : p.err s d n = 0
    · exact lays_ok p A n c l s d w h h1 h2 h3 hf hk hfam
    · exact lays_err p A n c l s d w h h1 h2 h3 hf hk hfam
end Go.Proofs.YthmleabmklnmcaaDoor.LawLays
