/- The law Ip6Lays. -/
import Derived.Test.YtjfieoleoodfdaaBytesRef6
import Derived.Test.YtjfieoleoodfdaaCheckRef6
set_option linter.unusedVariables false
namespace Go.Proofs.Ytjfieoleoodfdaa.LawLays
open Go.RowKit Go.Sort Go.Proofs.Ytjfieoleoodfdaa.Free Go.Proofs.Ytjfieoleoodfdaa.Steps Go.Proofs.Ytjfieoleoodfdaa.Sums Go.Proofs.Ytjfieoleoodfdaa.Mem Go.Proofs.Ytjfieoleoodfdaa.P6 Go.Proofs.Ytjfieoleoodfdaa.Blk Go.Proofs.Ytjfieoleoodfdaa.Small6 Go.Proofs.Ytjfieoleoodfdaa.Loads6 Go.Proofs.Ytjfieoleoodfdaa.Exts Go.Proofs.Ytjfieoleoodfdaa.Opts Go.Proofs.Ytjfieoleoodfdaa.Dec6 Go.Proofs.Ytjfieoleoodfdaa.Bytes6 Go.Proofs.Ytjfieoleoodfdaa.Same6 Go.Proofs.Ytjfieoleoodfdaa.Awake6 Go.Proofs.Ytjfieoleoodfdaa.Check6 Go.Proofs.Ytjfieoleoodfdaa.CheckRef6 Go.Proofs.Ytjfieoleoodfdaa.LawFields Go.Proofs.Ytjfieoleoodfdaa.Own6 Go.Proofs.Ytjfieoleoodfdaa.BytesRef

theorem ent_awake : Enters Try.prog 15 := enters_of Try.func15 (by kernel_rfl) rfl
theorem ent_bytes : Enters Try.prog 16 := enters_of Try.func16 (by kernel_rfl) rfl
theorem lies_own {w : World} {base n : Nat} {v : Value} {l : List Int} (h : Owns w base v n l) : Lies w v n l := by
  obtain ⟨A, c, rfl, hh⟩ := h.slice
  exact ⟨A, c, rfl, hh⟩
theorem eql_str (s : ByteArray) (x y : Operand) (w : World) : (do eqGuard .eql 9 x y (.string s) (.string s); binOp .eql 9 (.string s) (.string s) : Sem Value).run Try.prog w = .ok (.bool true) w := by
  simp [go_sem, eqGuard]
theorem st_pick {o : Oper} {a : Act} {w : World} {K : Act → World → Prop} {Q : Exit → Act → World → Prop} (c x y : Operand) (ho : o.op = .pick c x y) (v : Value) (hc : a.eval c = .bool true) (hx : a.eval x = v) (hK : K (a.put o.dst v) w) : Step Try.prog o a w K Q :=
  wp_value v (by simp [execOp, ho, hc, hx, asBool]) hK

theorem lays_no (p : Pkt) (E : Option Addr) (m ce : Nat) (A : Option Addr) (n c : Nat) (l : List Int) (kd : Int) (w : World) (h : Got p E m ce A n c l w) (hf : fewB p n = false) :
    Calls Try.prog 3 #[.agg #[.int .i64 p.cls, .int .i64 p.lab, .int .i64 p.hop, .string p.src, .string p.dst, .slice E m ce, .int .i64 p.next, .slice A n c], .int .i64 kd] w (Yes w) := by
  have B0 := Lib.hid ((Below.refl w.heap.size w).alloc (Nat.le_refl _) (.cells #[.int .i64 p.cls, .int .i64 p.lab, .int .i64 p.hop, .string p.src, .string p.dst, .slice E m ce, .int .i64 p.next, .slice A n c] 25))
  have F := Lib.hid (h.few _ B0.out)
  unfold Fw at F
  rw [hf] at F
  clear h hf
  go_enter Try.func3, Try.ntmps3
  go_wp2_with fail
  refine F.out.mono ?_
  rintro e w1 ⟨rfl, hb⟩
  have B1 := Lib.hid (B0.out.trans (hb.mono B0.out.size))
  clear hb
  go_wp2_with fail
  go_ret
  exact ⟨rfl, B1.out⟩

set_option maxHeartbeats 8000000 in
set_option maxRecDepth 100000 in
theorem lays_err (p : Pkt) (E : Option Addr) (m ce : Nat) (A : Option Addr) (n c : Nat) (l : List Int) (kd : Int) (w : World) (h : Got p E m ce A n c l w) (hf : fewB p n = true) (hk : p.chk n ≠ 0) :
    Calls Try.prog 3 #[.agg #[.int .i64 p.cls, .int .i64 p.lab, .int .i64 p.hop, .string p.src, .string p.dst, .slice E m ce, .int .i64 p.next, .slice A n c], .int .i64 kd] w (Yes w) := by
  have B0 := Lib.hid ((Below.refl w.heap.size w).alloc (Nat.le_refl _) (.cells #[.int .i64 p.cls, .int .i64 p.lab, .int .i64 p.hop, .string p.src, .string p.dst, .slice E m ce, .int .i64 p.next, .slice A n c] 25))
  have P0 := Lib.hid (Blk.new w 25 #[.int .i64 p.cls, .int .i64 p.lab, .int .i64 p.hop, .string p.src, .string p.dst, .slice E m ce, .int .i64 p.next, .slice A n c])
  have fw := few_true hf
  have F := Lib.hid (h.few _ B0.out)
  unfold Fw at F
  rw [hf] at F
  have ml := h.row.len
  have R0 := Lib.hid h.row
  have HL := Lib.hid h.data
  have SM := Lib.hid fw.2.2.2
  have m40 : m ≤ 40 := by have := fw.2.1; omega
  have n66 : n ≤ 66000 := fw.2.2.1
  have HK := Lib.hid hk
  have hk' : (p.chk n != 0) = true := by rw [bne_iff_ne]; exact hk
  clear h hf fw hk
  go_enter Try.func3, Try.ntmps3
  go_wp2_with fail
  refine F.out.mono ?_
  rintro e w1 ⟨rfl, hb⟩
  have B1 := Lib.hid (B0.out.trans (hb.mono B0.out.size))
  have P1 := Lib.hid (P0.out.below hb P0.out.lt)
  clear hb F P0
  go_wp2_with (first
    | (refine Loads.wpList_load_w rfl 25 (.tmp 2) rfl w.heap.size rfl 25 #[.int .i64 p.cls, .int .i64 p.lab, .int .i64 p.hop, .string p.src, .string p.dst, .slice E m ce, .int .i64 p.next, .slice A n c] (0, 0) _ P1.out (Try.underlying25) rfl (by kernel_rfl) ?_))
  refine (own_any p E m ce A n c l w1 (R0.out.below B1.out) ((HL.out.below B1.out).more B1.out.size) (by omega) (by omega)).mono ?_
  rintro e w2 ⟨E2, ce2, A2, c2, rfl, r2, h2, hb⟩
  have B2 := Lib.hid (B1.out.trans (hb.mono B1.out.size))
  have P2 := Lib.hid (P1.out.below hb P1.out.lt)
  have R2 := Lib.hid r2
  have H2 := Lib.hid h2
  clear hb P1 r2 h2
  have Q3 := Lib.hid (Blk.new w2 25 #[.int .i64 p.cls, .int .i64 p.lab, .int .i64 p.hop, .string p.src, .string p.dst, .slice E2 m ce2, .int .i64 p.next, .slice A2 n c2])
  have P3 := Lib.hid (P2.out.alloc (.cells #[.int .i64 p.cls, .int .i64 p.lab, .int .i64 p.hop, .string p.src, .string p.dst, .slice E2 m ce2, .int .i64 p.next, .slice A2 n c2] 25))
  have B3 := Lib.hid (B2.out.alloc B2.out.size (.cells #[.int .i64 p.cls, .int .i64 p.lab, .int .i64 p.hop, .string p.src, .string p.dst, .slice E2 m ce2, .int .i64 p.next, .slice A2 n c2] 25))
  have C3 := Lib.hid ((Below.refl _ w2).alloc (Nat.le_refl _) (.cells #[.int .i64 p.cls, .int .i64 p.lab, .int .i64 p.hop, .string p.src, .string p.dst, .slice E2 m ce2, .int .i64 p.next, .slice A2 n c2] 25))
  go_wp2_with (first
    | (refine Loads.wpList_load_w rfl 25 (.tmp 5) rfl w2.heap.size rfl 25 #[.int .i64 p.cls, .int .i64 p.lab, .int .i64 p.hop, .string p.src, .string p.dst, .slice E2 m ce2, .int .i64 p.next, .slice A2 n c2] (0, 0) _ Q3.out (Try.underlying25) rfl (by kernel_rfl) ?_))
  refine (bytes_err p E2 m ce2 A2 n c2 _ (R2.out.below C3.out) SM.out (by omega) (by omega) HK.out).mono ?_
  rintro e w4 ⟨rfl, hb⟩
  have B4 := Lib.hid (B3.out.trans (hb.mono B3.out.size))
  have C4 := Lib.hid (C3.out.trans (hb.mono C3.out.size))
  have P4 := Lib.hid (P3.out.below hb P3.out.lt)
  have Q4 := Lib.hid (Q3.out.below hb Q3.out.lt)
  clear hb P3 Q3 B3 C3
  go_wp2_with (first
    | (refine Loads.wpList_load_w rfl 25 (.tmp 2) rfl w.heap.size rfl 25 #[.int .i64 p.cls, .int .i64 p.lab, .int .i64 p.hop, .string p.src, .string p.dst, .slice E m ce, .int .i64 p.next, .slice A n c] (0, 0) _ P4.out (Try.underlying25) rfl (by kernel_rfl) ?_))
  refine (check_ref p E m ce A n c _ (R0.out.below B4.out) SM.out (by omega) (by omega)).mono ?_
  rintro e w5 ⟨rfl, hb⟩
  have B5 := Lib.hid (B4.out.trans (hb.mono B4.out.size))
  have C5 := Lib.hid (C4.out.trans (hb.mono C4.out.size))
  have P5 := Lib.hid (P4.out.below hb P4.out.lt)
  have Q5 := Lib.hid (Q4.out.below hb Q4.out.lt)
  clear hb P4 Q4 B4 C4
  go_wp2_with (first
    | (refine Loads.wpList_load_w rfl 25 (.tmp 5) rfl w2.heap.size rfl 25 #[.int .i64 p.cls, .int .i64 p.lab, .int .i64 p.hop, .string p.src, .string p.dst, .slice E2 m ce2, .int .i64 p.next, .slice A2 n c2] (0, 0) _ Q5.out (Try.underlying25) rfl (by kernel_rfl) ?_))
  refine (check_code p E2 m ce2 A2 n c2 _ (R2.out.below C5.out) SM.out (by omega) (by omega)).mono ?_
  rintro e w6 ⟨rfl, hb⟩
  have B6 := Lib.hid (B5.out.trans (hb.mono B5.out.size))
  have C6 := Lib.hid (C5.out.trans (hb.mono C5.out.size))
  have P6 := Lib.hid (P5.out.below hb P5.out.lt)
  have Q6 := Lib.hid (Q5.out.below hb Q5.out.lt)
  clear hb P5 Q5 B5 C5
  have SY := Lib.hid (same_yes p E2 m ce2 A2 n c2 E m ce A n c _ l w6 (R2.out.below C6.out) (R0.out.below B6.out) ((H2.out.below C6.out).more C6.out.size) ((HL.out.below B6.out).more B6.out.size) (Nat.le_refl _) (by omega))
  go_wp2_with (first
    | (refine Loads.wpList_load_w rfl 25 (.tmp 5) rfl w2.heap.size rfl 25 #[.int .i64 p.cls, .int .i64 p.lab, .int .i64 p.hop, .string p.src, .string p.dst, .slice E2 m ce2, .int .i64 p.next, .slice A2 n c2] (0, 0) _ Q6.out (Try.underlying25) rfl (by kernel_rfl) ?_)
    | (refine Loads.wpList_load_w rfl 25 (.tmp 2) rfl w.heap.size rfl 25 #[.int .i64 p.cls, .int .i64 p.lab, .int .i64 p.hop, .string p.src, .string p.dst, .slice E m ce, .int .i64 p.next, .slice A n c] (0, 0) _ P6.out (Try.underlying25) rfl (by kernel_rfl) ?_))
  refine SY.out.mono ?_
  rintro e w7 ⟨rfl, hb⟩
  have B7 := Lib.hid (B6.out.trans (hb.mono B6.out.size))
  clear hb SY P6 Q6 B6 C6
  go_wp2_with fail
  refine (between_code kd w7).mono ?_
  rintro e w8 ⟨rfl, rfl⟩
  go_wp2_with fail
  refine (between_ref kd w7).mono ?_
  rintro e w9 ⟨rfl, rfl⟩
  go_wp2_with fail
  refine (awake_any w7).mono ?_
  rintro e w8 ⟨rfl, hb⟩
  have B8 := Lib.hid (B7.out.trans (hb.mono B7.out.size))
  clear hb
  go_wp2_with fail
  go_ret
  exact ⟨rfl, B8.out⟩

set_option maxHeartbeats 8000000 in
set_option maxRecDepth 100000 in
theorem lays_ok (p : Pkt) (E : Option Addr) (m ce : Nat) (A : Option Addr) (n c : Nat) (l : List Int) (kd : Int) (w : World) (h : Got p E m ce A n c l w) (hf : fewB p n = true) (hk : p.chk n = 0) :
    Calls Try.prog 3 #[.agg #[.int .i64 p.cls, .int .i64 p.lab, .int .i64 p.hop, .string p.src, .string p.dst, .slice E m ce, .int .i64 p.next, .slice A n c], .int .i64 kd] w (Yes w) := by
  obtain ⟨hv, hS⟩ := chk_zero hk
  have VV := Lib.hid hv
  have B0 := Lib.hid ((Below.refl w.heap.size w).alloc (Nat.le_refl _) (.cells #[.int .i64 p.cls, .int .i64 p.lab, .int .i64 p.hop, .string p.src, .string p.dst, .slice E m ce, .int .i64 p.next, .slice A n c] 25))
  have P0 := Lib.hid (Blk.new w 25 #[.int .i64 p.cls, .int .i64 p.lab, .int .i64 p.hop, .string p.src, .string p.dst, .slice E m ce, .int .i64 p.next, .slice A n c])
  have fw := few_true hf
  have F := Lib.hid (h.few _ B0.out)
  unfold Fw at F
  rw [hf] at F
  have ml := h.row.len
  have R0 := Lib.hid h.row
  have HL := Lib.hid h.data
  have SM := Lib.hid fw.2.2.2
  have m40 : m ≤ 40 := by have := fw.2.1; omega
  have n66 : n ≤ 66000 := fw.2.2.1
  have CK0 := Lib.hid hk
  clear h hf fw hk hv
  go_enter Try.func3, Try.ntmps3
  go_wp2_with fail
  refine F.out.mono ?_
  rintro e w1 ⟨rfl, hb⟩
  have B1 := Lib.hid (B0.out.trans (hb.mono B0.out.size))
  have P1 := Lib.hid (P0.out.below hb P0.out.lt)
  clear hb F P0
  go_wp2_with (first
    | (refine Loads.wpList_load_w rfl 25 (.tmp 2) rfl w.heap.size rfl 25 #[.int .i64 p.cls, .int .i64 p.lab, .int .i64 p.hop, .string p.src, .string p.dst, .slice E m ce, .int .i64 p.next, .slice A n c] (0, 0) _ P1.out (Try.underlying25) rfl (by kernel_rfl) ?_))
  refine (own_any p E m ce A n c l w1 (R0.out.below B1.out) ((HL.out.below B1.out).more B1.out.size) (by omega) (by omega)).mono ?_
  rintro e w2 ⟨E2, ce2, A2, c2, rfl, r2, h2, hb⟩
  have B2 := Lib.hid (B1.out.trans (hb.mono B1.out.size))
  have P2 := Lib.hid (P1.out.below hb P1.out.lt)
  have R2 := Lib.hid r2
  have H2 := Lib.hid h2
  clear hb P1 r2 h2
  have Q3 := Lib.hid (Blk.new w2 25 #[.int .i64 p.cls, .int .i64 p.lab, .int .i64 p.hop, .string p.src, .string p.dst, .slice E2 m ce2, .int .i64 p.next, .slice A2 n c2])
  have P3 := Lib.hid (P2.out.alloc (.cells #[.int .i64 p.cls, .int .i64 p.lab, .int .i64 p.hop, .string p.src, .string p.dst, .slice E2 m ce2, .int .i64 p.next, .slice A2 n c2] 25))
  have B3 := Lib.hid (B2.out.alloc B2.out.size (.cells #[.int .i64 p.cls, .int .i64 p.lab, .int .i64 p.hop, .string p.src, .string p.dst, .slice E2 m ce2, .int .i64 p.next, .slice A2 n c2] 25))
  have C3 := Lib.hid ((Below.refl _ w2).alloc (Nat.le_refl _) (.cells #[.int .i64 p.cls, .int .i64 p.lab, .int .i64 p.hop, .string p.src, .string p.dst, .slice E2 m ce2, .int .i64 p.next, .slice A2 n c2] 25))
  go_wp2_with (first
    | (refine Loads.wpList_load_w rfl 25 (.tmp 5) rfl w2.heap.size rfl 25 #[.int .i64 p.cls, .int .i64 p.lab, .int .i64 p.hop, .string p.src, .string p.dst, .slice E2 m ce2, .int .i64 p.next, .slice A2 n c2] (0, 0) _ Q3.out (Try.underlying25) rfl (by kernel_rfl) ?_))
  refine (bytes_ok p E2 m ce2 A2 n c2 l _ (R2.out.below C3.out) ((H2.out.below C3.out).more C3.out.size) (by omega) VV.out hS).mono ?_
  rintro e w4 ⟨v4, rfl, o4, hb⟩
  have B4 := Lib.hid (B3.out.trans (hb.mono B3.out.size))
  have C4 := Lib.hid (C3.out.trans (hb.mono C3.out.size))
  have P4 := Lib.hid (P3.out.below hb P3.out.lt)
  have Q4 := Lib.hid (Q3.out.below hb Q3.out.lt)
  obtain ⟨A4, c4, rfl, h4⟩ := o4.slice
  have H4 := Lib.hid h4
  clear hb P3 Q3 B3 C3 o4 h4
  go_wp2_with (first
    | (refine Loads.wpList_load_w rfl 25 (.tmp 2) rfl w.heap.size rfl 25 #[.int .i64 p.cls, .int .i64 p.lab, .int .i64 p.hop, .string p.src, .string p.dst, .slice E m ce, .int .i64 p.next, .slice A n c] (0, 0) _ P4.out (Try.underlying25) rfl (by kernel_rfl) ?_))
  refine (check_ref p E m ce A n c _ (R0.out.below B4.out) SM.out (by omega) (by omega)).mono ?_
  rintro e w5 ⟨rfl, hb⟩
  rw [CK0.out]
  have B5 := Lib.hid (B4.out.trans (hb.mono B4.out.size))
  have C5 := Lib.hid (C4.out.trans (hb.mono C4.out.size))
  have D5 := Lib.hid hb
  have P5 := Lib.hid (P4.out.below hb P4.out.lt)
  have Q5 := Lib.hid (Q4.out.below hb Q4.out.lt)
  clear hb P4 Q4 B4 C4
  go_wp2_with (first
    | (refine Loads.wpList_load_w rfl 25 (.tmp 5) rfl w2.heap.size rfl 25 #[.int .i64 p.cls, .int .i64 p.lab, .int .i64 p.hop, .string p.src, .string p.dst, .slice E2 m ce2, .int .i64 p.next, .slice A2 n c2] (0, 0) _ Q5.out (Try.underlying25) rfl (by kernel_rfl) ?_))
  refine (check_code p E2 m ce2 A2 n c2 _ (R2.out.below C5.out) SM.out (by omega) (by omega)).mono ?_
  rintro e w6 ⟨rfl, hb⟩
  rw [CK0.out]
  have B6 := Lib.hid (B5.out.trans (hb.mono B5.out.size))
  have C6 := Lib.hid (C5.out.trans (hb.mono C5.out.size))
  have D6 := Lib.hid (D5.out.trans (hb.mono D5.out.size))
  have P6 := Lib.hid (P5.out.below hb P5.out.lt)
  have Q6 := Lib.hid (Q5.out.below hb Q5.out.lt)
  clear hb P5 Q5 B5 C5 D5
  have SY := Lib.hid (same_yes p E2 m ce2 A2 n c2 E m ce A n c _ l w6 (R2.out.below C6.out) (R0.out.below B6.out) ((H2.out.below C6.out).more C6.out.size) ((HL.out.below B6.out).more B6.out.size) (Nat.le_refl _) (by omega))
  go_wp2_with (first
    | (refine Loads.wpList_load_w rfl 25 (.tmp 5) rfl w2.heap.size rfl 25 #[.int .i64 p.cls, .int .i64 p.lab, .int .i64 p.hop, .string p.src, .string p.dst, .slice E2 m ce2, .int .i64 p.next, .slice A2 n c2] (0, 0) _ Q6.out (Try.underlying25) rfl (by kernel_rfl) ?_)
    | (refine Loads.wpList_load_w rfl 25 (.tmp 2) rfl w.heap.size rfl 25 #[.int .i64 p.cls, .int .i64 p.lab, .int .i64 p.hop, .string p.src, .string p.dst, .slice E m ce, .int .i64 p.next, .slice A n c] (0, 0) _ P6.out (Try.underlying25) rfl (by kernel_rfl) ?_))
  refine SY.out.mono ?_
  rintro e w7 ⟨rfl, hb⟩
  have B7 := Lib.hid (B6.out.trans (hb.mono B6.out.size))
  have D7 := Lib.hid (D6.out.trans (hb.mono D6.out.size))
  have P7 := Lib.hid (P6.out.below hb P6.out.lt)
  clear hb SY P6 Q6 B6 C6 D6
  go_wp2_with fail
  refine (between_code kd w7).mono ?_
  rintro e w8 ⟨rfl, rfl⟩
  go_wp2_with fail
  refine (between_ref kd w7).mono ?_
  rintro e w9 ⟨rfl, rfl⟩
  go_wp2_with fail
  obtain ⟨N, hN⟩ : ∃ N, N = 40 + (n + behind p.exts) := ⟨_, rfl⟩
  obtain ⟨bstr, hbs⟩ : ∃ bstr, strOfNums (p.bytes l) = bstr := ⟨_, rfl⟩
  have BS := Lib.hid hbs
  have BR := Lib.hid (fun W (bel : Below w.heap.size w W) => bytes_ref p E m ce A n c l W (R0.out.below bel) ((HL.out.below bel).more bel.size) (by omega) VV.out hS)
  have H7 := Lib.hid ((H4.out.below D7.out).more D7.out.size)
  rw [← hN] at H7 BR ⊢
  clear hbs hN
  refine wp_region_freeP [0, 1, 2, 3, 4, 5, 6, 7, 8] 9 [] [(1, true)] (fun w1 w2 => Below w1.heap.size w1 w2) (fun k' w' v => match k' with
    | 0 => v = .bool true
    | 1 => v = .bool true
    | 2 => v = .slice A4 N c4
    | 3 => v = .string bstr
    | 4 => v = .agg #[.int .i64 p.cls, .int .i64 p.lab, .int .i64 p.hop, .string p.src, .string p.dst, .slice E m ce, .int .i64 p.next, .slice A n c]
    | 5 => Lies w' v N (p.bytes l)
    | 6 => v = .string bstr
    | 7 => v = .bool true
    | _ => v = .bool true) (by kernel_rfl) (by kernel_rfl) (fun q hq w v hv => ?_) (Below.refl _ _) (fun _ _ _ h k => h.trans (k.mono h.size)) (fun k' w1 w2 v h => match k' with
    | 0 => fun x => x
    | 1 => fun x => x
    | 2 => fun x => x
    | 3 => fun x => x
    | 4 => fun x => x
    | 5 => fun x => Lies.below x h
    | 6 => fun x => x
    | 7 => fun x => x
    | _ + 8 => fun x => x) (fun _ _ _ _ _ h => h) ?_ _ (by rfl) ?_
  · simp only [List.mem_cons, List.not_mem_nil, or_false] at hq
    rcases hq with rfl <;> exact hv
  · refine obs_cons (by rfl) (fun vals w' hgr hdep K hK => ?_) (obs_cons (by rfl) (fun vals w' hgr hdep K hK => ?_) (obs_cons (by rfl) (fun vals w' hgr hdep K hK => ?_) (obs_cons (by rfl) (fun vals w' hgr hdep K hK => ?_) (obs_cons (by rfl) (fun vals w' hgr hdep K hK => ?_) (obs_cons (by rfl) (fun vals w' hgr hdep K hK => ?_) (obs_cons (by rfl) (fun vals w' hgr hdep K hK => ?_) (obs_cons (by rfl) (fun vals w' hgr hdep K hK => ?_) (obs_cons (by rfl) (fun vals w' hgr hdep K hK => ?_) (obs_nil)))))))))
    · exact wp_call 15 [] _ rfl ent_awake [] rfl (fun v w'' => v = .bool true ∧ Below w'.heap.size w' w'') ((awake_any w').mono fun e w'' ⟨h1, h2⟩ => ⟨_, h1, rfl, h2⟩) (fun v w'' ⟨h1, h2⟩ => hK v _ h2 h1)
    · exact wp_move (.tmp 51) rfl _ ((at_dst 0 (by kernel_rfl)).trans (hdep 0 (by simp) (by kernel_rfl))) (hK _ _ (Below.refl _ _) rfl)
    · exact wp_move (.tmp 6) rfl _ (at_out _ (by kernel_rfl) rfl) (hK _ _ (Below.refl _ _) rfl)
    · exact wp_conv (.tmp 53) rfl _ _ ((at_dst 2 (by kernel_rfl)).trans (hdep 2 (by simp) (by kernel_rfl))) (by have := run_string_bytes (H7.out.below ((below_drewN (Below.refl w7.heap.size w7) 1).trans hgr)); rwa [BS.out] at this) (hK _ _ (Below.refl _ _) rfl)
    · exact st_load_row 25 (.tmp 2) rfl w.heap.size (at_out _ (by kernel_rfl) rfl) 25 #[.int .i64 p.cls, .int .i64 p.lab, .int .i64 p.hop, .string p.src, .string p.dst, .slice E m ce, .int .i64 p.next, .slice A n c] (0, 0) _ (P7.out.below ((below_drewN (Below.refl w7.heap.size w7) 1).trans hgr) P7.out.lt) Try.underlying25 rfl (by kernel_rfl) (hK _ _ (Below.refl _ _) rfl)
    · exact wp_call 16 [.tmp 55] _ rfl ent_bytes [.agg #[.int .i64 p.cls, .int .i64 p.lab, .int .i64 p.hop, .string p.src, .string p.dst, .slice E m ce, .int .i64 p.next, .slice A n c]] (congrArg (fun z => [z]) ((at_dst 4 (by kernel_rfl)).trans (hdep 4 (by simp) (by kernel_rfl)))) (fun v w'' => Lies w'' v N (p.bytes l) ∧ Below w'.heap.size w' w'') ((BR.out w' (B7.out.trans (((below_drewN (Below.refl w7.heap.size w7) 1).trans hgr).mono B7.out.size))).mono fun e w'' ⟨v, h1, h2, h3⟩ => ⟨v, h1, lies_own h2, h3⟩) (fun v w'' ⟨h1, h2⟩ => hK v _ h2 h1)
    · obtain ⟨A5, c5, e5, l5⟩ := hdep 5 (by simp) (by kernel_rfl)
      exact wp_conv (.tmp 56) rfl _ _ ((at_dst 5 (by kernel_rfl)).trans e5) (by have := run_string_bytes l5; rwa [BS.out] at this) (hK _ _ (Below.refl _ _) rfl)
    · exact wp_bin (.tmp 54) (.tmp 57) rfl _ _ _ ((at_dst 3 (by kernel_rfl)).trans (hdep 3 (by simp) (by kernel_rfl))) ((at_dst 6 (by kernel_rfl)).trans (hdep 6 (by simp) (by kernel_rfl))) (eql_str bstr _ _ _) (hK _ _ (Below.refl _ _) rfl)
    · exact st_pick (.tmp 52) (.tmp 58) _ rfl _ ((at_dst 1 (by kernel_rfl)).trans (hdep 1 (by simp) (by kernel_rfl))) ((at_dst 7 (by kernel_rfl)).trans (hdep 7 (by simp) (by kernel_rfl))) (hK _ _ (Below.refl _ _) rfl)
  · intro vals w' hgr hG
    refine st_assign (.tmp 59) _ rfl ((at_dst 8 (by kernel_rfl)).trans (hG 8 (by simp))) (wpAnyH_done (by kernel_rfl) ?_ _)
    have B8 := Lib.hid (B7.out.trans (((below_drewN (Below.refl w7.heap.size w7) 1).trans hgr).mono B7.out.size))
    clear hG hgr
    simp only [fill, dstAt, List.getElem?_cons_zero, List.getElem?_cons_succ, Option.bind_some, Act.put, List.setIfInBounds_toArray, List.set_cons_zero, List.set_cons_succ]
    go_wp2_with fail
    go_ret
    exact ⟨rfl, B8.out⟩

theorem lays_any (p : Pkt) (E : Option Addr) (m ce : Nat) (A : Option Addr) (n c : Nat) (l : List Int) (kd : Int) (w : World) (h : Got p E m ce A n c l w) :
    Calls Try.prog 3 #[.agg #[.int .i64 p.cls, .int .i64 p.lab, .int .i64 p.hop, .string p.src, .string p.dst, .slice E m ce, .int .i64 p.next, .slice A n c], .int .i64 kd] w (Yes w) := by
  cases hf : fewB p n with
  | false => exact lays_no p E m ce A n c l kd w h hf
  | true =>
    by_cases hk : p.chk n = 0
    · exact lays_ok p E m ce A n c l kd w h hf hk
    · exact lays_err p E m ce A n c l kd w h hf hk
end Go.Proofs.Ytjfieoleoodfdaa.LawLays
