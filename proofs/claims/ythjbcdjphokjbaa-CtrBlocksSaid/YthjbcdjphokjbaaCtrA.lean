/- The document's examples hold. -/
import Derived.Test.YthjbcdjphokjbaaCtr5
import Derived.Test.YthjbcdjphokjbaaCtr2
import Derived.Lib.SlBytesConst
set_option linter.unusedVariables false
namespace Go.Proofs.Ythjbcdjphokjbaa.CtrA
open Go.RowKit Go.PlainAid Go.Proofs.Ythjbcdjphokjbaa.Sums Go.Proofs.Ythjbcdjphokjbaa.Mem Go.Proofs.Ythjbcdjphokjbaa.Blk Go.Proofs.Ythjbcdjphokjbaa.Bits3 Go.Proofs.Ythjbcdjphokjbaa.Ints Go.Proofs.Ythjbcdjphokjbaa.AesF Go.Proofs.Ythjbcdjphokjbaa.AesB Go.Proofs.Ythjbcdjphokjbaa.AesK Go.Proofs.Ythjbcdjphokjbaa.AesR3 Go.Proofs.Ythjbcdjphokjbaa.Aes9 Go.Proofs.Ythjbcdjphokjbaa.CtrD Go.Proofs.Ythjbcdjphokjbaa.Ctr1 Go.Proofs.Ythjbcdjphokjbaa.Ctr2 Go.Proofs.Ythjbcdjphokjbaa.Ctr3 Go.Proofs.Ythjbcdjphokjbaa.Ctr4 Go.Proofs.Ythjbcdjphokjbaa.Ctr5

theorem nums_str {l : List Int} (h : Bytes l) : nums (strOfNums l) = l := by
  simp only [strOfNums, nums, List.map_map]
  refine (List.map_congr_left fun z hz => ?_).trans (List.map_id l)
  have := h z hz
  simp only [Function.comp, id]
  rw [UInt8.toNat_ofNat_of_lt' (by simp [UInt8.size]; omega)]
  omega
theorem str_inj {a b : List Int} (ha : Bytes a) (hb : Bytes b) (h : strOfNums a = strOfNums b) : a = b := by rw [← nums_str ha, ← nums_str hb, h]
/-- Bytes that a block holds, frozen or not. -/
theorem Holds.laid (w : World) (l : List Nat) (cs : Array Value) (fz : Nat × Nat) (n g : Nat) (hc : cs = bcells l) (hb : Byt l) (hn : l.length = n) (hg : w.heap.size = g) (hm : n ≤ 1048576) : Holds (w.alloc (.cells cs 5 fz)) (g + 1) (some ⟨g, 0, none⟩) n n (ints l) := by
  subst hc hn hg
  refine ⟨by simp [ints], Nat.le_refl _, by simp only [maxLen]; omega, fun z hz => ints_in hb z hz, fun _ => ⟨w.heap.size, 0, rfl, by omega, fun j z hz => ?_⟩⟩
  have hj : j < l.length := by
    rcases Nat.lt_or_ge j l.length with h' | h'
    · exact h'
    · rw [List.getElem?_eq_none (by simpa [ints] using h')] at hz; cases hz
  rw [Nat.zero_add, cell_of_row _ w.heap.size j _ 5 fz (heap_alloc_new w _), bcells_get l j hj, ← ints_getD, List.getD_eq_getElem?_getD, hz]
  rfl
theorem cvt (w : World) (C : Array Value) (n : Nat) : (convert 22 22 (.slice (some ⟨w.heap.size, 0, none⟩) n n)).run Try.prog (w.alloc (.cells C 5)) = .ok (.slice (some ⟨w.heap.size, 0, none⟩) n n) (w.alloc (.cells C 5 (C.size, C.size + 1))) :=
  Lib.run_convert_bytes_const w 22 5 C n n Try.underlying22 Try.underlying5
theorem byt_all {l : List Nat} (h : l.all (fun z => decide (z < 256)) = true) : Byt l := fun x hx => of_decide_eq_true (List.all_eq_true.1 h x hx)
theorem ex_str : strOfNums (ints exR) = ⟨#[228, 9, 93, 79, 183, 167, 179, 121, 45, 97, 117, 163, 38, 19, 17, 184]⟩ := by kernel_rfl
theorem ex_cnt : ints (cnt (nats (ints [97, 98, 99, 100])) (nats (ints [49, 50, 51, 52, 53, 54, 55, 56])) 258) = ints [97, 98, 99, 100, 49, 50, 51, 52, 53, 54, 55, 56, 0, 0, 1, 2] := by kernel_rfl
theorem ex_str2 : strOfNums (ints [97, 98, 99, 100, 49, 50, 51, 52, 53, 54, 55, 56, 0, 0, 1, 2]) = ⟨#[97, 98, 99, 100, 49, 50, 51, 52, 53, 54, 55, 56, 0, 0, 1, 2]⟩ := by kernel_rfl

/-- The four literals of the first example, the two of the second. -/
theorem four_lits (w : World) : ∃ w4, ((((w.alloc (.cells #[.int .u8 174, .int .u8 104, .int .u8 82, .int .u8 248, .int .u8 18, .int .u8 16, .int .u8 103, .int .u8 204, .int .u8 75, .int .u8 247, .int .u8 165, .int .u8 118, .int .u8 85, .int .u8 119, .int .u8 243, .int .u8 158] 5 (16, 17))).alloc (.cells #[.int .u8 0, .int .u8 0, .int .u8 0, .int .u8 48] 5)).alloc (.cells (bcells (List.replicate 8 0)) 5)).alloc (.cells #[.int .u8 83, .int .u8 105, .int .u8 110, .int .u8 103, .int .u8 108, .int .u8 101, .int .u8 32, .int .u8 98, .int .u8 108, .int .u8 111, .int .u8 99, .int .u8 107, .int .u8 32, .int .u8 109, .int .u8 115, .int .u8 103] 5 (16, 17))) = w4 ∧
    Holds w4 w4.heap.size (some ⟨w.heap.size, 0, none⟩) 16 16 (ints exK) ∧ Holds w4 w4.heap.size (some ⟨w.heap.size + 1, 0, none⟩) 4 4 (ints [0, 0, 0, 48]) ∧ Holds w4 w4.heap.size (some ⟨w.heap.size + 1 + 1, 0, none⟩) 8 8 (ints (List.replicate 8 0)) ∧ Holds w4 w4.heap.size (some ⟨w.heap.size + 1 + 1 + 1, 0, none⟩) 16 16 (ints exB) ∧ Below w.heap.size w w4 := by
  refine ⟨_, rfl, ?_⟩
  have a1 := Holds.laid w exK #[.int .u8 174, .int .u8 104, .int .u8 82, .int .u8 248, .int .u8 18, .int .u8 16, .int .u8 103, .int .u8 204, .int .u8 75, .int .u8 247, .int .u8 165, .int .u8 118, .int .u8 85, .int .u8 119, .int .u8 243, .int .u8 158] (16, 17) 16 _ rfl (byt_all rfl) rfl rfl (by decide)
  have b1 := (Below.refl w.heap.size w).alloc (Nat.le_refl _) (.cells #[.int .u8 174, .int .u8 104, .int .u8 82, .int .u8 248, .int .u8 18, .int .u8 16, .int .u8 103, .int .u8 204, .int .u8 75, .int .u8 247, .int .u8 165, .int .u8 118, .int .u8 85, .int .u8 119, .int .u8 243, .int .u8 158] 5 (16, 17))
  have s1 : (w.alloc (.cells #[.int .u8 174, .int .u8 104, .int .u8 82, .int .u8 248, .int .u8 18, .int .u8 16, .int .u8 103, .int .u8 204, .int .u8 75, .int .u8 247, .int .u8 165, .int .u8 118, .int .u8 85, .int .u8 119, .int .u8 243, .int .u8 158] 5 (16, 17))).heap.size = w.heap.size + 1 := by simp
  generalize w.alloc (.cells #[.int .u8 174, .int .u8 104, .int .u8 82, .int .u8 248, .int .u8 18, .int .u8 16, .int .u8 103, .int .u8 204, .int .u8 75, .int .u8 247, .int .u8 165, .int .u8 118, .int .u8 85, .int .u8 119, .int .u8 243, .int .u8 158] 5 (16, 17)) = w1 at *
  have a2 := Holds.laid w1 [0, 0, 0, 48] #[.int .u8 0, .int .u8 0, .int .u8 0, .int .u8 48] (0, 0) 4 _ rfl (byt_all rfl) rfl s1 (by decide)
  have q2 := (Below.refl w1.heap.size w1).alloc (Nat.le_refl _) (.cells #[.int .u8 0, .int .u8 0, .int .u8 0, .int .u8 48] 5)
  have s2 : (w1.alloc (.cells #[.int .u8 0, .int .u8 0, .int .u8 0, .int .u8 48] 5)).heap.size = w.heap.size + 1 + 1 := by simp [s1]
  generalize w1.alloc (.cells #[.int .u8 0, .int .u8 0, .int .u8 0, .int .u8 48] 5) = w2 at *
  have a3 := Holds.laid w2 (List.replicate 8 0) (bcells (List.replicate 8 0)) (0, 0) 8 _ rfl (byt_all rfl) rfl s2 (by decide)
  have q3 := (Below.refl w2.heap.size w2).alloc (Nat.le_refl _) (.cells (bcells (List.replicate 8 0)) 5)
  have s3 : (w2.alloc (.cells (bcells (List.replicate 8 0)) 5)).heap.size = w.heap.size + 1 + 1 + 1 := by simp [s2]
  generalize w2.alloc (.cells (bcells (List.replicate 8 0)) 5) = w3 at *
  have a4 := Holds.laid w3 exB #[.int .u8 83, .int .u8 105, .int .u8 110, .int .u8 103, .int .u8 108, .int .u8 101, .int .u8 32, .int .u8 98, .int .u8 108, .int .u8 111, .int .u8 99, .int .u8 107, .int .u8 32, .int .u8 109, .int .u8 115, .int .u8 103] (16, 17) 16 _ rfl (byt_all rfl) rfl s3 (by decide)
  have q4 := (Below.refl w3.heap.size w3).alloc (Nat.le_refl _) (.cells #[.int .u8 83, .int .u8 105, .int .u8 110, .int .u8 103, .int .u8 108, .int .u8 101, .int .u8 32, .int .u8 98, .int .u8 108, .int .u8 111, .int .u8 99, .int .u8 107, .int .u8 32, .int .u8 109, .int .u8 115, .int .u8 103] 5 (16, 17))
  have s4 : (w3.alloc (.cells #[.int .u8 83, .int .u8 105, .int .u8 110, .int .u8 103, .int .u8 108, .int .u8 101, .int .u8 32, .int .u8 98, .int .u8 108, .int .u8 111, .int .u8 99, .int .u8 107, .int .u8 32, .int .u8 109, .int .u8 115, .int .u8 103] 5 (16, 17))).heap.size = w.heap.size + 1 + 1 + 1 + 1 := by simp [s3]
  generalize w3.alloc (.cells #[.int .u8 83, .int .u8 105, .int .u8 110, .int .u8 103, .int .u8 108, .int .u8 101, .int .u8 32, .int .u8 98, .int .u8 108, .int .u8 111, .int .u8 99, .int .u8 107, .int .u8 32, .int .u8 109, .int .u8 115, .int .u8 103] 5 (16, 17)) = w4 at *
  exact ⟨(a1.below ((q2.mono (by omega)).trans ((q3.mono (by omega)).trans (q4.mono (by omega))))).more (by omega), (a2.below ((q3.mono (by omega)).trans (q4.mono (by omega)))).more (by omega), (a3.below (q4.mono (by omega))).more (by omega), a4.more (by omega), ((b1.trans (q2.mono (by omega))).trans (q3.mono (by omega))).trans (q4.mono (by omega))⟩
theorem two_lits (w : World) : ∃ w2, ((w.alloc (.cells #[.int .u8 97, .int .u8 98, .int .u8 99, .int .u8 100] 5 (4, 5))).alloc (.cells #[.int .u8 49, .int .u8 50, .int .u8 51, .int .u8 52, .int .u8 53, .int .u8 54, .int .u8 55, .int .u8 56] 5 (8, 9))) = w2 ∧
    Holds w2 w2.heap.size (some ⟨w.heap.size, 0, none⟩) 4 4 (ints [97, 98, 99, 100]) ∧ Holds w2 w2.heap.size (some ⟨w.heap.size + 1, 0, none⟩) 8 8 (ints [49, 50, 51, 52, 53, 54, 55, 56]) ∧ Below w.heap.size w w2 := by
  refine ⟨_, rfl, ?_⟩
  have a1 := Holds.laid w [97, 98, 99, 100] #[.int .u8 97, .int .u8 98, .int .u8 99, .int .u8 100] (4, 5) 4 _ rfl (byt_all rfl) rfl rfl (by decide)
  have b1 := (Below.refl w.heap.size w).alloc (Nat.le_refl _) (.cells #[.int .u8 97, .int .u8 98, .int .u8 99, .int .u8 100] 5 (4, 5))
  have s1 : (w.alloc (.cells #[.int .u8 97, .int .u8 98, .int .u8 99, .int .u8 100] 5 (4, 5))).heap.size = w.heap.size + 1 := by simp
  generalize w.alloc (.cells #[.int .u8 97, .int .u8 98, .int .u8 99, .int .u8 100] 5 (4, 5)) = w1 at *
  have a2 := Holds.laid w1 [49, 50, 51, 52, 53, 54, 55, 56] #[.int .u8 49, .int .u8 50, .int .u8 51, .int .u8 52, .int .u8 53, .int .u8 54, .int .u8 55, .int .u8 56] (8, 9) 8 _ rfl (byt_all rfl) rfl s1 (by decide)
  have q2 := (Below.refl w1.heap.size w1).alloc (Nat.le_refl _) (.cells #[.int .u8 49, .int .u8 50, .int .u8 51, .int .u8 52, .int .u8 53, .int .u8 54, .int .u8 55, .int .u8 56] 5 (8, 9))
  have s2 : (w1.alloc (.cells #[.int .u8 49, .int .u8 50, .int .u8 51, .int .u8 52, .int .u8 53, .int .u8 54, .int .u8 55, .int .u8 56] 5 (8, 9))).heap.size = w.heap.size + 1 + 1 := by simp [s1]
  generalize w1.alloc (.cells #[.int .u8 49, .int .u8 50, .int .u8 51, .int .u8 52, .int .u8 53, .int .u8 54, .int .u8 55, .int .u8 56] 5 (8, 9)) = w2 at *
  exact ⟨(a1.below (q2.mono (by omega))).more (by omega), a2.more (by omega), b1.trans (q2.mono (by omega))⟩

set_option maxHeartbeats 2000000 in
set_option maxRecDepth 100000 in
theorem awake_any (w : World) : Calls Try.prog 15 #[] w fun e w' => e = .returned (.bool true) ∧ Below w.heap.size w w' := by
  have cv1 := cvt w #[.int .u8 174, .int .u8 104, .int .u8 82, .int .u8 248, .int .u8 18, .int .u8 16, .int .u8 103, .int .u8 204, .int .u8 75, .int .u8 247, .int .u8 165, .int .u8 118, .int .u8 85, .int .u8 119, .int .u8 243, .int .u8 158] 16
  have mk : ∀ W : World, (Instr.makeSlice 22 (.int .i64 8) (.int .i64 8)).run Try.prog W = .ok (.slice (some ⟨W.heap.size, 0, none⟩) 8 8) (W.alloc (.cells (bcells (List.replicate 8 0)) 5)) := fun W => make_b 8 (by decide) W
  obtain ⟨w4, hw4, h1, h2, h3, h4, hb⟩ := four_lits w
  have H1 := Lib.hid h1
  have H2 := Lib.hid h2
  have H3 := Lib.hid h3
  have H4 := Lib.hid h4
  have B4 := Lib.hid hb
  have W4 := Lib.hid hw4
  obtain ⟨Z, hZ⟩ : ∃ Z, Z = bcells (List.replicate 8 0) := ⟨_, rfl⟩
  rw [← hZ] at mk W4
  have cv2 := cvt (((w.alloc (.cells #[.int .u8 174, .int .u8 104, .int .u8 82, .int .u8 248, .int .u8 18, .int .u8 16, .int .u8 103, .int .u8 204, .int .u8 75, .int .u8 247, .int .u8 165, .int .u8 118, .int .u8 85, .int .u8 119, .int .u8 243, .int .u8 158] 5 (16, 17))).alloc (.cells #[.int .u8 0, .int .u8 0, .int .u8 0, .int .u8 48] 5)).alloc (.cells Z 5)) #[.int .u8 83, .int .u8 105, .int .u8 110, .int .u8 103, .int .u8 108, .int .u8 101, .int .u8 32, .int .u8 98, .int .u8 108, .int .u8 111, .int .u8 99, .int .u8 107, .int .u8 32, .int .u8 109, .int .u8 115, .int .u8 103] 16
  rw [show (((w.alloc (.cells #[.int .u8 174, .int .u8 104, .int .u8 82, .int .u8 248, .int .u8 18, .int .u8 16, .int .u8 103, .int .u8 204, .int .u8 75, .int .u8 247, .int .u8 165, .int .u8 118, .int .u8 85, .int .u8 119, .int .u8 243, .int .u8 158] 5 (16, 17))).alloc (.cells #[.int .u8 0, .int .u8 0, .int .u8 0, .int .u8 48] 5)).alloc (.cells Z 5)).heap.size = w.heap.size + 1 + 1 + 1 by simp] at cv2
  clear h1 h2 h3 h4 hb hw4 hZ
  go_enter Try.func15, Try.ntmps15
  go_wp2_with fail
  clear cv1 cv2 mk
  rw [show (((((w.alloc (.cells #[.int .u8 174, .int .u8 104, .int .u8 82, .int .u8 248, .int .u8 18, .int .u8 16, .int .u8 103, .int .u8 204, .int .u8 75, .int .u8 247, .int .u8 165, .int .u8 118, .int .u8 85, .int .u8 119, .int .u8 243, .int .u8 158] 5 (16, 17))).alloc (.cells #[.int .u8 0, .int .u8 0, .int .u8 0, .int .u8 48] 5)).alloc (.cells Z 5)).alloc (.cells #[.int .u8 83, .int .u8 105, .int .u8 110, .int .u8 103, .int .u8 108, .int .u8 101, .int .u8 32, .int .u8 98, .int .u8 108, .int .u8 111, .int .u8 99, .int .u8 107, .int .u8 32, .int .u8 109, .int .u8 115, .int .u8 103] 5 (16, 17)))) = w4 from W4.out]
  refine (turn_ok _ 16 16 (ints exK) _ 4 (ints [0, 0, 0, 48]) _ 8 (ints (List.replicate 8 0)) _ 16 16 (ints exB) w4 w4.heap.size H1.out H2.out H3.out H4.out (Nat.le_refl _) (.inl rfl) (by decide)).mono ?_
  rintro e w5 ⟨g, rfl, hg, hrow, hb⟩
  rw [nats_ints, nats_ints, nats_ints, nats_ints, ex_trn] at hrow
  have HR : Hid (Holds w5 w5.heap.size (some ⟨g, 0, none⟩) 16 16 (ints exR)) := Lib.hid (BRow.holds hrow (byt_all rfl) (by decide))
  have B5 := Lib.hid (B4.out.trans (hb.mono B4.out.size))
  clear hg hrow hb H1 H2 H3 H4 B4 W4
  have cv1 := cvt w5 #[.int .u8 97, .int .u8 98, .int .u8 99, .int .u8 100] 4
  have cv2 := cvt (w5.alloc (.cells #[.int .u8 97, .int .u8 98, .int .u8 99, .int .u8 100] 5 (4, 5))) #[.int .u8 49, .int .u8 50, .int .u8 51, .int .u8 52, .int .u8 53, .int .u8 54, .int .u8 55, .int .u8 56] 8
  rw [show (w5.alloc (.cells #[.int .u8 97, .int .u8 98, .int .u8 99, .int .u8 100] 5 (4, 5))).heap.size = w5.heap.size + 1 by simp] at cv2
  obtain ⟨w6, hw6, h1, h2, hb⟩ := two_lits w5
  have H1 := Lib.hid h1
  have H2 := Lib.hid h2
  have HR6 := Lib.hid (HR.out.below hb)
  have B6 := Lib.hid (B5.out.trans (hb.mono B5.out.size))
  have W6 := Lib.hid hw6
  have W5 : Hid (w5.heap.size ≤ w6.heap.size) := Lib.hid hb.size
  clear h1 h2 hb hw6
  go_wp2_with fail
  clear cv1 cv2
  rw [show ((w5.alloc (.cells #[.int .u8 97, .int .u8 98, .int .u8 99, .int .u8 100] 5 (4, 5))).alloc (.cells #[.int .u8 49, .int .u8 50, .int .u8 51, .int .u8 52, .int .u8 53, .int .u8 54, .int .u8 55, .int .u8 56] 5 (8, 9))) = w6 from W6.out]
  refine (counter_ok _ _ 4 8 (ints [97, 98, 99, 100]) (ints [49, 50, 51, 52, 53, 54, 55, 56]) 258 w6 w6.heap.size H1.out H2.out (Nat.le_refl _) (by decide) (by decide)).mono ?_
  rintro e w7 ⟨A, c, rfl, hh, hb⟩
  rw [ex_cnt] at hh
  have B7 := Lib.hid (B6.out.trans (hb.mono B6.out.size))
  have cv1 : (convert 22 9 (.slice (some ⟨g, 0, none⟩) 16 16)).run Try.prog w7 = .ok (.string (strOfNums (ints exR))) w7 := run_string_bytes ((HR6.out.more W5.out).below hb)
  have cv2 : (convert 22 9 (.slice A 16 c)).run Try.prog w7 = .ok (.string (strOfNums (ints [97, 98, 99, 100, 49, 50, 51, 52, 53, 54, 55, 56, 0, 0, 1, 2]))) w7 := run_string_bytes hh
  rw [ex_str] at cv1
  rw [ex_str2] at cv2
  clear hh hb
  go_wp2_with fail
  go_ret
  exact ⟨rfl, B7.out⟩
end Go.Proofs.Ythjbcdjphokjbaa.CtrA
