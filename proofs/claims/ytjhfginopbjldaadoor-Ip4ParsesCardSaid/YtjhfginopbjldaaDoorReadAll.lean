/- A head's numbers are read, all eight. -/
import Derived.Test.YtjhfginopbjldaaDoorRead
namespace Go.Proofs.YtjhfginopbjldaaDoor.Read
open Go.RowKit Go.Proofs.YtjhfginopbjldaaDoor.Sums Go.Proofs.YtjhfginopbjldaaDoor.Mem Go.Proofs.YtjhfginopbjldaaDoor.Blk Go.Proofs.YtjhfginopbjldaaDoor.Bits

set_option maxHeartbeats 2000000 in
/-- All eight. -/
theorem walk_read (g q b p n c : Nat) (b0 b1 b2 b3 b4 b5 b6 b7 b8 b9 b10 b11 : Int) (r : List Int) (w : World) (t : TypeId) (v0 v1 v2 v3 v4 v5 v6 v7 : Value) (B : Nat) (hg : Blk w g t #[v0, v1, v2, v3, v4, v5, v6, v7]) (hq : Blk w q 22 #[.slice (some ⟨b, p, none⟩) (n + 12) (c + 12)])
    (h : Holds w B (some ⟨b, p, none⟩) (n + 12) (c + 12) (b0 :: b1 :: b2 :: b3 :: b4 :: b5 :: b6 :: b7 :: b8 :: b9 :: b10 :: b11 :: r)) (hn : 0 < n) (hBg : B ≤ g) (hBq : B ≤ q) (hgq : g ≠ q) :
    Calls Tryd.prog 46 #[.pointer (some ⟨g, 0, none⟩), .func (.func 52) #[] #[.pointer (some ⟨q, 0, none⟩)]] w fun e w' => e = .returned (.tuple #[]) ∧
      Blk w' g t #[.int .i64 b0, .int .i64 b1, .int .i64 (256 * b2 + b3), .int .i64 (256 * b4 + b5), .int .i64 (256 * b6 + b7), .int .i64 b8, .int .i64 b9, .int .i64 (256 * b10 + b11)] ∧ Below B w w' ∧ w'.heap.size = w.heap.size := by
  have H := Lib.hid h
  have G := Lib.hid hg
  have Q := Lib.hid hq
  clear h hg hq
  go_enter Tryd.func46, Tryd.ntmps46
  go_wp2_with fail
  refine (step_one g q 0 b p (n + 11) (c + 11) b0 (b1 :: b2 :: b3 :: b4 :: b5 :: b6 :: b7 :: b8 :: b9 :: b10 :: b11 :: r) _ t #[v0, v1, v2, v3, v4, v5, v6, v7] B G.out (by simp) Q.out H.out (by omega) hBg hBq hgq).mono ?_
  rintro e w1 ⟨rfl, g', q', h', bel', sz'⟩
  have G1 : Hid (Blk w1 g t #[.int .i64 b0, v1, v2, v3, v4, v5, v6, v7]) := Lib.hid (by simpa using g')
  have Q1 := Lib.hid q'
  have H1 := Lib.hid h'
  have L1 := Lib.hid bel'
  have S1 := Lib.hid sz'
  clear g' q' h' bel' sz'
  go_wp2_with fail
  refine (step_one g q 1 b (p + 1) (n + 10) (c + 10) b1 (b2 :: b3 :: b4 :: b5 :: b6 :: b7 :: b8 :: b9 :: b10 :: b11 :: r) _ t #[.int .i64 b0, v1, v2, v3, v4, v5, v6, v7] B G1.out (by simp) Q1.out H1.out (by omega) hBg hBq hgq).mono ?_
  rintro e w2 ⟨rfl, g', q', h', bel', sz'⟩
  have G2 : Hid (Blk w2 g t #[.int .i64 b0, .int .i64 b1, v2, v3, v4, v5, v6, v7]) := Lib.hid (by simpa using g')
  have Q2 := Lib.hid q'
  have H2 := Lib.hid h'
  have L2 := Lib.hid bel'
  have S2 := Lib.hid sz'
  clear g' q' h' bel' sz'
  go_wp2_with fail
  refine (step_two g q 2 b ((p + 1) + 1) (n + 8) (c + 8) b2 b3 (b4 :: b5 :: b6 :: b7 :: b8 :: b9 :: b10 :: b11 :: r) _ t #[.int .i64 b0, .int .i64 b1, v2, v3, v4, v5, v6, v7] B G2.out (by simp) Q2.out H2.out (by omega) hBg hBq hgq).mono ?_
  rintro e w3 ⟨rfl, g', q', h', bel', sz'⟩
  have G3 : Hid (Blk w3 g t #[.int .i64 b0, .int .i64 b1, .int .i64 (256 * b2 + b3), v3, v4, v5, v6, v7]) := Lib.hid (by simpa using g')
  have Q3 := Lib.hid q'
  have H3 := Lib.hid h'
  have L3 := Lib.hid bel'
  have S3 := Lib.hid sz'
  clear g' q' h' bel' sz'
  go_wp2_with fail
  refine (step_two g q 3 b (((p + 1) + 1) + 2) (n + 6) (c + 6) b4 b5 (b6 :: b7 :: b8 :: b9 :: b10 :: b11 :: r) _ t #[.int .i64 b0, .int .i64 b1, .int .i64 (256 * b2 + b3), v3, v4, v5, v6, v7] B G3.out (by simp) Q3.out H3.out (by omega) hBg hBq hgq).mono ?_
  rintro e w4 ⟨rfl, g', q', h', bel', sz'⟩
  have G4 : Hid (Blk w4 g t #[.int .i64 b0, .int .i64 b1, .int .i64 (256 * b2 + b3), .int .i64 (256 * b4 + b5), v4, v5, v6, v7]) := Lib.hid (by simpa using g')
  have Q4 := Lib.hid q'
  have H4 := Lib.hid h'
  have L4 := Lib.hid bel'
  have S4 := Lib.hid sz'
  clear g' q' h' bel' sz'
  go_wp2_with fail
  refine (step_two g q 4 b ((((p + 1) + 1) + 2) + 2) (n + 4) (c + 4) b6 b7 (b8 :: b9 :: b10 :: b11 :: r) _ t #[.int .i64 b0, .int .i64 b1, .int .i64 (256 * b2 + b3), .int .i64 (256 * b4 + b5), v4, v5, v6, v7] B G4.out (by simp) Q4.out H4.out (by omega) hBg hBq hgq).mono ?_
  rintro e w5 ⟨rfl, g', q', h', bel', sz'⟩
  have G5 : Hid (Blk w5 g t #[.int .i64 b0, .int .i64 b1, .int .i64 (256 * b2 + b3), .int .i64 (256 * b4 + b5), .int .i64 (256 * b6 + b7), v5, v6, v7]) := Lib.hid (by simpa using g')
  have Q5 := Lib.hid q'
  have H5 := Lib.hid h'
  have L5 := Lib.hid bel'
  have S5 := Lib.hid sz'
  clear g' q' h' bel' sz'
  go_wp2_with fail
  refine (step_one g q 5 b (((((p + 1) + 1) + 2) + 2) + 2) (n + 3) (c + 3) b8 (b9 :: b10 :: b11 :: r) _ t #[.int .i64 b0, .int .i64 b1, .int .i64 (256 * b2 + b3), .int .i64 (256 * b4 + b5), .int .i64 (256 * b6 + b7), v5, v6, v7] B G5.out (by simp) Q5.out H5.out (by omega) hBg hBq hgq).mono ?_
  rintro e w6 ⟨rfl, g', q', h', bel', sz'⟩
  have G6 : Hid (Blk w6 g t #[.int .i64 b0, .int .i64 b1, .int .i64 (256 * b2 + b3), .int .i64 (256 * b4 + b5), .int .i64 (256 * b6 + b7), .int .i64 b8, v6, v7]) := Lib.hid (by simpa using g')
  have Q6 := Lib.hid q'
  have H6 := Lib.hid h'
  have L6 := Lib.hid bel'
  have S6 := Lib.hid sz'
  clear g' q' h' bel' sz'
  go_wp2_with fail
  refine (step_one g q 6 b ((((((p + 1) + 1) + 2) + 2) + 2) + 1) (n + 2) (c + 2) b9 (b10 :: b11 :: r) _ t #[.int .i64 b0, .int .i64 b1, .int .i64 (256 * b2 + b3), .int .i64 (256 * b4 + b5), .int .i64 (256 * b6 + b7), .int .i64 b8, v6, v7] B G6.out (by simp) Q6.out H6.out (by omega) hBg hBq hgq).mono ?_
  rintro e w7 ⟨rfl, g', q', h', bel', sz'⟩
  have G7 : Hid (Blk w7 g t #[.int .i64 b0, .int .i64 b1, .int .i64 (256 * b2 + b3), .int .i64 (256 * b4 + b5), .int .i64 (256 * b6 + b7), .int .i64 b8, .int .i64 b9, v7]) := Lib.hid (by simpa using g')
  have Q7 := Lib.hid q'
  have H7 := Lib.hid h'
  have L7 := Lib.hid bel'
  have S7 := Lib.hid sz'
  clear g' q' h' bel' sz'
  go_wp2_with fail
  refine (step_two g q 7 b (((((((p + 1) + 1) + 2) + 2) + 2) + 1) + 1) n c b10 b11 (r) _ t #[.int .i64 b0, .int .i64 b1, .int .i64 (256 * b2 + b3), .int .i64 (256 * b4 + b5), .int .i64 (256 * b6 + b7), .int .i64 b8, .int .i64 b9, v7] B G7.out (by simp) Q7.out H7.out (by omega) hBg hBq hgq).mono ?_
  rintro e w8 ⟨rfl, g', q', h', bel', sz'⟩
  have G8 : Hid (Blk w8 g t #[.int .i64 b0, .int .i64 b1, .int .i64 (256 * b2 + b3), .int .i64 (256 * b4 + b5), .int .i64 (256 * b6 + b7), .int .i64 b8, .int .i64 b9, .int .i64 (256 * b10 + b11)]) := Lib.hid (by simpa using g')
  have Q8 := Lib.hid q'
  have H8 := Lib.hid h'
  have L8 := Lib.hid bel'
  have S8 := Lib.hid sz'
  clear g' q' h' bel' sz'
  go_wp2_with fail
  go_end0
  refine ⟨rfl, G8.out, ((((((L1.out.trans L2.out).trans L3.out).trans L4.out).trans L5.out).trans L6.out).trans L7.out).trans L8.out, ?_⟩
  rw [S8.out, S7.out, S6.out, S5.out, S4.out, S3.out, S2.out, S1.out]

theorem read_any (g b p n c : Nat) (b0 b1 b2 b3 b4 b5 b6 b7 b8 b9 b10 b11 : Int) (r : List Int) (w : World) (t : TypeId) (v0 v1 v2 v3 v4 v5 v6 v7 : Value) (B : Nat) (hg : Blk w g t #[v0, v1, v2, v3, v4, v5, v6, v7])
    (h : Holds w B (some ⟨b, p, none⟩) (n + 12) (c + 12) (b0 :: b1 :: b2 :: b3 :: b4 :: b5 :: b6 :: b7 :: b8 :: b9 :: b10 :: b11 :: r)) (hn : 0 < n) (hBg : B ≤ g) :
    Calls Tryd.prog 42 #[.pointer (some ⟨g, 0, none⟩), .slice (some ⟨b, p, none⟩) (n + 12) (c + 12)] w fun e w' => e = .returned (.tuple #[]) ∧
      Blk w' g t #[.int .i64 b0, .int .i64 b1, .int .i64 (256 * b2 + b3), .int .i64 (256 * b4 + b5), .int .i64 (256 * b6 + b7), .int .i64 b8, .int .i64 b9, .int .i64 (256 * b10 + b11)] ∧ Below B w w' := by
  have hlt := hg.lt
  have W := Lib.hid (walk_read g w.heap.size b p n c b0 b1 b2 b3 b4 b5 b6 b7 b8 b9 b10 b11 r (w.alloc (.cells #[.slice (some ⟨b, p, none⟩) (n + 12) (c + 12)] 22)) t v0 v1 v2 v3 v4 v5 v6 v7 B (hg.alloc _) (Blk.new _ _ _)
    (h.below ((Below.refl _ _).alloc (by omega) _)) hn hBg (by omega) (by omega))
  clear h hg
  go_enter Tryd.func42, Tryd.ntmps42
  go_wp2_with fail
  refine W.out.mono ?_
  rintro e w1 ⟨rfl, g', bel', sz'⟩
  have G := Lib.hid g'
  have L := Lib.hid (((Below.refl B w).alloc (by omega) _).trans bel')
  clear g' bel' sz'
  go_wp2_with fail
  go_end0
  exact ⟨rfl, G.out, L.out⟩

end Go.Proofs.YtjhfginopbjldaaDoor.Read
