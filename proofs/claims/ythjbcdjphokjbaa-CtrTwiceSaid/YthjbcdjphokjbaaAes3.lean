/- Contracts of the code: Box; a word or a block after Box; a word turned; a block unlike sixteen bytes. -/
import Derived.Test.YthjbcdjphokjbaaAes2
import Derived.Test.YthjbcdjphokjbaaAesR3
import Derived.Test.YthjbcdjphokjbaaAesK
import Derived.PlainAid
set_option linter.unusedVariables false
namespace Go.Proofs.Ythjbcdjphokjbaa.Aes3
open Go.RowKit Go.PlainAid Go.Proofs.Ythjbcdjphokjbaa.Sums Go.Proofs.Ythjbcdjphokjbaa.Mem Go.Proofs.Ythjbcdjphokjbaa.Blk Go.Proofs.Ythjbcdjphokjbaa.Bits3 Go.Proofs.Ythjbcdjphokjbaa.Ints Go.Proofs.Ythjbcdjphokjbaa.AesF Go.Proofs.Ythjbcdjphokjbaa.AesB Go.Proofs.Ythjbcdjphokjbaa.AesR2 Go.Proofs.Ythjbcdjphokjbaa.AesR3 Go.Proofs.Ythjbcdjphokjbaa.Aes1 Go.Proofs.Ythjbcdjphokjbaa.Aes2

def pil (f g : Nat → Nat) (n j : Nat) : List Nat := (List.range n).map fun i => if i < j then f i else g i
theorem pil_len (f g : Nat → Nat) (n j : Nat) : (pil f g n j).length = n := by simp [pil]
theorem pil_get (f g : Nat → Nat) {n j i : Nat} (h : i < n) : (pil f g n j).getD i 0 = if i < j then f i else g i := by
  rw [List.getD_eq_getElem?_getD, pil, List.getElem?_map, List.getElem?_range h]
  rfl
theorem pil_at (f g : Nat → Nat) {n j : Nat} (h : j < n) : (pil f g n j).getD j 0 = g j := by rw [pil_get f g h, if_neg (Nat.lt_irrefl _)]
theorem pil_zero (f : Nat → Nat) (l : List Nat) : pil f (fun i => l.getD i 0) l.length 0 = l := by
  apply List.ext_getElem
  · simp [pil]
  · intro i h1 h2
    simp only [pil, List.getElem_map, List.getElem_range]
    rw [if_neg (Nat.not_lt_zero _), List.getD_eq_getElem?_getD, List.getElem?_eq_getElem h2]
    rfl
theorem pil_full (f g : Nat → Nat) (n : Nat) : pil f g n n = (List.range n).map f := by
  apply List.ext_getElem
  · simp [pil]
  · intro i h1 h2
    simp [pil] at h1 ⊢
    intro h; omega
theorem pil_set (f g : Nat → Nat) (n j : Nat) : (pil f g n j).set j (f j) = pil f g n (j + 1) := by
  apply List.ext_getElem
  · simp [pil]
  · intro i h1 h2
    rw [List.getElem_set]
    simp only [pil, List.getElem_map, List.getElem_range]
    by_cases q : j = i
    · subst q
      rw [if_pos rfl, if_pos (by omega)]
    · rw [if_neg q]
      by_cases r : i < j
      · rw [if_pos r, if_pos (by omega)]
      · rw [if_neg r, if_neg (by omega)]
theorem bcells_size (l : List Nat) : (bcells l).size = l.length := by simp [bcells]
theorem bcells_one (l : List Nat) : (bcells l).all (·.oneCell') = true := by
  rw [Array.all_eq_true_iff_forall_mem]
  intro x hx
  simp [bcells] at hx
  obtain ⟨z, _, rfl⟩ := hx
  rfl
theorem below_setRow {B g : Nat} {a w : World} {cs : Array Value} (h : Below B a w) (hg : B ≤ g) : Below B a (w.setRow g cs) :=
  ⟨h.os, h.tape, h.output, by simpa [World.setRow] using h.size, fun k hk => by
    have e : (w.setRow g cs).heap[k]? = w.heap[k]? := by
      unfold World.setRow
      simp only [Array.getElem?_modify]
      rw [if_neg (by omega)]
    rw [e]
    exact h.block k hk⟩
theorem zero_16 (w : World) : (zeroValue 59).run Try.prog w = .ok (.agg (bcells (List.replicate 16 0))) w := by kernel_rfl
theorem zero_4 (w : World) : (zeroValue 52).run Try.prog w = .ok (.agg (bcells (List.replicate 4 0))) w := by kernel_rfl
theorem ARow.new2 (w : World) (t u : TypeId) (l m : List Nat) : ARow ((w.alloc (.cells (bcells l) t)).alloc (.cells (bcells m) u)) w.heap.size t l ∧ ARow ((w.alloc (.cells (bcells l) t)).alloc (.cells (bcells m) u)) (w.heap.size + 1) u m ∧ Below w.heap.size w ((w.alloc (.cells (bcells l) t)).alloc (.cells (bcells m) u)) := by
  refine ⟨(ARow.new w t l).alloc _, ?_, ((Below.refl _ _).alloc (Nat.le_refl _) _).alloc (by simp) _⟩
  have := ARow.new (w.alloc (.cells (bcells l) t)) u m
  rwa [show (w.alloc (.cells (bcells l) t)).heap.size = w.heap.size + 1 by simp] at this

set_option maxHeartbeats 1000000 in
set_option maxRecDepth 100000 in
/-- After Box of each byte. -/
theorem wboxed (l : List Nat) (hn : l.length = 4) (hl : Byt l) (gx : Nat) (w : World) (hx : ARow w gx 64 boxes) :
    Calls Try.prog 28 #[.agg (bcells l), .pointer (some ⟨gx, 0, none⟩)] w fun e w' => e = .returned (.agg (bcells ((List.range 4).map (fun i => Box (l.getD i 0))))) ∧ Below w.heap.size w w' := by
  have HX := Lib.hid hx
  clear hx
  obtain ⟨f, hf⟩ : ∃ f : Nat → Nat, f = (fun i => Box (l.getD i 0)) := ⟨_, rfl⟩
  obtain ⟨g0, hg0⟩ : ∃ g0 : Nat → Nat, g0 = fun i => l.getD i 0 := ⟨_, rfl⟩
  have FI := Lib.hid (fun i => congrFun hf i)
  have GI := Lib.hid (fun i => congrFun hg0 i)
  have LB := Lib.hid hl
  rw [← hf]
  have hz : ∀ v : World, (zeroValue 52).run Try.prog v = .ok (.agg (bcells (List.replicate 4 0))) v := zero_4
  obtain ⟨Z, hZ⟩ : ∃ Z, Z = List.replicate 4 0 := ⟨_, rfl⟩
  rw [← hZ] at hz
  have ZL : Hid (Z.length = 4) := Lib.hid (by rw [hZ, List.length_replicate])
  have N := ARow.new2 w 52 52 l Z
  have P0 : l = pil f g0 4 0 := by rw [hg0, ← hn, pil_zero]
  have R0 : Hid (ARow ((w.alloc (.cells (bcells l) 52)).alloc (.cells (bcells Z) 52)) w.heap.size 52 (pil f g0 4 0)) := Lib.hid (by rw [← P0]; exact N.1)
  have S0 := Lib.hid N.2.1
  have B0 := Lib.hid N.2.2
  clear N P0 hZ hf hg0 hl hn
  go_enter Try.func28, Try.ntmps28
  go_wp2_with fail
  clear hz
  generalize (w.alloc (.cells (bcells l) 52)).alloc (.cells (bcells Z) 52) = w1 at *
  go_loopw [6] (fun kv wr => ∃ j : Nat, kv = .int .i64 (j : Int) ∧ j ≤ 4 ∧ Hid (ARow wr w.heap.size 52 (pil f g0 4 j)) ∧ Hid (ARow wr (w.heap.size + 1) 52 Z) ∧ Hid (Below w.heap.size w wr)) (fun kv _ => 4 - (intOf kv).toNat)
  case atStart => exact ⟨0, rfl, by omega, R0, S0, B0⟩
  case round =>
    obtain ⟨j, rfl, hj, HR, HS, HB⟩ := hrel
    clear R0 S0 B0
    by_cases hlt : j < 4
    · have c0 := HR.out.cell j (by rw [pil_len]; exact hlt)
      rw [pil_at f g0 hlt, GI.out] at c0
      have f0 := HR.out.free j
      have lb := LB.out.get j
      have R2 : Hid (ARow (wr.setCell ⟨w.heap.size, j, none⟩ (.int .u8 ((f j : Nat) : Int))) w.heap.size 52 (pil f g0 4 (j + 1))) := Lib.hid (by have := HR.out.put j (f j); rwa [pil_set] at this)
      have S2 : Hid (ARow (wr.setCell ⟨w.heap.size, j, none⟩ (.int .u8 ((f j : Nat) : Int))) (w.heap.size + 1) 52 Z) := Lib.hid (HS.out.far (p := ⟨w.heap.size, j, none⟩) (by simp) _)
      have B2 := Lib.hid (HB.out.setCell (p := ⟨w.heap.size, j, none⟩) (Nat.le_refl _) (.int .u8 ((f j : Nat) : Int)))
      have FJ := FI.out j
      have x0 := (HX.out.up HB.out).cell (l.getD j 0) (by rw [boxes_len]; exact lb)
      rw [boxes_get lb, ← FJ] at x0
      generalize f j = fj at *
      generalize l.getD j 0 = x at *
      clear FJ HR HS HB
      go_wp2_with fail
      go_region
      go_wp2_with fail
      go_roundw
      case rel => exact ⟨j + 1, by go_num, by omega, R2, S2, Lib.hid (below_drewN B2.out 1)⟩
      case measure => simp [intOf]; omega
    · obtain rfl : j = 4 := by omega
      have RF : ARow wr w.heap.size 52 ((List.range 4).map f) := by have := HR.out; rwa [pil_full] at this
      have SF := HS.out
      have sz : (bcells ((List.range 4).map f)).size = 4 := by simp [bcells]
      have sZ : (bcells Z).size = 4 := by rw [bcells_size, ZL.out]
      have one := bcells_one ((List.range 4).map f)
      obtain ⟨cR, hcR⟩ : ∃ cR, cR = bcells ((List.range 4).map f) := ⟨_, rfl⟩
      have CE := Lib.hid hcR
      have BF := Lib.hid HB.out
      clear HR HS HB hlt hj FI GI LB ZL
      unfold ARow at RF SF
      rw [← hcR] at RF sz one
      clear hcR
      generalize bcells Z = cZ at *
      go_wp2_with (first
        | (refine wpList_load_row rfl _ _ rfl w.heap.size rfl 52 cR (0, 0) _ RF (Try.underlying52) rfl (by rw [sz]; kernel_rfl) ?_)
        | (refine wpList_store_row rfl _ _ _ rfl (w.heap.size + 1) cR rfl rfl 52 _ SF (by rw [sz]; kernel_rfl) (by rw [sz, sZ]) one ?_))
      exact bodyPost_ret (results_cell_row rfl _ _ (w.heap.size + 1) 52 cR (0, 0) _ rfl (setRow_heap _ _ _ _ _ _ SF) Try.underlying52 rfl (by rw [sz]; kernel_rfl)) rfl ⟨by rw [CE.out], below_setRow BF.out (by omega)⟩

set_option maxHeartbeats 1000000 in
set_option maxRecDepth 100000 in
/-- After Box of each byte. -/
theorem bboxed (l : List Nat) (hn : l.length = 16) (hl : Byt l) (gx : Nat) (w : World) (hx : ARow w gx 64 boxes) :
    Calls Try.prog 36 #[.agg (bcells l), .pointer (some ⟨gx, 0, none⟩)] w fun e w' => e = .returned (.agg (bcells ((List.range 16).map (fun i => Box (l.getD i 0))))) ∧ Below w.heap.size w w' := by
  have HX := Lib.hid hx
  clear hx
  obtain ⟨f, hf⟩ : ∃ f : Nat → Nat, f = (fun i => Box (l.getD i 0)) := ⟨_, rfl⟩
  obtain ⟨g0, hg0⟩ : ∃ g0 : Nat → Nat, g0 = fun i => l.getD i 0 := ⟨_, rfl⟩
  have FI := Lib.hid (fun i => congrFun hf i)
  have GI := Lib.hid (fun i => congrFun hg0 i)
  have LB := Lib.hid hl
  rw [← hf]
  have hz : ∀ v : World, (zeroValue 59).run Try.prog v = .ok (.agg (bcells (List.replicate 16 0))) v := zero_16
  obtain ⟨Z, hZ⟩ : ∃ Z, Z = List.replicate 16 0 := ⟨_, rfl⟩
  rw [← hZ] at hz
  have ZL : Hid (Z.length = 16) := Lib.hid (by rw [hZ, List.length_replicate])
  have N := ARow.new2 w 59 59 l Z
  have P0 : l = pil f g0 16 0 := by rw [hg0, ← hn, pil_zero]
  have R0 : Hid (ARow ((w.alloc (.cells (bcells l) 59)).alloc (.cells (bcells Z) 59)) w.heap.size 59 (pil f g0 16 0)) := Lib.hid (by rw [← P0]; exact N.1)
  have S0 := Lib.hid N.2.1
  have B0 := Lib.hid N.2.2
  clear N P0 hZ hf hg0 hl hn
  go_enter Try.func36, Try.ntmps36
  go_wp2_with fail
  clear hz
  generalize (w.alloc (.cells (bcells l) 59)).alloc (.cells (bcells Z) 59) = w1 at *
  go_loopw [6] (fun kv wr => ∃ j : Nat, kv = .int .i64 (j : Int) ∧ j ≤ 16 ∧ Hid (ARow wr w.heap.size 59 (pil f g0 16 j)) ∧ Hid (ARow wr (w.heap.size + 1) 59 Z) ∧ Hid (Below w.heap.size w wr)) (fun kv _ => 16 - (intOf kv).toNat)
  case atStart => exact ⟨0, rfl, by omega, R0, S0, B0⟩
  case round =>
    obtain ⟨j, rfl, hj, HR, HS, HB⟩ := hrel
    clear R0 S0 B0
    by_cases hlt : j < 16
    · have c0 := HR.out.cell j (by rw [pil_len]; exact hlt)
      rw [pil_at f g0 hlt, GI.out] at c0
      have f0 := HR.out.free j
      have lb := LB.out.get j
      have R2 : Hid (ARow (wr.setCell ⟨w.heap.size, j, none⟩ (.int .u8 ((f j : Nat) : Int))) w.heap.size 59 (pil f g0 16 (j + 1))) := Lib.hid (by have := HR.out.put j (f j); rwa [pil_set] at this)
      have S2 : Hid (ARow (wr.setCell ⟨w.heap.size, j, none⟩ (.int .u8 ((f j : Nat) : Int))) (w.heap.size + 1) 59 Z) := Lib.hid (HS.out.far (p := ⟨w.heap.size, j, none⟩) (by simp) _)
      have B2 := Lib.hid (HB.out.setCell (p := ⟨w.heap.size, j, none⟩) (Nat.le_refl _) (.int .u8 ((f j : Nat) : Int)))
      have FJ := FI.out j
      have x0 := (HX.out.up HB.out).cell (l.getD j 0) (by rw [boxes_len]; exact lb)
      rw [boxes_get lb, ← FJ] at x0
      generalize f j = fj at *
      generalize l.getD j 0 = x at *
      clear FJ HR HS HB
      go_wp2_with fail
      go_region
      go_wp2_with fail
      go_roundw
      case rel => exact ⟨j + 1, by go_num, by omega, R2, S2, Lib.hid (below_drewN B2.out 1)⟩
      case measure => simp [intOf]; omega
    · obtain rfl : j = 16 := by omega
      have RF : ARow wr w.heap.size 59 ((List.range 16).map f) := by have := HR.out; rwa [pil_full] at this
      have SF := HS.out
      have sz : (bcells ((List.range 16).map f)).size = 16 := by simp [bcells]
      have sZ : (bcells Z).size = 16 := by rw [bcells_size, ZL.out]
      have one := bcells_one ((List.range 16).map f)
      obtain ⟨cR, hcR⟩ : ∃ cR, cR = bcells ((List.range 16).map f) := ⟨_, rfl⟩
      have CE := Lib.hid hcR
      have BF := Lib.hid HB.out
      clear HR HS HB hlt hj FI GI LB ZL
      unfold ARow at RF SF
      rw [← hcR] at RF sz one
      clear hcR
      generalize bcells Z = cZ at *
      go_wp2_with (first
        | (refine wpList_load_row rfl _ _ rfl w.heap.size rfl 59 cR (0, 0) _ RF (Try.underlying59) rfl (by rw [sz]; kernel_rfl) ?_)
        | (refine wpList_store_row rfl _ _ _ rfl (w.heap.size + 1) cR rfl rfl 59 _ SF (by rw [sz]; kernel_rfl) (by rw [sz, sZ]) one ?_))
      exact bodyPost_ret (results_cell_row rfl _ _ (w.heap.size + 1) 59 cR (0, 0) _ rfl (setRow_heap _ _ _ _ _ _ SF) Try.underlying59 rfl (by rw [sz]; kernel_rfl)) rfl ⟨by rw [CE.out], below_setRow BF.out (by omega)⟩

set_option maxHeartbeats 1000000 in
set_option maxRecDepth 100000 in
/-- Unlike the first sixteen bytes of a row. -/
theorem bplus (l : List Nat) (hn : l.length = 16) (hl : Byt l) (A : Option Addr) (n c : Nat) (ks : List Int) (B : Nat) (w : World) (h : Holds w B A n c ks) (hB : B ≤ w.heap.size) (hn16 : 16 ≤ n) :
    Calls Try.prog 35 #[.agg (bcells l), .slice A n c] w fun e w' => e = .returned (.agg (bcells ((List.range 16).map (fun i => l.getD i 0 ^^^ (nats ks).getD i 0)))) ∧ Below w.heap.size w w' := by
  obtain ⟨q, p, rfl, _⟩ := h.2.2.2.2 (by omega)
  have hm := h.2.2.1
  have hnc := h.2.1
  unfold maxLen at hm
  have KB := Lib.hid (nats_byt h.2.2.2.1)
  have HK := Lib.hid h
  have NB := Lib.hid (fun i => nats_getD h.2.2.2.1 i)
  clear h
  obtain ⟨f, hf⟩ : ∃ f : Nat → Nat, f = (fun i => l.getD i 0 ^^^ (nats ks).getD i 0) := ⟨_, rfl⟩
  obtain ⟨g0, hg0⟩ : ∃ g0 : Nat → Nat, g0 = fun i => l.getD i 0 := ⟨_, rfl⟩
  have FI := Lib.hid (fun i => congrFun hf i)
  have GI := Lib.hid (fun i => congrFun hg0 i)
  have LB := Lib.hid hl
  rw [← hf]
  have hz : ∀ v : World, (zeroValue 59).run Try.prog v = .ok (.agg (bcells (List.replicate 16 0))) v := zero_16
  obtain ⟨Z, hZ⟩ : ∃ Z, Z = List.replicate 16 0 := ⟨_, rfl⟩
  rw [← hZ] at hz
  have ZL : Hid (Z.length = 16) := Lib.hid (by rw [hZ, List.length_replicate])
  have N := ARow.new2 w 59 59 l Z
  have P0 : l = pil f g0 16 0 := by rw [hg0, ← hn, pil_zero]
  have R0 : Hid (ARow ((w.alloc (.cells (bcells l) 59)).alloc (.cells (bcells Z) 59)) w.heap.size 59 (pil f g0 16 0)) := Lib.hid (by rw [← P0]; exact N.1)
  have S0 := Lib.hid N.2.1
  have B0 := Lib.hid N.2.2
  clear N P0 hZ hf hg0 hl hn
  go_enter Try.func35, Try.ntmps35
  go_wp2_with fail
  clear hz
  generalize (w.alloc (.cells (bcells l) 59)).alloc (.cells (bcells Z) 59) = w1 at *
  go_loopw [6] (fun kv wr => ∃ j : Nat, kv = .int .i64 (j : Int) ∧ j ≤ 16 ∧ Hid (ARow wr w.heap.size 59 (pil f g0 16 j)) ∧ Hid (ARow wr (w.heap.size + 1) 59 Z) ∧ Hid (Below w.heap.size w wr)) (fun kv _ => 16 - (intOf kv).toNat)
  case atStart => exact ⟨0, rfl, by omega, R0, S0, B0⟩
  case round =>
    obtain ⟨j, rfl, hj, HR, HS, HB⟩ := hrel
    clear R0 S0 B0
    by_cases hlt : j < 16
    · have c0 := HR.out.cell j (by rw [pil_len]; exact hlt)
      rw [pil_at f g0 hlt, GI.out] at c0
      have f0 := HR.out.free j
      have lb := LB.out.get j
      have R2 : Hid (ARow (wr.setCell ⟨w.heap.size, j, none⟩ (.int .u8 ((f j : Nat) : Int))) w.heap.size 59 (pil f g0 16 (j + 1))) := Lib.hid (by have := HR.out.put j (f j); rwa [pil_set] at this)
      have S2 : Hid (ARow (wr.setCell ⟨w.heap.size, j, none⟩ (.int .u8 ((f j : Nat) : Int))) (w.heap.size + 1) 59 Z) := Lib.hid (HS.out.far (p := ⟨w.heap.size, j, none⟩) (by simp) _)
      have B2 := Lib.hid (HB.out.setCell (p := ⟨w.heap.size, j, none⟩) (Nat.le_refl _) (.int .u8 ((f j : Nat) : Int)))
      have FJ := FI.out j
      have y0 := cell_getD (HK.out.below (HB.out.mono hB)) j (by omega)
      rw [NB.out j] at y0
      have yb := KB.out.get j
      have jn : j < n := by omega
      generalize f j = fj at *
      generalize l.getD j 0 = x at *
      generalize (nats ks).getD j 0 = y at *
      have e1 : bits .xor .u8 (x : Int) (y : Int) = (fj : Int) := by rw [Bits3.u8_xor lb yb, FJ]
      clear FJ HR HS HB
      go_wp2_with fail
      go_region
      go_wp2_with fail
      go_roundw
      case rel => exact ⟨j + 1, by go_num, by omega, R2, S2, Lib.hid (below_drewN B2.out 1)⟩
      case measure => simp [intOf]; omega
    · obtain rfl : j = 16 := by omega
      have RF : ARow wr w.heap.size 59 ((List.range 16).map f) := by have := HR.out; rwa [pil_full] at this
      have SF := HS.out
      have sz : (bcells ((List.range 16).map f)).size = 16 := by simp [bcells]
      have sZ : (bcells Z).size = 16 := by rw [bcells_size, ZL.out]
      have one := bcells_one ((List.range 16).map f)
      obtain ⟨cR, hcR⟩ : ∃ cR, cR = bcells ((List.range 16).map f) := ⟨_, rfl⟩
      have CE := Lib.hid hcR
      have BF := Lib.hid HB.out
      clear HR HS HB hlt hj FI GI LB ZL
      unfold ARow at RF SF
      rw [← hcR] at RF sz one
      clear hcR
      generalize bcells Z = cZ at *
      go_wp2_with (first
        | (refine wpList_load_row rfl _ _ rfl w.heap.size rfl 59 cR (0, 0) _ RF (Try.underlying59) rfl (by rw [sz]; kernel_rfl) ?_)
        | (refine wpList_store_row rfl _ _ _ rfl (w.heap.size + 1) cR rfl rfl 59 _ SF (by rw [sz]; kernel_rfl) (by rw [sz, sZ]) one ?_))
      exact bodyPost_ret (results_cell_row rfl _ _ (w.heap.size + 1) 59 cR (0, 0) _ rfl (setRow_heap _ _ _ _ _ _ SF) Try.underlying59 rfl (by rw [sz]; kernel_rfl)) rfl ⟨by rw [CE.out], below_setRow BF.out (by omega)⟩

end Go.Proofs.Ythjbcdjphokjbaa.Aes3
