/- Contracts of the code: Box; a word or a block after Box; a word turned; a block unlike sixteen bytes. -/
import Derived.Test.YtdnkbefpbehllaaDoorM13
import Derived.Test.YtdnkbefpbehllaaDoorM09
import Derived.PlainAid
import Derived.Lib.QuietBelow
import Derived.BigQuiet
import Derived.Deep.QuietTactic
set_option linter.unusedVariables false
namespace Go.Proofs.YtdnkbefpbehllaaDoor.Aes3
open Go.RowKit Go.PlainAid Go.Proofs.YtdnkbefpbehllaaDoor.Sums Go.Proofs.YtdnkbefpbehllaaDoor.Mem Go.Proofs.YtdnkbefpbehllaaDoor.Blk Go.Proofs.YtdnkbefpbehllaaDoor.Bits3 Go.Proofs.YtdnkbefpbehllaaDoor.Ints Go.Proofs.YtdnkbefpbehllaaDoor.AesF Go.Proofs.YtdnkbefpbehllaaDoor.AesB Go.Proofs.YtdnkbefpbehllaaDoor.AesR2 Go.Proofs.YtdnkbefpbehllaaDoor.AesR3 Go.Proofs.YtdnkbefpbehllaaDoor.Aes1 Go.Proofs.YtdnkbefpbehllaaDoor.Aes2

def pil (f g : Nat → Nat) (n j : Nat) : List Nat := (List.range n).map fun i => if i < j then f i else g i
theorem pil_len (f g : Nat → Nat) (n j : Nat) : (pil f g n j).length = n := by simp [pil]
theorem pil_get (f g : Nat → Nat) {n j i : Nat} (h : i < n) : (pil f g n j).getD i 0 = if i < j then f i else g i := by
  rw [List.getD_eq_getElem?_getD, pil, List.getElem?_map, List.getElem?_range h]
  rfl
theorem pil_at (f g : Nat → Nat) {n j : Nat} (h : j < n) : (pil f g n j).getD j 0 = g j := by rw [pil_get f g h, if_neg (Nat.lt_irrefl _)]
theorem pil_zero (f : Nat → Nat) (l : List Nat) : pil f (fun i => l.getD i 0) l.length 0 = l := by
  apply List.ext_getElem
  · simp [pil]
  · intro i h1 h2
    simp only [pil, List.getElem_map, List.getElem_range]
    rw [if_neg (Nat.not_lt_zero _), List.getD_eq_getElem?_getD, List.getElem?_eq_getElem h2]
    rfl
theorem pil_full (f g : Nat → Nat) (n : Nat) : pil f g n n = (List.range n).map f := by
  apply List.ext_getElem
  · simp [pil]
  · intro i h1 h2
    simp [pil] at h1 ⊢
    intro h; omega
theorem pil_set (f g : Nat → Nat) (n j : Nat) : (pil f g n j).set j (f j) = pil f g n (j + 1) := by
  apply List.ext_getElem
  · simp [pil]
  · intro i h1 h2
    rw [List.getElem_set]
    simp only [pil, List.getElem_map, List.getElem_range]
    by_cases q : j = i
    · subst q
      rw [if_pos rfl, if_pos (by omega)]
    · rw [if_neg q]
      by_cases r : i < j
      · rw [if_pos r, if_pos (by omega)]
      · rw [if_neg r, if_neg (by omega)]
theorem bcells_size (l : List Nat) : (bcells l).size = l.length := by simp [bcells]
theorem bcells_one (l : List Nat) : (bcells l).all (·.oneCell') = true := by
  rw [Array.all_eq_true_iff_forall_mem]
  intro x hx
  simp [bcells] at hx
  obtain ⟨z, _, rfl⟩ := hx
  rfl
theorem below_setRow {B g : Nat} {a w : World} {cs : Array Value} (h : Below B a w) (hg : B ≤ g) : Below B a (w.setRow g cs) :=
  ⟨h.os, h.tape, h.output, by simpa [World.setRow] using h.size, fun k hk => by
    have e : (w.setRow g cs).heap[k]? = w.heap[k]? := by
      unfold World.setRow
      simp only [Array.getElem?_modify]
      rw [if_neg (by omega)]
    rw [e]
    exact h.block k hk⟩
theorem zero_16 (w : World) : (zeroValue 116).run Tryd.prog w = .ok (.agg (bcells (List.replicate 16 0))) w := by kernel_rfl
theorem zero_4 (w : World) : (zeroValue 104).run Tryd.prog w = .ok (.agg (bcells (List.replicate 4 0))) w := by kernel_rfl
theorem ARow.new2 (w : World) (t u : TypeId) (l m : List Nat) : ARow ((w.alloc (.cells (bcells l) t)).alloc (.cells (bcells m) u)) w.heap.size t l ∧ ARow ((w.alloc (.cells (bcells l) t)).alloc (.cells (bcells m) u)) (w.heap.size + 1) u m ∧ Below w.heap.size w ((w.alloc (.cells (bcells l) t)).alloc (.cells (bcells m) u)) := by
  refine ⟨(ARow.new w t l).alloc _, ?_, ((Below.refl _ _).alloc (Nat.le_refl _) _).alloc (by simp) _⟩
  have := ARow.new (w.alloc (.cells (bcells l) t)) u m
  rwa [show (w.alloc (.cells (bcells l) t)).heap.size = w.heap.size + 1 by simp] at this

set_option maxHeartbeats 1000000 in
set_option maxRecDepth 100000 in
/-- After Box of each byte. -/
theorem wboxed (l : List Nat) (hn : l.length = 4) (hl : Byt l) (gx : Nat) (w : World) (hx : ARow w gx 114 boxes) :
    Calls Tryd.prog 54 #[.agg (bcells l), .pointer (some ⟨gx, 0, none⟩)] w fun e w' => e = .returned (.agg (bcells ((List.range 4).map (fun i => Box (l.getD i 0))))) ∧ Below w.heap.size w w' := by
  have HX := Lib.hid hx
  clear hx
  obtain ⟨f, hf⟩ : ∃ f : Nat → Nat, f = (fun i => Box (l.getD i 0)) := ⟨_, rfl⟩
  obtain ⟨g0, hg0⟩ : ∃ g0 : Nat → Nat, g0 = fun i => l.getD i 0 := ⟨_, rfl⟩
  have FI := Lib.hid (fun i => congrFun hf i)
  have GI := Lib.hid (fun i => congrFun hg0 i)
  have LB := Lib.hid hl
  rw [← hf]
  have hz : ∀ v : World, (zeroValue 104).run Tryd.prog v = .ok (.agg (bcells (List.replicate 4 0))) v := zero_4
  obtain ⟨Z, hZ⟩ : ∃ Z, Z = List.replicate 4 0 := ⟨_, rfl⟩
  rw [← hZ] at hz
  have ZL : Hid (Z.length = 4) := Lib.hid (by rw [hZ, List.length_replicate])
  have N := ARow.new2 w 104 104 l Z
  have P0 : l = pil f g0 4 0 := by rw [hg0, ← hn, pil_zero]
  have R0 : Hid (ARow ((w.alloc (.cells (bcells l) 104)).alloc (.cells (bcells Z) 104)) w.heap.size 104 (pil f g0 4 0)) := Lib.hid (by rw [← P0]; exact N.1)
  have S0 := Lib.hid N.2.1
  have B0 := Lib.hid N.2.2
  clear N P0 hZ hf hg0 hl hn
  go_enter Tryd.func54, Tryd.ntmps54
  go_wp2_with fail
  clear hz
  generalize (w.alloc (.cells (bcells l) 104)).alloc (.cells (bcells Z) 104) = w1 at *
  go_loopw [6] (fun kv wr => ∃ j : Nat, kv = .int .i64 (j : Int) ∧ j ≤ 4 ∧ Hid (ARow wr w.heap.size 104 (pil f g0 4 j)) ∧ Hid (ARow wr (w.heap.size + 1) 104 Z) ∧ Hid (Below w.heap.size w wr)) (fun kv _ => 4 - (intOf kv).toNat)
  case atStart => exact ⟨0, rfl, by omega, R0, S0, B0⟩
  case round =>
    obtain ⟨j, rfl, hj, HR, HS, HB⟩ := hrel
    clear R0 S0 B0
    by_cases hlt : j < 4
    · have c0 := HR.out.cell j (by rw [pil_len]; exact hlt)
      rw [pil_at f g0 hlt, GI.out] at c0
      have f0 := HR.out.free j
      have lb := LB.out.get j
      have R2 : Hid (ARow (wr.setCell ⟨w.heap.size, j, none⟩ (.int .u8 ((f j : Nat) : Int))) w.heap.size 104 (pil f g0 4 (j + 1))) := Lib.hid (by have := HR.out.put j (f j); rwa [pil_set] at this)
      have S2 : Hid (ARow (wr.setCell ⟨w.heap.size, j, none⟩ (.int .u8 ((f j : Nat) : Int))) (w.heap.size + 1) 104 Z) := Lib.hid (HS.out.far (p := ⟨w.heap.size, j, none⟩) (by simp) _)
      have B2 := Lib.hid (HB.out.setCell (p := ⟨w.heap.size, j, none⟩) (Nat.le_refl _) (.int .u8 ((f j : Nat) : Int)))
      have FJ := FI.out j
      have x0 := (HX.out.up HB.out).cell (l.getD j 0) (by rw [boxes_len]; exact lb)
      rw [boxes_get lb, ← FJ] at x0
      generalize f j = fj at *
      generalize l.getD j 0 = x at *
      clear FJ HR HS HB
      go_wp2_with fail
      go_region
      go_wp2_with fail
      go_roundw
      case rel => exact ⟨j + 1, by go_num, by omega, R2, S2, Lib.hid (below_drewN B2.out 1)⟩
      case measure => simp [intOf]; omega
    · obtain rfl : j = 4 := by omega
      have RF : ARow wr w.heap.size 104 ((List.range 4).map f) := by have := HR.out; rwa [pil_full] at this
      have SF := HS.out
      have sz : (bcells ((List.range 4).map f)).size = 4 := by simp [bcells]
      have sZ : (bcells Z).size = 4 := by rw [bcells_size, ZL.out]
      have one := bcells_one ((List.range 4).map f)
      obtain ⟨cR, hcR⟩ : ∃ cR, cR = bcells ((List.range 4).map f) := ⟨_, rfl⟩
      have CE := Lib.hid hcR
      have BF := Lib.hid HB.out
      clear HR HS HB hlt hj FI GI LB ZL
      unfold ARow at RF SF
      rw [← hcR] at RF sz one
      clear hcR
      generalize bcells Z = cZ at *
      go_wp2_with (first
        | (refine wpList_load_row rfl _ _ rfl w.heap.size rfl 104 cR (0, 0) _ RF (Tryd.underlying104) rfl (by rw [sz]; kernel_rfl) ?_)
        | (refine wpList_store_row rfl _ _ _ rfl (w.heap.size + 1) cR rfl rfl 104 _ SF (by rw [sz]; kernel_rfl) (by rw [sz, sZ]) one ?_))
      exact bodyPost_ret (results_cell_row rfl _ _ (w.heap.size + 1) 104 cR (0, 0) _ rfl (setRow_heap _ _ _ _ _ _ SF) Tryd.underlying104 rfl (by rw [sz]; kernel_rfl)) rfl ⟨by rw [CE.out], below_setRow BF.out (by omega)⟩

set_option maxHeartbeats 1000000 in
set_option maxRecDepth 100000 in
/-- After Box of each byte. -/
theorem bboxed (l : List Nat) (hn : l.length = 16) (hl : Byt l) (gx : Nat) (w : World) (hx : ARow w gx 114 boxes) :
    Calls Tryd.prog 63 #[.agg (bcells l), .pointer (some ⟨gx, 0, none⟩)] w fun e w' => e = .returned (.agg (bcells ((List.range 16).map (fun i => Box (l.getD i 0))))) ∧ Below w.heap.size w w' := by
  have HX := Lib.hid hx
  clear hx
  obtain ⟨f, hf⟩ : ∃ f : Nat → Nat, f = (fun i => Box (l.getD i 0)) := ⟨_, rfl⟩
  obtain ⟨g0, hg0⟩ : ∃ g0 : Nat → Nat, g0 = fun i => l.getD i 0 := ⟨_, rfl⟩
  have FI := Lib.hid (fun i => congrFun hf i)
  have GI := Lib.hid (fun i => congrFun hg0 i)
  have LB := Lib.hid hl
  rw [← hf]
  have hz : ∀ v : World, (zeroValue 116).run Tryd.prog v = .ok (.agg (bcells (List.replicate 16 0))) v := zero_16
  obtain ⟨Z, hZ⟩ : ∃ Z, Z = List.replicate 16 0 := ⟨_, rfl⟩
  rw [← hZ] at hz
  have ZL : Hid (Z.length = 16) := Lib.hid (by rw [hZ, List.length_replicate])
  have N := ARow.new2 w 116 116 l Z
  have P0 : l = pil f g0 16 0 := by rw [hg0, ← hn, pil_zero]
  have R0 : Hid (ARow ((w.alloc (.cells (bcells l) 116)).alloc (.cells (bcells Z) 116)) w.heap.size 116 (pil f g0 16 0)) := Lib.hid (by rw [← P0]; exact N.1)
  have S0 := Lib.hid N.2.1
  have B0 := Lib.hid N.2.2
  clear N P0 hZ hf hg0 hl hn
  go_enter Tryd.func63, Tryd.ntmps63
  go_wp2_with fail
  clear hz
  generalize (w.alloc (.cells (bcells l) 116)).alloc (.cells (bcells Z) 116) = w1 at *
  go_loopw [6] (fun kv wr => ∃ j : Nat, kv = .int .i64 (j : Int) ∧ j ≤ 16 ∧ Hid (ARow wr w.heap.size 116 (pil f g0 16 j)) ∧ Hid (ARow wr (w.heap.size + 1) 116 Z) ∧ Hid (Below w.heap.size w wr)) (fun kv _ => 16 - (intOf kv).toNat)
  case atStart => exact ⟨0, rfl, by omega, R0, S0, B0⟩
  case round =>
    obtain ⟨j, rfl, hj, HR, HS, HB⟩ := hrel
    clear R0 S0 B0
    by_cases hlt : j < 16
    · have c0 := HR.out.cell j (by rw [pil_len]; exact hlt)
      rw [pil_at f g0 hlt, GI.out] at c0
      have f0 := HR.out.free j
      have lb := LB.out.get j
      have R2 : Hid (ARow (wr.setCell ⟨w.heap.size, j, none⟩ (.int .u8 ((f j : Nat) : Int))) w.heap.size 116 (pil f g0 16 (j + 1))) := Lib.hid (by have := HR.out.put j (f j); rwa [pil_set] at this)
      have S2 : Hid (ARow (wr.setCell ⟨w.heap.size, j, none⟩ (.int .u8 ((f j : Nat) : Int))) (w.heap.size + 1) 116 Z) := Lib.hid (HS.out.far (p := ⟨w.heap.size, j, none⟩) (by simp) _)
      have B2 := Lib.hid (HB.out.setCell (p := ⟨w.heap.size, j, none⟩) (Nat.le_refl _) (.int .u8 ((f j : Nat) : Int)))
      have FJ := FI.out j
      have x0 := (HX.out.up HB.out).cell (l.getD j 0) (by rw [boxes_len]; exact lb)
      rw [boxes_get lb, ← FJ] at x0
      generalize f j = fj at *
      generalize l.getD j 0 = x at *
      clear FJ HR HS HB
      go_wp2_with fail
      go_region
      go_wp2_with fail
      go_roundw
      case rel => exact ⟨j + 1, by go_num, by omega, R2, S2, Lib.hid (below_drewN B2.out 1)⟩
      case measure => simp [intOf]; omega
    · obtain rfl : j = 16 := by omega
      have RF : ARow wr w.heap.size 116 ((List.range 16).map f) := by have := HR.out; rwa [pil_full] at this
      have SF := HS.out
      have sz : (bcells ((List.range 16).map f)).size = 16 := by simp [bcells]
      have sZ : (bcells Z).size = 16 := by rw [bcells_size, ZL.out]
      have one := bcells_one ((List.range 16).map f)
      obtain ⟨cR, hcR⟩ : ∃ cR, cR = bcells ((List.range 16).map f) := ⟨_, rfl⟩
      have CE := Lib.hid hcR
      have BF := Lib.hid HB.out
      clear HR HS HB hlt hj FI GI LB ZL
      unfold ARow at RF SF
      rw [← hcR] at RF sz one
      clear hcR
      generalize bcells Z = cZ at *
      go_wp2_with (first
        | (refine wpList_load_row rfl _ _ rfl w.heap.size rfl 116 cR (0, 0) _ RF (Tryd.underlying116) rfl (by rw [sz]; kernel_rfl) ?_)
        | (refine wpList_store_row rfl _ _ _ rfl (w.heap.size + 1) cR rfl rfl 116 _ SF (by rw [sz]; kernel_rfl) (by rw [sz, sZ]) one ?_))
      exact bodyPost_ret (results_cell_row rfl _ _ (w.heap.size + 1) 116 cR (0, 0) _ rfl (setRow_heap _ _ _ _ _ _ SF) Tryd.underlying116 rfl (by rw [sz]; kernel_rfl)) rfl ⟨by rw [CE.out], below_setRow BF.out (by omega)⟩

set_option maxHeartbeats 1000000 in
set_option maxRecDepth 100000 in
/-- Unlike the first sixteen bytes of a row. -/
theorem bplus (l : List Nat) (hn : l.length = 16) (hl : Byt l) (A : Option Addr) (n c : Nat) (ks : List Int) (B : Nat) (w : World) (h : Holds w B A n c ks) (hB : B ≤ w.heap.size) (hn16 : 16 ≤ n) :
    Calls Tryd.prog 62 #[.agg (bcells l), .slice A n c] w fun e w' => e = .returned (.agg (bcells ((List.range 16).map (fun i => l.getD i 0 ^^^ (nats ks).getD i 0)))) ∧ Below w.heap.size w w' := by
  obtain ⟨q, p, rfl, _⟩ := h.2.2.2.2 (by omega)
  have hm := h.2.2.1
  have hnc := h.2.1
  unfold maxLen at hm
  have KB := Lib.hid (nats_byt h.2.2.2.1)
  have HK := Lib.hid h
  have NB := Lib.hid (fun i => nats_getD h.2.2.2.1 i)
  clear h
  obtain ⟨f, hf⟩ : ∃ f : Nat → Nat, f = (fun i => l.getD i 0 ^^^ (nats ks).getD i 0) := ⟨_, rfl⟩
  obtain ⟨g0, hg0⟩ : ∃ g0 : Nat → Nat, g0 = fun i => l.getD i 0 := ⟨_, rfl⟩
  have FI := Lib.hid (fun i => congrFun hf i)
  have GI := Lib.hid (fun i => congrFun hg0 i)
  have LB := Lib.hid hl
  rw [← hf]
  have hz : ∀ v : World, (zeroValue 116).run Tryd.prog v = .ok (.agg (bcells (List.replicate 16 0))) v := zero_16
  obtain ⟨Z, hZ⟩ : ∃ Z, Z = List.replicate 16 0 := ⟨_, rfl⟩
  rw [← hZ] at hz
  have ZL : Hid (Z.length = 16) := Lib.hid (by rw [hZ, List.length_replicate])
  have N := ARow.new2 w 116 116 l Z
  have P0 : l = pil f g0 16 0 := by rw [hg0, ← hn, pil_zero]
  have R0 : Hid (ARow ((w.alloc (.cells (bcells l) 116)).alloc (.cells (bcells Z) 116)) w.heap.size 116 (pil f g0 16 0)) := Lib.hid (by rw [← P0]; exact N.1)
  have S0 := Lib.hid N.2.1
  have B0 := Lib.hid N.2.2
  clear N P0 hZ hf hg0 hl hn
  go_enter Tryd.func62, Tryd.ntmps62
  go_wp2_with fail
  clear hz
  generalize (w.alloc (.cells (bcells l) 116)).alloc (.cells (bcells Z) 116) = w1 at *
  go_loopw [6] (fun kv wr => ∃ j : Nat, kv = .int .i64 (j : Int) ∧ j ≤ 16 ∧ Hid (ARow wr w.heap.size 116 (pil f g0 16 j)) ∧ Hid (ARow wr (w.heap.size + 1) 116 Z) ∧ Hid (Below w.heap.size w wr)) (fun kv _ => 16 - (intOf kv).toNat)
  case atStart => exact ⟨0, rfl, by omega, R0, S0, B0⟩
  case round =>
    obtain ⟨j, rfl, hj, HR, HS, HB⟩ := hrel
    clear R0 S0 B0
    by_cases hlt : j < 16
    · have c0 := HR.out.cell j (by rw [pil_len]; exact hlt)
      rw [pil_at f g0 hlt, GI.out] at c0
      have f0 := HR.out.free j
      have lb := LB.out.get j
      have R2 : Hid (ARow (wr.setCell ⟨w.heap.size, j, none⟩ (.int .u8 ((f j : Nat) : Int))) w.heap.size 116 (pil f g0 16 (j + 1))) := Lib.hid (by have := HR.out.put j (f j); rwa [pil_set] at this)
      have S2 : Hid (ARow (wr.setCell ⟨w.heap.size, j, none⟩ (.int .u8 ((f j : Nat) : Int))) (w.heap.size + 1) 116 Z) := Lib.hid (HS.out.far (p := ⟨w.heap.size, j, none⟩) (by simp) _)
      have B2 := Lib.hid (HB.out.setCell (p := ⟨w.heap.size, j, none⟩) (Nat.le_refl _) (.int .u8 ((f j : Nat) : Int)))
      have FJ := FI.out j
      have y0 := cell_getD (HK.out.below (HB.out.mono hB)) j (by omega)
      rw [NB.out j] at y0
      have yb := KB.out.get j
      have jn : j < n := by omega
      generalize f j = fj at *
      generalize l.getD j 0 = x at *
      generalize (nats ks).getD j 0 = y at *
      have e1 : bits .xor .u8 (x : Int) (y : Int) = (fj : Int) := by rw [Bits3.u8_xor lb yb, FJ]
      clear FJ HR HS HB
      go_wp2_with fail
      go_region
      go_wp2_with fail
      go_roundw
      case rel => exact ⟨j + 1, by go_num, by omega, R2, S2, Lib.hid (below_drewN B2.out 1)⟩
      case measure => simp [intOf]; omega
    · obtain rfl : j = 16 := by omega
      have RF : ARow wr w.heap.size 116 ((List.range 16).map f) := by have := HR.out; rwa [pil_full] at this
      have SF := HS.out
      have sz : (bcells ((List.range 16).map f)).size = 16 := by simp [bcells]
      have sZ : (bcells Z).size = 16 := by rw [bcells_size, ZL.out]
      have one := bcells_one ((List.range 16).map f)
      obtain ⟨cR, hcR⟩ : ∃ cR, cR = bcells ((List.range 16).map f) := ⟨_, rfl⟩
      have CE := Lib.hid hcR
      have BF := Lib.hid HB.out
      clear HR HS HB hlt hj FI GI LB ZL
      unfold ARow at RF SF
      rw [← hcR] at RF sz one
      clear hcR
      generalize bcells Z = cZ at *
      go_wp2_with (first
        | (refine wpList_load_row rfl _ _ rfl w.heap.size rfl 116 cR (0, 0) _ RF (Tryd.underlying116) rfl (by rw [sz]; kernel_rfl) ?_)
        | (refine wpList_store_row rfl _ _ _ rfl (w.heap.size + 1) cR rfl rfl 116 _ SF (by rw [sz]; kernel_rfl) (by rw [sz, sZ]) one ?_))
      exact bodyPost_ret (results_cell_row rfl _ _ (w.heap.size + 1) 116 cR (0, 0) _ rfl (setRow_heap _ _ _ _ _ _ SF) Tryd.underlying116 rfl (by rw [sz]; kernel_rfl)) rfl ⟨by rw [CE.out], below_setRow BF.out (by omega)⟩

end Go.Proofs.YtdnkbefpbehllaaDoor.Aes3

/- Contracts of the code: a word turned; a block whose rows are turned. -/
set_option linter.unusedVariables false
namespace Go.Proofs.YtdnkbefpbehllaaDoor.Aes4
open Go.RowKit Go.PlainAid Go.Proofs.YtdnkbefpbehllaaDoor.Sums Go.Proofs.YtdnkbefpbehllaaDoor.Mem Go.Proofs.YtdnkbefpbehllaaDoor.Blk Go.Proofs.YtdnkbefpbehllaaDoor.Bits3 Go.Proofs.YtdnkbefpbehllaaDoor.Ints Go.Proofs.YtdnkbefpbehllaaDoor.AesF Go.Proofs.YtdnkbefpbehllaaDoor.AesB Go.Proofs.YtdnkbefpbehllaaDoor.AesR2 Go.Proofs.YtdnkbefpbehllaaDoor.AesR3 Go.Proofs.YtdnkbefpbehllaaDoor.Aes1 Go.Proofs.YtdnkbefpbehllaaDoor.Aes2 Go.Proofs.YtdnkbefpbehllaaDoor.Aes3

set_option maxHeartbeats 1000000 in
set_option maxRecDepth 100000 in
theorem wturned (a b c d : Nat) (w : World) : Calls Tryd.prog 55 #[.agg (bcells [a, b, c, d])] w fun e w' => e = .returned (.agg (bcells [b, c, d, a])) ∧ Below w.heap.size w w' := by
  have N := ARow.new2 w 104 104 [a, b, c, d] (List.replicate 4 0)
  have c0 := N.1.cell 0 (by simp)
  have c1 := N.1.cell 1 (by simp)
  have c2 := N.1.cell 2 (by simp)
  have c3 := N.1.cell 3 (by simp)
  simp only [List.getD_cons_zero, List.getD_cons_succ] at c0 c1 c2 c3
  have S0 := N.2.1
  have B0 := Lib.hid N.2.2
  have hz : ∀ v : World, (zeroValue 104).run Tryd.prog v = .ok (.agg (bcells (List.replicate 4 0))) v := zero_4
  have SZ : (bcells (List.replicate 4 0)).size = 4 := by rw [bcells_size, List.length_replicate]
  have ST : ((((((bcells (List.replicate 4 0)).setIfInBounds 0 (.int .u8 (b : Int))).setIfInBounds 1 (.int .u8 (c : Int))).setIfInBounds 2 (.int .u8 (d : Int))).setIfInBounds 3 (.int .u8 (a : Int))) = bcells [b, c, d, a]) := rfl
  obtain ⟨cZ, hcZ⟩ : ∃ cZ, cZ = bcells (List.replicate 4 0) := ⟨_, rfl⟩
  have hne : (cZ = #[]) = False := by rw [hcZ]; exact bcells_ne (by decide)
  unfold ARow at S0
  rw [← hcZ] at S0 hz SZ ST c0 c1 c2 c3 B0
  obtain ⟨cl, hcl⟩ : ∃ cl, cl = bcells [a, b, c, d] := ⟨_, rfl⟩
  rw [← hcl] at S0 c0 c1 c2 c3 B0 ⊢
  have sR : (bcells [b, c, d, a]).size = 4 := rfl
  have oR := bcells_one [b, c, d, a]
  obtain ⟨cR, hcR⟩ : ∃ cR, cR = bcells [b, c, d, a] := ⟨_, rfl⟩
  rw [← hcR] at sR oR ST ⊢
  clear N hcZ hcl hcR
  go_enter Tryd.func55, Tryd.ntmps55
  go_wp2_with (first
    | (refine wpList_store_row rfl _ _ _ rfl (w.heap.size + 1) cR rfl rfl 104 _ S0 (by rw [sR]; kernel_rfl) (by rw [sR, SZ]) oR ?_))
  exact bodyPost_ret (results_cell_row rfl _ _ (w.heap.size + 1) 104 cR (0, 0) _ rfl (setRow_heap _ _ _ _ _ _ S0) Tryd.underlying104 rfl (by rw [sR]; kernel_rfl)) rfl ⟨rfl, below_setRow B0.out (by omega)⟩

/-- Three blocks made. -/
theorem ARow.new3 (w : World) (t : TypeId) (l m n : List Nat) : ARow (((w.alloc (.cells (bcells l) t)).alloc (.cells (bcells m) t)).alloc (.cells (bcells n) t)) w.heap.size t l ∧ ARow (((w.alloc (.cells (bcells l) t)).alloc (.cells (bcells m) t)).alloc (.cells (bcells n) t)) (w.heap.size + 1) t m ∧ ARow (((w.alloc (.cells (bcells l) t)).alloc (.cells (bcells m) t)).alloc (.cells (bcells n) t)) (w.heap.size + 2) t n ∧ Below w.heap.size w (((w.alloc (.cells (bcells l) t)).alloc (.cells (bcells m) t)).alloc (.cells (bcells n) t)) := by
  have N := ARow.new2 w t t l m
  have M := ARow.new ((w.alloc (.cells (bcells l) t)).alloc (.cells (bcells m) t)) t n
  rw [show ((w.alloc (.cells (bcells l) t)).alloc (.cells (bcells m) t)).heap.size = w.heap.size + 2 by simp] at M
  exact ⟨N.1.alloc _, N.2.1.alloc _, M, N.2.2.alloc (by simp; omega) _⟩

set_option maxHeartbeats 1000000 in
set_option maxRecDepth 100000 in
/-- Each row turned. -/
theorem bshifted (l : List Nat) (hn : l.length = 16) (w : World) :
    Calls Tryd.prog 64 #[.agg (bcells l)] w fun e w' => e = .returned (.agg (bcells ((List.range 16).map fun i => l.getD (src i) 0))) ∧ Below w.heap.size w w' := by
  obtain ⟨f, hf⟩ : ∃ f : Nat → Nat, f = fun i => l.getD (src i) 0 := ⟨_, rfl⟩
  have FI := Lib.hid (fun i => congrFun hf i)
  have L16 := Lib.hid hn
  rw [← hf]
  have hz : ∀ v : World, (zeroValue 116).run Tryd.prog v = .ok (.agg (bcells (List.replicate 16 0))) v := zero_16
  have N := ARow.new3 w 116 l (List.replicate 16 0) (List.replicate 16 0)
  have SZ : (bcells (List.replicate 16 0)).size = 16 := by rw [bcells_size, List.length_replicate]
  obtain ⟨Z, hZ⟩ : ∃ Z, Z = List.replicate 16 0 := ⟨_, rfl⟩
  rw [← hZ] at hz N SZ
  have FZ : Z = fil f 16 0 := by rw [fil_zero, hZ]
  have L0 := Lib.hid N.1
  have S0 := Lib.hid N.2.1
  have R0 : Hid (ARow (((w.alloc (.cells (bcells l) 116)).alloc (.cells (bcells Z) 116)).alloc (.cells (bcells Z) 116)) (w.heap.size + 2) 116 (fil f 16 0)) := Lib.hid (by rw [← FZ]; exact N.2.2.1)
  have B0 := Lib.hid N.2.2.2
  clear N hZ hf hn FZ
  go_enter Tryd.func64, Tryd.ntmps64
  go_wp2_with fail
  clear hz
  generalize ((w.alloc (.cells (bcells l) 116)).alloc (.cells (bcells Z) 116)).alloc (.cells (bcells Z) 116) = w1 at *
  go_loopw [5] (fun kv wr => ∃ j : Nat, kv = .int .i64 (j : Int) ∧ j ≤ 16 ∧ Hid (ARow wr w.heap.size 116 l) ∧ Hid (ARow wr (w.heap.size + 1) 116 Z) ∧ Hid (ARow wr (w.heap.size + 2) 116 (fil f 16 j)) ∧ Hid (Below w.heap.size w wr)) (fun kv _ => 16 - (intOf kv).toNat)
  case atStart => exact ⟨0, rfl, by omega, L0, S0, R0, B0⟩
  case round =>
    obtain ⟨j, rfl, hj, HL, HS, HR, HB⟩ := hrel
    clear L0 S0 R0 B0
    by_cases hlt : j < 16
    · have c0 := HR.out.cell j (by rw [fil_len]; exact hlt)
      have f0 := HR.out.free j
      have hs : src j < 16 := by unfold src; omega
      have hsd : src j = (j + 4 * (j % 4)) % 16 := by unfold src; omega
      have x0 := HL.out.cell (src j) (by rw [L16.out]; exact hs)
      have FJ := FI.out j
      have LN : Hid (ARow (wr.setCell ⟨w.heap.size + 2, j, none⟩ (.int .u8 ((f j : Nat) : Int))) w.heap.size 116 l) := Lib.hid (HL.out.far (p := ⟨w.heap.size + 2, j, none⟩) (by simp) _)
      have SN : Hid (ARow (wr.setCell ⟨w.heap.size + 2, j, none⟩ (.int .u8 ((f j : Nat) : Int))) (w.heap.size + 1) 116 Z) := Lib.hid (HS.out.far (p := ⟨w.heap.size + 2, j, none⟩) (by simp) _)
      have RN : Hid (ARow (wr.setCell ⟨w.heap.size + 2, j, none⟩ (.int .u8 ((f j : Nat) : Int))) (w.heap.size + 2) 116 (fil f 16 (j + 1))) := Lib.hid (by have := HR.out.put j (f j); rwa [fil_set] at this)
      have BN := Lib.hid (HB.out.setCell (p := ⟨w.heap.size + 2, j, none⟩) (by simp) (.int .u8 ((f j : Nat) : Int)))
      rw [FJ] at LN SN RN BN
      obtain ⟨s, hsv⟩ : ∃ s, s = src j := ⟨_, rfl⟩
      rw [← hsv] at hs hsd x0 LN SN RN BN
      generalize (fil f 16 j).getD j 0 = old at *
      generalize l.getD s 0 = x at *
      have e1 : (j : Int).tmod 4 = (j : Int) % 4 := Int.tmod_eq_emod_of_nonneg (by omega)
      have e2 : IntKind.i64.wrap (4 * ((j : Int) % 4)) = 4 * ((j : Int) % 4) := IntWalk.i64_in _ (by omega)
      have e3 : IntKind.i64.wrap ((j : Int) + 4 * ((j : Int) % 4)) = (j : Int) + 4 * ((j : Int) % 4) := IntWalk.i64_in _ (by omega)
      have e4 : ((j : Int) + 4 * ((j : Int) % 4)).tmod 16 = (s : Int) := by rw [Int.tmod_eq_emod_of_nonneg (by omega)]; omega
      clear FJ HR HL HS HB hsd hsv
      go_wp2_with fail
      go_roundw
      case rel => exact ⟨j + 1, by go_num, by omega, LN, SN, RN, BN⟩
      case measure => simp [intOf]; omega
    · obtain rfl : j = 16 := by omega
      have RF : ARow wr (w.heap.size + 2) 116 ((List.range 16).map f) := by have := HR.out; rwa [fil_full] at this
      have SF := HS.out
      have sz : (bcells ((List.range 16).map f)).size = 16 := by simp [bcells]
      have one := bcells_one ((List.range 16).map f)
      obtain ⟨cR, hcR⟩ : ∃ cR, cR = bcells ((List.range 16).map f) := ⟨_, rfl⟩
      have CE := Lib.hid hcR
      have BF := Lib.hid HB.out
      clear HR HL HS HB hlt hj FI L16
      unfold ARow at RF SF
      rw [← hcR] at RF sz one
      clear hcR
      generalize bcells Z = cZ at *
      go_wp2_with (first
        | (refine wpList_load_row rfl _ _ rfl (w.heap.size + 2) rfl 116 cR (0, 0) _ RF (Tryd.underlying116) rfl (by rw [sz]; kernel_rfl) ?_)
        | (refine wpList_store_row rfl _ _ _ rfl (w.heap.size + 1) cR rfl rfl 116 _ SF (by rw [sz]; kernel_rfl) (by rw [sz, SZ]) one ?_))
      exact bodyPost_ret (results_cell_row rfl _ _ (w.heap.size + 1) 116 cR (0, 0) _ rfl (setRow_heap _ _ _ _ _ _ SF) Tryd.underlying116 rfl (by rw [sz]; kernel_rfl)) rfl ⟨by rw [CE.out], below_setRow BF.out (by omega)⟩

end Go.Proofs.YtdnkbefpbehllaaDoor.Aes4

/- The contract of the code: each column of a block mixed. -/
set_option linter.unusedVariables false
namespace Go.Proofs.YtdnkbefpbehllaaDoor.Aes5
open Go.RowKit Go.PlainAid Go.Proofs.YtdnkbefpbehllaaDoor.Sums Go.Proofs.YtdnkbefpbehllaaDoor.Mem Go.Proofs.YtdnkbefpbehllaaDoor.Blk Go.Proofs.YtdnkbefpbehllaaDoor.Bits3 Go.Proofs.YtdnkbefpbehllaaDoor.Ints Go.Proofs.YtdnkbefpbehllaaDoor.AesF Go.Proofs.YtdnkbefpbehllaaDoor.AesB Go.Proofs.YtdnkbefpbehllaaDoor.AesR2 Go.Proofs.YtdnkbefpbehllaaDoor.AesR3 Go.Proofs.YtdnkbefpbehllaaDoor.Aes1 Go.Proofs.YtdnkbefpbehllaaDoor.Aes2 Go.Proofs.YtdnkbefpbehllaaDoor.Aes3 Go.Proofs.YtdnkbefpbehllaaDoor.Aes4

theorem T_two {x : Nat} (h : x < 256) : T x 2 = dbl x := by
  have : ∀ x : Fin 256, T x.val 2 = dbl x.val := by decide +kernel
  exact this ⟨x, h⟩
theorem T_three {x : Nat} (h : x < 256) : T x 3 = dbl x ^^^ x := by
  have : ∀ x : Fin 256, T x.val 3 = dbl x.val ^^^ x.val := by decide +kernel
  exact this ⟨x, h⟩
theorem mix_dbl {a b c d : Nat} (ha : a < 256) (hb : b < 256) : dbl (a ^^^ b) ^^^ b ^^^ c ^^^ d = mix4 a b c d := by
  unfold mix4
  rw [dbl_xor ha hb, T_two ha, T_three hb, Nat.xor_assoc (dbl a) (dbl b) b]

theorem k_at (c r t s : Nat) (hc : c < 16) (hs : s = c + (r + t) % 4) : IntKind.i64.wrap ((c : Int) + ((r : Int) + (t : Int)) % 4) = (s : Int) := by
  rw [IntWalk.i64_in _ (by omega)]; omega
theorem a_at (r t : Nat) (hr : r < 4) (ht : t ≤ 3) : IntKind.i64.wrap ((r : Int) + (t : Int)) = (r : Int) + (t : Int) := IntWalk.i64_in _ (by omega)
theorem d_at (r t : Nat) : ((r : Int) + (t : Int)).tmod 4 = ((r : Int) + (t : Int)) % 4 := Int.tmod_eq_emod_of_nonneg (by omega)
theorem i_at (c r i : Nat) (hc : c < 16) (hr : r < 4) (hi : i = c + r) : IntKind.i64.wrap ((c : Int) + (r : Int)) = (i : Int) := by
  rw [IntWalk.i64_in _ (by omega)]; omega
theorem s_at (q c r i t s : Nat) (hq : q < 4) (hr : r < 4) (hc : c = 4 * q) (hi : i = c + r) (hs : s = c + (r + t) % 4) : i < 16 ∧ s < 16 ∧ i / 4 * 4 + (i + t) % 4 = s ∧ 4 * q + r = i ∧ 4 * q + (r + 1) = i + 1 := by omega
set_option maxHeartbeats 4000000 in
set_option maxRecDepth 100000 in
/-- Each column mixed. -/
theorem bmixed (l : List Nat) (hn : l.length = 16) (hl : Byt l) (w : World) :
    Calls Tryd.prog 65 #[.agg (bcells l)] w fun e w' => e = .returned (.agg (bcells (mixl l))) ∧ Below w.heap.size w w' := by
  obtain ⟨f, hf⟩ : ∃ f : Nat → Nat, f = fun i => mix4 (l.getD i 0) (l.getD (i / 4 * 4 + (i + 1) % 4) 0) (l.getD (i / 4 * 4 + (i + 2) % 4) 0) (l.getD (i / 4 * 4 + (i + 3) % 4) 0) := ⟨_, rfl⟩
  have FI := Lib.hid (fun i => congrFun hf i)
  have FM : mixl l = (List.range 16).map f := by rw [hf]; rfl
  have L16 := Lib.hid hn
  have LB := Lib.hid hl
  rw [FM]
  have hz : ∀ v : World, (zeroValue 116).run Tryd.prog v = .ok (.agg (bcells (List.replicate 16 0))) v := zero_16
  have N := ARow.new3 w 116 l (List.replicate 16 0) (List.replicate 16 0)
  have SZ : (bcells (List.replicate 16 0)).size = 16 := by rw [bcells_size, List.length_replicate]
  obtain ⟨Z, hZ⟩ : ∃ Z, Z = List.replicate 16 0 := ⟨_, rfl⟩
  rw [← hZ] at hz N SZ
  have FZ : Z = fil f 16 0 := by rw [fil_zero, hZ]
  have L0 := Lib.hid N.1
  have S0 := Lib.hid N.2.1
  have R0 : Hid (ARow (((w.alloc (.cells (bcells l) 116)).alloc (.cells (bcells Z) 116)).alloc (.cells (bcells Z) 116)) (w.heap.size + 2) 116 (fil f 16 (4 * 0))) := Lib.hid (by rw [Nat.mul_zero, ← FZ]; exact N.2.2.1)
  have B0 := Lib.hid N.2.2.2
  clear N hZ hf hn hl FZ FM
  go_enter Tryd.func65, Tryd.ntmps65
  go_wp2_with fail
  clear hz
  generalize ((w.alloc (.cells (bcells l) 116)).alloc (.cells (bcells Z) 116)).alloc (.cells (bcells Z) 116) = w1 at *
  go_loopw [4] (fun kv wr => ∃ q c : Nat, kv = .int .i64 (c : Int) ∧ q ≤ 4 ∧ Hid (c = 4 * q) ∧ Hid (ARow wr w.heap.size 116 l) ∧ Hid (ARow wr (w.heap.size + 1) 116 Z) ∧ Hid (ARow wr (w.heap.size + 2) 116 (fil f 16 (4 * q))) ∧ Hid (Below w.heap.size w wr)) (fun kv _ => 16 - (intOf kv).toNat)
  case atStart => exact ⟨0, 0, rfl, by omega, Lib.hid rfl, L0, S0, R0, B0⟩
  case round =>
    obtain ⟨q, c, rfl, hq, HC, HL, HS, HR, HB⟩ := hrel
    clear L0 S0 R0 B0
    generalize wr = wo at *
    by_cases hlt : q < 4
    · have hc : c < 16 := by have := HC.out; omega
      have hc' : (c : Int) < 16 := by omega
      clear hq
      go_wp2_with fail
      go_loopw [13] (fun kv wr => ∃ r : Nat, kv = .int .i64 (r : Int) ∧ r ≤ 4 ∧ Hid (ARow wr w.heap.size 116 l) ∧ Hid (ARow wr (w.heap.size + 1) 116 Z) ∧ Hid (ARow wr (w.heap.size + 2) 116 (fil f 16 (4 * q + r))) ∧ Hid (Below w.heap.size w wr)) (fun kv _ => 4 - (intOf kv).toNat)
      case atStart => exact ⟨0, rfl, by omega, HL, HS, HR, HB⟩
      case round =>
        obtain ⟨r, rfl, hr, KL, KS, KR, KB⟩ := hrel
        clear HL HS HR HB
        by_cases hlr : r < 4
        · obtain ⟨i, hi⟩ : ∃ i, i = c + r := ⟨_, rfl⟩
          obtain ⟨s1, hs1⟩ : ∃ s1, s1 = c + (r + 1) % 4 := ⟨_, rfl⟩
          obtain ⟨s2, hs2⟩ : ∃ s2, s2 = c + (r + 2) % 4 := ⟨_, rfl⟩
          obtain ⟨s3, hs3⟩ : ∃ s3, s3 = c + (r + 3) % 4 := ⟨_, rfl⟩
          obtain ⟨li, l1, m1, ie, ie2⟩ := s_at q c r i 1 s1 hlt hlr HC.out hi hs1
          obtain ⟨_, l2, m2, _, _⟩ := s_at q c r i 2 s2 hlt hlr HC.out hi hs2
          obtain ⟨_, l3, m3, _, _⟩ := s_at q c r i 3 s3 hlt hlr HC.out hi hs3
          have FJ := FI.out i
          rw [m1, m2, m3] at FJ
          have IE := Lib.hid ie
          have IE2 := Lib.hid ie2
          rw [IE.out] at KR
          have c1 := KL.out.cell s1 (by rw [L16.out]; exact l1)
          have c2 := KL.out.cell s2 (by rw [L16.out]; exact l2)
          have c3 := KL.out.cell s3 (by rw [L16.out]; exact l3)
          have LC := Lib.hid (fun W (h : ARow W w.heap.size 116 l) => h.cell i (by rw [L16.out]; exact li))
          have b0 := LB.out.get i
          have b1 := LB.out.get s1
          have b2 := LB.out.get s2
          have b3 := LB.out.get s3
          generalize l.getD i 0 = x0 at *
          generalize l.getD s1 0 = x1 at *
          generalize l.getD s2 0 = x2 at *
          generalize l.getD s3 0 = x3 at *
          have v0 := xor_lt b0 b1
          have MX := mix_dbl (c := x2) (d := x3) b0 b1
          rw [← FJ] at MX
          obtain ⟨y0, hy0⟩ : ∃ y0, y0 = x0 ^^^ x1 := ⟨_, rfl⟩
          have X0 : Hid (bits .xor .u8 (x0 : Int) (x1 : Int) = (y0 : Int)) := Lib.hid (by rw [Bits3.u8_xor b0 b1, hy0])
          rw [← hy0] at v0 MX
          have D := Lib.hid (double_no y0 v0)
          have vd := dbl_lt v0
          obtain ⟨y1, hy1⟩ : ∃ y1, y1 = dbl y0 := ⟨_, rfl⟩
          rw [← hy1] at D vd MX
          obtain ⟨y2, hy2⟩ : ∃ y2, y2 = y1 ^^^ x1 := ⟨_, rfl⟩
          have X1 : Hid (bits .xor .u8 (y1 : Int) (x1 : Int) = (y2 : Int)) := Lib.hid (by rw [Bits3.u8_xor vd b1, hy2])
          have v2 := xor_lt vd b1
          rw [← hy2] at v2 MX
          obtain ⟨y3, hy3⟩ : ∃ y3, y3 = y2 ^^^ x2 := ⟨_, rfl⟩
          have X2 : Hid (bits .xor .u8 (y2 : Int) (x2 : Int) = (y3 : Int)) := Lib.hid (by rw [Bits3.u8_xor v2 b2, hy3])
          have v3 := xor_lt v2 b2
          rw [← hy3] at v3 MX
          have X3 : Hid (bits .xor .u8 (y3 : Int) (x3 : Int) = ((f i : Nat) : Int)) := Lib.hid (by rw [Bits3.u8_xor v3 b3, MX])
          have a1 := a_at r 1 hlr (by decide)
          have a2 := a_at r 2 hlr (by decide)
          have a3 := a_at r 3 hlr (by decide)
          have d1 := d_at r 1
          have d2 := d_at r 2
          have d3 := d_at r 3
          have k1 := k_at c r 1 s1 hc hs1
          have k2 := k_at c r 2 s2 hc hs2
          have k3 := k_at c r 3 s3 hc hs3
          have ki := Lib.hid (i_at c r i hc hlr hi)
          rw [show ((1 : Nat) : Int) = 1 from rfl] at a1 d1 k1
          rw [show ((2 : Nat) : Int) = 2 from rfl] at a2 d2 k2
          rw [show ((3 : Nat) : Int) = 3 from rfl] at a3 d3 k3
          clear hi hs1 hs2 hs3 m1 m2 m3 ie ie2 FJ hy0 hy1 hy2 hy3 MX v0 vd v2 v3
          go_wp2_with fail
          go_quiet (fail)
          have GL := Lib.hid (KL.out.drewN nq)
          have GS := Lib.hid (KS.out.drewN nq)
          have GR := Lib.hid (KR.out.drewN nq)
          have GB := Lib.hid (below_drewN KB.out nq)
          generalize wr.drewN nq = wy at *
          clear c1 c2 c3 a1 a2 a3 d1 d2 d3 k1 k2 k3 KL KS KR KB
          have c0 := LC.out wy GL.out
          have ki := ki.out
          have X0 := X0.out
          have X1 := X1.out
          have X2 := X2.out
          have X3 := X3.out
          have cR := GR.out.cell i (by rw [fil_len]; exact li)
          have fR := GR.out.free i
          have LN : Hid (ARow (wy.setCell ⟨w.heap.size + 2, i, none⟩ (.int .u8 ((f i : Nat) : Int))) w.heap.size 116 l) := Lib.hid (GL.out.far (p := ⟨w.heap.size + 2, i, none⟩) (by simp) _)
          have SN : Hid (ARow (wy.setCell ⟨w.heap.size + 2, i, none⟩ (.int .u8 ((f i : Nat) : Int))) (w.heap.size + 1) 116 Z) := Lib.hid (GS.out.far (p := ⟨w.heap.size + 2, i, none⟩) (by simp) _)
          have RN : Hid (ARow (wy.setCell ⟨w.heap.size + 2, i, none⟩ (.int .u8 ((f i : Nat) : Int))) (w.heap.size + 2) 116 (fil f 16 (4 * q + (r + 1)))) := Lib.hid (by have := GR.out.put i (f i); rw [fil_set] at this; rw [IE2.out]; exact this)
          have BN := Lib.hid (GB.out.setCell (p := ⟨w.heap.size + 2, i, none⟩) (by simp) (.int .u8 ((f i : Nat) : Int)))
          generalize (fil f 16 i).getD i 0 = old at *
          generalize f i = fi at *
          clear GL GS GR GB LC IE IE2
          go_wp2_with fail
          refine (D.out _).mono ?_
          rintro e w' ⟨rfl, rfl⟩
          go_wp2_with fail
          go_roundw
          case rel => exact ⟨r + 1, by go_num, by omega, LN, SN, RN, BN⟩
          case measure => simp [intOf]; omega
        · obtain rfl : r = 4 := by omega
          have RN : Hid (ARow wr (w.heap.size + 2) 116 (fil f 16 (4 * (q + 1)))) := Lib.hid (by rw [show 4 * (q + 1) = 4 * q + 4 by omega]; exact KR.out)
          have HC2 : Hid (c + 4 = 4 * (q + 1)) := Lib.hid (by have := HC.out; omega)
          have MM : Hid (16 - (c + 4) < 16 - c) := Lib.hid (by omega)
          go_wp2_with fail
          go_roundw
          case rel => exact ⟨q + 1, c + 4, by go_num, by omega, HC2, KL, KS, RN, KB⟩
          case measure => have := MM.out; simp [intOf]; omega
    · obtain rfl : q = 4 := by omega
      obtain rfl : c = 16 := by have := HC.out; omega
      have RF : ARow wo (w.heap.size + 2) 116 ((List.range 16).map f) := by have := HR.out; rwa [show 4 * 4 = 16 from rfl, fil_full] at this
      have SF := HS.out
      have sz : (bcells ((List.range 16).map f)).size = 16 := by simp [bcells]
      have one := bcells_one ((List.range 16).map f)
      obtain ⟨cR, hcR⟩ : ∃ cR, cR = bcells ((List.range 16).map f) := ⟨_, rfl⟩
      have CE := Lib.hid hcR
      have BF := Lib.hid HB.out
      clear HR HL HS HB hlt hq FI L16 HC
      unfold ARow at RF SF
      rw [← hcR] at RF sz one
      clear hcR
      generalize bcells Z = cZ at *
      go_wp2_with (first
        | (refine wpList_load_row rfl _ _ rfl (w.heap.size + 2) rfl 116 cR (0, 0) _ RF (Tryd.underlying116) rfl (by rw [sz]; kernel_rfl) ?_)
        | (refine wpList_store_row rfl _ _ _ rfl (w.heap.size + 1) cR rfl rfl 116 _ SF (by rw [sz]; kernel_rfl) (by rw [sz, SZ]) one ?_))
      exact bodyPost_ret (results_cell_row rfl _ _ (w.heap.size + 1) 116 cR (0, 0) _ rfl (setRow_heap _ _ _ _ _ _ SF) Tryd.underlying116 rfl (by rw [sz]; kernel_rfl)) rfl ⟨by rw [CE.out], below_setRow BF.out (by omega)⟩

end Go.Proofs.YtdnkbefpbehllaaDoor.Aes5

