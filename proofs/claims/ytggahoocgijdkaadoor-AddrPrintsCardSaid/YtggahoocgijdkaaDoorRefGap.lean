/- The reference: Parse, where groups are left out. -/
import Derived.Test.YtggahoocgijdkaaDoorRefParse
import Derived.WalkLawsBesides
set_option linter.unusedVariables false
namespace Go.Proofs.YtggahoocgijdkaaDoor.RefGap
open Go.RowKit Go.PlainAid Go.Proofs.YtggahoocgijdkaaDoor.Sums Go.Proofs.YtggahoocgijdkaaDoor.Mem Go.Proofs.YtggahoocgijdkaaDoor.Std Go.Proofs.YtggahoocgijdkaaDoor.Grp Go.Proofs.YtggahoocgijdkaaDoor.Arr Go.Proofs.YtggahoocgijdkaaDoor.Hex Go.Proofs.YtggahoocgijdkaaDoor.Pub Go.Proofs.YtggahoocgijdkaaDoor.Row Go.Proofs.YtggahoocgijdkaaDoor.Digits Go.Proofs.YtggahoocgijdkaaDoor.Split Go.Proofs.YtggahoocgijdkaaDoor.List6 Go.Proofs.YtggahoocgijdkaaDoor.Mask Go.Proofs.YtggahoocgijdkaaDoor.Parse4 Go.Proofs.YtggahoocgijdkaaDoor.Parse Go.Proofs.YtggahoocgijdkaaDoor.RefNum Go.Proofs.YtggahoocgijdkaaDoor.RefParts Go.Proofs.YtggahoocgijdkaaDoor.Awake Go.Proofs.YtggahoocgijdkaaDoor.RefParse
open Go.Lib (index)

def bys (l : List Nat) : List Value := (ints l).map (Value.int .u8)
theorem bys_len (l : List Nat) : (bys l).length = l.length := by simp [bys, ints]
theorem bys_one (l : List Nat) : ∀ v ∈ bys l, v.oneCell' = true := by
  intro v hv
  simp only [bys, ints, List.map_map, List.mem_map] at hv
  obtain ⟨z, _, rfl⟩ := hv
  rfl
theorem bys_splice (a : List Nat) (o : Nat) (b : List Nat) : splice (bys a) o (bys b) = bys (splice a o b) := by
  simp [splice, bys, ints, List.map_take, List.map_drop]
theorem splice_both (h t : List Nat) (k : h.length + t.length ≤ 16) :
    splice (splice (List.replicate 16 0) 0 h) (16 - t.length) t = h ++ List.replicate (16 - h.length - t.length) 0 ++ t := by
  unfold splice
  simp only [List.take_zero, List.nil_append, Nat.zero_add, List.drop_replicate]
  rw [show 16 - t.length + t.length = 16 by omega, List.drop_of_length_le (by simp; omega), List.append_nil, List.take_append, List.take_of_length_le (by omega), List.take_replicate, show min (16 - t.length - h.length) (16 - h.length) = 16 - h.length - t.length by omega]
theorem byte_size : (Tryd.prog.info? 5).map (·.size) = some 1 := by kernel_rfl
/-- Sixteen zeros. -/
def z16 : List Value := bys (List.replicate 16 0)
theorem made_cells (z : Value) (n : Nat) : madeCells #[z] n = (List.replicate n z).toArray := by
  apply Array.ext
  · simp [madeCells]
  · intro i h1 h2
    simp [madeCells, Nat.mod_one]
theorem bys_zeros (n : Nat) : bys (List.replicate n 0) = List.replicate n (.int .u8 0) := by
  simp [bys, ints, List.map_replicate]
theorem made16 : madeCells (Value.int .u8 0).cells (16 * 1) = z16.toArray := by
  unfold z16
  rw [bys_zeros, ← made_cells]
  rfl
theorem z16_len : z16.length = 16 := by unfold z16; rw [bys_len]; simp
theorem make16 (w : World) :
    (Instr.makeSlice 41 (.int .i64 16) (.int .i64 16)).run Tryd.prog w = .ok (.slice (some ⟨w.heap.size, 0, none⟩) 16 16) (w.alloc (.cells z16.toArray 5)) := by
  obtain ⟨i, hi, hz, hsz, hby⟩ := info_parts byte_info
  have hr := run_make (P := Tryd.prog) w 41 5 i (.int .u8 0) Tryd.underlying41 hi hz .i64 .i64 16 16 (by omega) (by omega) (by rw [hby]; omega) (by omega)
  rw [hsz] at hr
  rw [show (16 : Int).toNat = 16 from rfl, made16] at hr
  exact hr
theorem byte_elem (w : World) : (sizeOf (Tryd.prog.elem 41)).run Tryd.prog w = .ok 1 w := by kernel_rfl
theorem from16 (g m : Nat) (hm : m ≤ 16) (w : World) :
    (Instr.slice 41 (.slice (some ⟨g, 0, none⟩) 16 16) (some (.int .i64 (16 - (m : Int)))) none none).run Tryd.prog w = .ok (.slice (some ⟨g, if m = 0 then 0 else 16 - m, none⟩) m m) w := by
  rw [run_slice_l (P := Tryd.prog) (t := 41) (ht := (by kernel_rfl)) (kl := .i64) (l := 16 - (m : Int)) (h0 := by omega) (h1 := by omega), byte_elem]
  have e : (16 - (m : Int)).toNat = 16 - m := by omega
  rw [e]
  by_cases h0 : m = 0
  · subst h0
    simp [sliced, Result.andThen]
  · simp [sliced, Result.andThen, h0, Mem.add_plain, show 16 - (16 - m) = m by omega]
    omega
theorem src_of {w3 : World} {B n c : Nat} {A : Option Addr} {l : List Nat} (h : Owns w3 B (.slice A n c) n (ints l)) :
    0 < (bys l).length → ∃ ad, A = some ad ∧ ∀ w', Below w3.heap.size w3 w' → ∀ j v, (bys l)[j]? = some v → w'.cell? (ad.add j) = some v := fun hp => by
  have hl : (ints l).length = n := h.1
  rw [bys_len] at hp
  rw [ints_len] at hl
  obtain ⟨g, rfl, _, hlt⟩ := h.form (by omega)
  refine ⟨⟨g, 0, none⟩, rfl, fun w' hb j v hj => ?_⟩
  unfold bys at hj
  rw [List.getElem?_map] at hj
  cases hz : (ints l)[j]? with
  | none => rw [hz] at hj; cases hj
  | some z =>
    rw [hz] at hj
    simp only [Option.map_some, Option.some.injEq] at hj
    subst hj
    rw [Mem.add_plain, Nat.zero_add]
    exact (hb.cell (p := ⟨g, j, none⟩) hlt).trans (h.cell hz)
theorem holds_blk {w : World} {g : Nat} {t : TypeId} {l : List Nat} (h : w.heap[g]? = some (.cells (bys l).toArray t (0, 0))) (hz : ∀ z ∈ l, z ≤ 255) (hl : l.length = 16) : Holds w w.heap.size (some ⟨g, 0, none⟩) 16 16 (ints l) := by
  have hB : Blk w g t (bys l).toArray := h
  refine ⟨by rw [ints_len]; exact hl, Nat.le_refl _, by simp only [maxLen]; omega, ints_bytes _ hz, fun _ => ⟨g, 0, rfl, hB.lt, fun j z hj => ?_⟩⟩
  rw [Nat.zero_add, hB.cell, List.getElem?_toArray]
  unfold bys
  rw [List.getElem?_map, hj]
  rfl

set_option maxRecDepth 100000 in
set_option maxHeartbeats 4000000 in
theorem ref_gap (s : ByteArray) (hs : s.size ≤ 300) (w : World) (h4 : (parts 46 s.data.toList).length ≠ 4) (i : Nat) (hi : i + 2 ≤ s.size) (hg : index s.data.toList [58, 58] = i) :
    Calls Tryd.prog 10 #[.string s] w fun e w' => e = got (gapB (listV (s.data.toList.take i)) (listV (s.data.toList.drop (i + 2)))) ∧ Below w.heap.size w w' := by
  have SP : Calls Tryd.prog 23 #[.string s, .int .u8 46] w fun e w' => RowEnd w.heap.size (parts 46 s.data.toList) e w' ∧ Below w.heap.size w w' := parts_any s hs 46 w
  have SP := Lib.hid SP
  have H4 := Lib.hid h4
  have GP := fun W => gap_any s hs W
  rw [hg] at GP
  have GP := Lib.hid GP
  have e1 : (s.extract 0 i).data.toList = s.data.toList.take i := by rw [sub_data s 0 i (by omega)]; simp
  have e2 : (s.extract (i + 2) s.size).data.toList = s.data.toList.drop (i + 2) := by
    rw [sub_data s (i + 2) s.size (Nat.le_refl _)]
    exact List.take_of_length_le (by rw [List.length_drop, Array.length_toList]; exact Nat.le_refl _)
  have G1 := fun W => groups_any (s.extract 0 i) (by rw [ByteArray.size_extract]; omega) W
  rw [e1] at G1
  have G1 := Lib.hid G1
  have G2 := fun W => groups_any (s.extract (i + 2) s.size) (by rw [ByteArray.size_extract]; omega) W
  rw [e2] at G2
  have G2 := Lib.hid G2
  have hsl : s.data.toList.length = s.size := by rw [Array.length_toList]; rfl
  have L1 : Hid (∀ x, listV (s.data.toList.take i) = some x → x.length ≤ 301) := Lib.hid fun x h => by
    have := listV_len h
    rw [List.length_take] at this
    omega
  have L2 : Hid (∀ x, listV (s.data.toList.drop (i + 2)) = some x → x.length ≤ 301) := Lib.hid fun x h => by
    have := listV_len h
    rw [List.length_drop] at this
    omega
  clear hsl
  generalize listV (s.data.toList.take i) = o1 at G1 L1 ⊢
  generalize listV (s.data.toList.drop (i + 2)) = o2 at G2 L2 ⊢
  have hmk := make16
  clear h4 hg e1 e2
  go_enter Tryd.func10, Tryd.ntmps10
  go_wp2_with fail
  refine SP.out.mono ?_
  rintro e W ⟨⟨ps, v, hps, rfl, hr⟩, hN⟩
  have hne : ((ps.length : Int) == 4) = false := by
    rw [beq_eq_false_iff_ne]
    intro e
    exact H4.out (by rw [← hps, List.length_map]; omega)
  obtain ⟨A, cp, rfl⟩ : ∃ A cp, v = .slice A ps.length cp := by
    rcases hr.2 with ⟨h1, h2⟩ | ⟨g, cap, cur, h1, _⟩
    · exact ⟨none, 0, by rw [h1, h2]⟩
    · exact ⟨_, _, h1⟩
  have hz := hN.size
  clear hr hps SP H4
  generalize ps.length = n at hne ⊢
  go_wp2_with fail
  refine (GP.out _).mono ?_; rintro e w' ⟨rfl, rfl⟩
  go_wp2_with fail
  refine (G1.out _).mono ?_
  rintro e w2 ⟨he1, hb2⟩
  have hN2 := hN.trans (hb2.mono hz)
  have hz2 := hb2.size
  rcases he1 with ⟨x, v1, hx, hx1, rfl, ho1⟩ | ⟨hx, rfl⟩
  · go_wp2_with fail
    refine (G2.out _).mono ?_
    rintro e w3 ⟨he2, hb3⟩
    have hN3 := hN2.trans (hb3.mono (by omega))
    have hz3 := hb3.size
    rcases he2 with ⟨y, v2, hy, hy1, rfl, ho2⟩ | ⟨hy, rfl⟩
    · have ho1' := ho1.below hb3 (Nat.le_refl _)
      obtain ⟨A1, c1, rfl, hh1⟩ := ho1'.slice
      obtain ⟨A2, c2, rfl, hh2⟩ := ho2.slice
      clear ho1
      by_cases h7 : x.length + y.length ≤ 7
      · have F := Lib.hid (show gapB o1 o2 = some _ by rw [hx, hy]; exact if_pos h7)
        have s1 := Lib.hid (src_of ho1')
        have s2 := Lib.hid (src_of ho2)
        have ux : (ungrp x).length = 2 * x.length := ungrp_len x
        have uy : (ungrp y).length = 2 * y.length := ungrp_len y
        have kx : (bys (ungrp x)).length = 2 * x.length := (bys_len _).trans ux
        have ky : (bys (ungrp y)).length = 2 * y.length := (bys_len _).trans uy
        have HSP : Hid (splice (splice (List.replicate 16 0) 0 (ungrp x)) (16 - 2 * y.length) (ungrp y) = ungrp x ++ List.replicate (16 - 2 * x.length - 2 * y.length) 0 ++ ungrp y) := Lib.hid (by
          have := splice_both (ungrp x) (ungrp y) (by omega)
          rwa [ux, uy] at this)
        have HX := Lib.hid (ungrp_le x hx1)
        have HY := Lib.hid (ungrp_le y hy1)
        have HG : Hid ((splice (splice (List.replicate 16 0) 0 (ungrp x)) (16 - 2 * y.length) (ungrp y)).length = 16) := Lib.hid (by rw [HSP.out]; simp only [List.length_append, List.length_replicate]; omega)
        have HGZ : Hid (∀ z ∈ splice (splice (List.replicate 16 0) 0 (ungrp x)) (16 - 2 * y.length) (ungrp y), z ≤ 255) := Lib.hid (fun z hz => by
          rw [HSP.out] at hz
          simp only [List.mem_append, List.mem_replicate] at hz
          rcases hz with (h | h) | h
          · exact HX.out z h
          · omega
          · exact HY.out z h)
        have KX := Lib.hid kx
        have KY := Lib.hid ky
        have hg0 : Hid ((w3.alloc (.cells (z16).toArray 5)).heap[w3.heap.size]? = some (.cells (z16).toArray 5 (0, 0))) := Lib.hid (heap_alloc_new _ _)
        have hb0 : Hid (Below w3.heap.size w3 (w3.alloc (.cells (z16).toArray 5))) := Lib.hid ((Below.refl _ _).alloc (Nat.le_refl _) _)
        have hm : x.length ≤ 7 := by omega
        have hm2 : y.length ≤ 7 := by omega
        have hfrom : ∀ W, (Instr.slice 41 (.slice (some ⟨w3.heap.size, 0, none⟩) 16 16) (some (.int .i64 (16 - 2 * (y.length : Int)))) none none).run Tryd.prog W = .ok (.slice (some ⟨w3.heap.size, if 2 * y.length = 0 then 0 else 16 - 2 * y.length, none⟩) (2 * y.length) (2 * y.length)) W := fun W => by
          have := from16 w3.heap.size (2 * y.length) (by omega) W
          rwa [show ((2 * y.length : Nat) : Int) = 2 * (y.length : Int) by omega] at this
        generalize hadr : (if 2 * y.length = 0 then 0 else 16 - 2 * y.length) = off at hfrom
        have HOFF : Hid (0 < 2 * y.length → off = 16 - 2 * y.length) := Lib.hid (fun h => by rw [← hadr, if_neg (by omega)])
        clear hadr
        clear hx hy ho1' ho2 hh1 hh2 ux uy kx ky hx1 hy1
        go_wp2_with (first
          | (refine wpList_copy_splice rfl (.tmp 87) (.tmp 88) 41 41 rfl 5 Tryd.underlying41 byte_size _ _ 16 16 (2 * x.length) c1 rfl rfl w3.heap.size 0 (z16) 5 hg0.out (bys (ungrp x)) (by rw [KX.out]; exact (Nat.min_eq_left (by omega)).symm) (fun hp => ⟨rfl, let ⟨ad, e, k⟩ := s1.out hp; ⟨ad, e, k _ hb0.out⟩⟩) (by rw [KX.out, z16_len]; omega) (bys_one _) w3.heap.size w3 hb0.out (Nat.le_refl _) ?_
             intro w4 hg4 hb4)
          | (refine wpList_copy_splice rfl (.tmp 94) (.tmp 95) 41 41 rfl 5 Tryd.underlying41 byte_size _ _ (2 * y.length) (2 * y.length) (2 * y.length) c2 rfl rfl w3.heap.size (16 - 2 * y.length) (splice z16 0 (bys (ungrp x))) 5 hg4.out (bys (ungrp y)) (by rw [KY.out]; exact (Nat.min_self _).symm) (fun hp => ⟨by rw [HOFF.out (by rw [← KY.out]; exact hp)], let ⟨ad, e, k⟩ := s2.out hp; ⟨ad, e, k _ hb4⟩⟩) (by rw [KY.out, length_splice _ _ _ (by rw [KX.out, z16_len]; omega), z16_len]; omega) (bys_one _) w3.heap.size w3 hb4 (Nat.le_refl _) ?_
             intro w5 hg5 hb5
             have hh5 : Holds w5 w5.heap.size (some ⟨w3.heap.size, 0, none⟩) 16 16 (ints (splice (splice (List.replicate 16 0) 0 (ungrp x)) (16 - 2 * y.length) (ungrp y))) := by
               have := hg5.out
               unfold z16 at this
               rw [bys_splice, bys_splice] at this
               exact holds_blk this HGZ.out HG.out
             have hcv := run_string_bytes hh5
             rw [txt_of] at hcv
             clear hh5))
        go_ret2
        exact ⟨by rw [F.out, ← HSP.out]; rfl, hN3.trans (hb5.mono (by omega))⟩
      · have F := Lib.hid (show gapB o1 o2 = none by rw [hx, hy]; exact if_neg h7)
        have hm : x.length ≤ 301 := L1.out x hx
        have hm2 : y.length ≤ 301 := L2.out y hy
        clear hx hy ho1' ho2 hh1 hh2
        go_wp2_with fail
        go_ret2
        exact ⟨by rw [F.out]; rfl, hN3⟩
    · have F := Lib.hid (show gapB o1 o2 = none by rw [hx, hy]; rfl)
      have ho1' := ho1.below hb3 (Nat.le_refl _)
      obtain ⟨A1, c1, rfl, hh1⟩ := ho1'.slice
      clear hx hy ho1
      go_wp2_with fail
      go_ret2
      exact ⟨by rw [F.out]; rfl, hN3⟩
  · have F := Lib.hid (show gapB o1 o2 = none by rw [hx]; unfold gapB; split <;> first | rfl | simp_all)
    clear hx
    go_wp2_with fail
    refine (G2.out _).mono ?_
    rintro e w3 ⟨he2, hb3⟩
    have hN3 := hN2.trans (hb3.mono (by omega))
    rcases he2 with ⟨y, v2, hy, hy1, rfl, ho2⟩ | ⟨hy, rfl⟩
    · obtain ⟨A2, c2, rfl, hh2⟩ := ho2.slice
      clear hy
      go_wp2_with fail
      go_ret2
      exact ⟨by rw [F.out]; rfl, hN3⟩
    · clear hy
      go_wp2_with fail
      go_ret2
      exact ⟨by rw [F.out]; rfl, hN3⟩

end Go.Proofs.YtggahoocgijdkaaDoor.RefGap
