/- The reference: Parse. -/
import Derived.Test.YtggahoocgijdkaaDoorRefParts
import Derived.Test.YtggahoocgijdkaaDoorBack
import Derived.Test.YtggahoocgijdkaaDoorAwake
set_option linter.unusedVariables false
namespace Go.Proofs.YtggahoocgijdkaaDoor.RefParse
open Go.RowKit Go.PlainAid Go.Proofs.YtggahoocgijdkaaDoor.Sums Go.Proofs.YtggahoocgijdkaaDoor.Mem Go.Proofs.YtggahoocgijdkaaDoor.Std Go.Proofs.YtggahoocgijdkaaDoor.Grp Go.Proofs.YtggahoocgijdkaaDoor.Arr Go.Proofs.YtggahoocgijdkaaDoor.Hex Go.Proofs.YtggahoocgijdkaaDoor.Pub Go.Proofs.YtggahoocgijdkaaDoor.Row Go.Proofs.YtggahoocgijdkaaDoor.Digits Go.Proofs.YtggahoocgijdkaaDoor.Split Go.Proofs.YtggahoocgijdkaaDoor.List6 Go.Proofs.YtggahoocgijdkaaDoor.Mask Go.Proofs.YtggahoocgijdkaaDoor.Parse4 Go.Proofs.YtggahoocgijdkaaDoor.Parse Go.Proofs.YtggahoocgijdkaaDoor.RefNum Go.Proofs.YtggahoocgijdkaaDoor.RefParts Go.Proofs.YtggahoocgijdkaaDoor.Awake
open Go.Lib (index)

theorem tenV_le {p : List UInt8} {x : Nat} (h : tenV p = some x) : x ≤ 255 := by
  unfold tenV at h
  split at h
  · cases h
  · by_cases hp : p = []
    · subst hp; cases h
    · rw [decV_num p hp] at h
      unfold upto at h
      split at h
      · split at h
        · cases h
        · injection h with h; omega
      · cases h

set_option maxRecDepth 100000 in
set_option maxHeartbeats 4000000 in
theorem ref_four (s : ByteArray) (hs : s.size ≤ 300) (w : World) (h4 : (parts 46 s.data.toList).length = 4) :
    Calls Tryd.prog 10 #[.string s] w fun e w' => e = got (tenP [] (parts 46 s.data.toList)) ∧ Below w.heap.size w w' := by
  have SP : Calls Tryd.prog 23 #[.string s, .int .u8 46] w fun e w' => RowEnd w.heap.size (parts 46 s.data.toList) e w' ∧ Below w.heap.size w w' := parts_any s hs 46 w
  have SP := Lib.hid SP
  have H4 := Lib.hid h4
  clear h4
  go_enter Tryd.func10, Tryd.ntmps10
  go_wp2_with fail
  refine SP.out.mono ?_
  rintro e W ⟨⟨ps, v, hps, rfl, hr⟩, hN⟩
  have HP : Hid (∀ p ∈ ps, p.size ≤ 300) := Lib.hid (fun p hp => by
    have := parts_len s.data.toList (c := 46) p.data.toList (by rw [← hps]; exact List.mem_map_of_mem hp)
    rw [Array.length_toList, Array.length_toList] at this
    exact Nat.le_trans this hs)
  have HPS := Lib.hid hps
  have hpl : ps.length = 4 := by rw [← H4.out, ← hps, List.length_map]
  clear hps SP H4
  obtain ⟨A, cp, rfl⟩ : ∃ A cp, v = .slice A 4 cp := by
    rw [hpl] at hr
    rcases hr.2 with ⟨h1, h2⟩ | ⟨g, cap, cur, h1, _⟩
    · omega
    · exact ⟨_, _, h1⟩
  rw [hpl] at hr
  obtain ⟨b, rfl, hbW, hcell⟩ := text_cells hr (by omega)
  have HC := Lib.hid hcell
  have HL := Lib.hid hpl
  have hz := hN.size
  have hO : Owns W W.heap.size (.slice none 0 0) 0 (ints []) := Owns.nil _ _
  clear hcell hr hpl
  go_wp2_with fail
  go_loopw [5, 6] (fun v i wr => ∃ (k : Nat) (acc : List Nat), i = .int .i64 k ∧ k ≤ 4 ∧ Hid (acc.length = k) ∧ Owns wr W.heap.size v k (ints acc) ∧ Below W.heap.size W wr ∧
      Hid ((∀ z ∈ acc, z ≤ 255) ∧ tenP [] (parts 46 s.data.toList) = tenP acc ((ps.map (·.data.toList)).drop k))) (fun _ i _ => 4 - (intOf i).toNat)
  case atStart => exact ⟨0, [], rfl, Nat.zero_le _, rfl, hO, Below.refl _ _, ⟨fun _ h => (by cases h), by rw [HPS.out]; rfl⟩⟩
  case round =>
    obtain ⟨k, acc, rfl, hk, HA, ho, hb, hx⟩ := hrel
    clear hO
    have hsz := hb.size
    by_cases hlt : k < 4
    · obtain ⟨p, hp⟩ : ∃ p, ps[k]? = some p := ⟨_, List.getElem?_eq_getElem (by rw [HL.out]; exact hlt)⟩
      have hps := HP.out p (List.mem_of_getElem? hp)
      have hcl : wr.cell? ⟨b, k, none⟩ = some (.string p) := by
        have := HC.out k p hp
        rw [Nat.zero_add] at this
        exact (hb.cell (p := ⟨b, k, none⟩) hbW).trans this
      have hd : (ps.map (·.data.toList)).drop k = p.data.toList :: (ps.map (·.data.toList)).drop (k + 1) := by
        rw [List.drop_eq_getElem_cons (by rw [List.length_map, HL.out]; exact hlt)]
        obtain ⟨_, hpe⟩ := List.getElem?_eq_some_iff.1 hp
        rw [List.getElem_map, hpe]
      have HX := hx.out
      rw [hd] at HX
      have HX := Lib.hid HX
      have PC := ten_any p hps wr
      clear hd hp hx
      cases hv : tenV p.data.toList with
      | none =>
        rw [hv] at PC
        have PC := Lib.hid PC
        have F := Lib.hid (HX.out.2.trans (tenP_no hv))
        clear hv
        go_wp2_with fail
        refine PC.out.mono ?_
        rintro e w1 ⟨he, rfl⟩
        obtain rfl : e = .returned (.int .i64 (-1)) := he
        go_wp2_with fail
        go_ret2
        exact ⟨by rw [F.out]; rfl, hN.trans (hb.mono hz)⟩
      | some x =>
        rw [hv] at PC
        have PC := Lib.hid PC
        have F := Lib.hid (HX.out.2.trans (tenP_on hv))
        have hx1 : x ≤ 255 := tenV_le hv
        have hxb : Bytes (ints [x]) := ints_bytes _ (by intro z hz; simp at hz; omega)
        clear hv
        go_wp2_with fail
        refine PC.out.mono ?_
        rintro e w1 ⟨he, rfl⟩
        obtain rfl : e = .returned (.int .i64 (x : Int)) := he
        go_wp2_with (first
          | (at_builtin
             refine wpList_append_bytes rfl (.tmp 32) (.tmp 35) rfl W.heap.size _ _ _ rfl (ho.alloc _) _ _ 1 1 (ints [x]) rfl (Holds.lit wr (ints [x]) _ rfl (by simp [ints, maxLen]) hxb) (by omega) (by simp; omega) ?_
             intro v2 w2 ho2 hg2 hat2))
        have hN2 : Below W.heap.size W w2 := (hb.alloc (by omega) _).grown hg2 (by simp; omega) fun g hg => (ho.lt g hg).1
        have hi : ints acc ++ ints [x] = ints (acc ++ [x]) := by simp [ints]
        rw [hi] at ho2
        clear hg2 hat2 hi ho
        go_roundw
        case rel =>
          exact ⟨k + 1, acc ++ [x], by go_num, hlt, Lib.hid (by rw [List.length_append, HA.out]; rfl), ho2, hN2, Lib.hid ⟨fun z hz => by
            rcases List.mem_append.1 hz with h | h
            · exact HX.out.1 z h
            · simp at h; subst h; exact hx1, F.out⟩⟩
        case measure => simp [intOf]; omega
    · have e : k = 4 := by omega
      subst e
      have F := Lib.hid (show tenP [] (parts 46 s.data.toList) = some acc by
        rw [hx.out.2, List.drop_of_length_le (by rw [List.length_map, HL.out]; exact Nat.le_refl _)]
        rfl)
      obtain ⟨A, c, rfl, hh⟩ := ho.slice
      have hcv := run_string_bytes hh
      rw [txt_of] at hcv
      clear hx ho
      go_wp2_with fail
      go_ret2
      exact ⟨by rw [F.out]; rfl, hN.trans (hb.mono hz)⟩

theorem index_room : ∀ (l : List UInt8), 0 ≤ index l [58, 58] → index l [58, 58] + 2 ≤ l.length
  | [], h => by simp [index] at h
  | x :: r, h => by
    rw [Back.index_two] at h ⊢
    split
    · rename_i hc
      cases r with
      | nil => simp at hc
      | cons y r => simp only [List.length_cons]; omega
    · rename_i hc
      rw [if_neg hc] at h
      split at h
      · omega
      · rename_i hne
        rw [if_neg hne]
        have h1 := Lib.index_ge r [58, 58]
        have := index_room r (by simp at hne; omega)
        simp only [List.length_cons]
        omega

def sixB (o : Option (List Nat)) : Option (List Nat) := match o with
  | some g => if g.length = 8 then some (ungrp g) else none
  | none => none
def gapB (h t : Option (List Nat)) : Option (List Nat) := match h, t with
  | some x, some y => if x.length + y.length ≤ 7 then some (ungrp x ++ List.replicate (16 - 2 * x.length - 2 * y.length) 0 ++ ungrp y) else none
  | _, _ => none

set_option maxRecDepth 100000 in
set_option maxHeartbeats 4000000 in
theorem ref_no (s : ByteArray) (hs : s.size ≤ 300) (w : World) (h4 : (parts 46 s.data.toList).length ≠ 4) (hg : index s.data.toList [58, 58] < 0) :
    Calls Tryd.prog 10 #[.string s] w fun e w' => e = got (sixB (listV s.data.toList)) ∧ Below w.heap.size w w' := by
  have SP : Calls Tryd.prog 23 #[.string s, .int .u8 46] w fun e w' => RowEnd w.heap.size (parts 46 s.data.toList) e w' ∧ Below w.heap.size w w' := parts_any s hs 46 w
  have SP := Lib.hid SP
  have H4 := Lib.hid h4
  have GP := Lib.hid (fun W => gap_any s hs W)
  have GR := Lib.hid (fun W => groups_any s hs W)
  generalize index s.data.toList [58, 58] = gx at hg GP
  have hpc := parts_count (c := 46) s.data.toList
  have hsl : s.data.toList.length = s.size := by rw [Array.length_toList]; rfl
  clear h4
  go_enter Tryd.func10, Tryd.ntmps10
  go_wp2_with fail
  refine SP.out.mono ?_
  rintro e W ⟨⟨ps, v, hps, rfl, hr⟩, hN⟩
  have hne : ((ps.length : Int) == 4) = false := by
    rw [beq_eq_false_iff_ne]
    intro e
    exact H4.out (by rw [← hps, List.length_map]; omega)
  obtain ⟨A, cp, rfl⟩ : ∃ A cp, v = .slice A ps.length cp := by
    rcases hr.2 with ⟨h1, h2⟩ | ⟨g, cap, cur, h1, _⟩
    · exact ⟨none, 0, by rw [h1, h2]⟩
    · exact ⟨_, _, h1⟩
  have hz := hN.size
  clear hr hps SP H4 hpc hsl
  generalize ps.length = n at hne ⊢
  go_wp2_with fail
  refine (GP.out _).mono ?_; rintro e w' ⟨rfl, rfl⟩
  go_wp2_with fail
  refine (GR.out _).mono ?_
  rintro e w2 ⟨he, hb⟩
  have hN2 := hN.trans (hb.mono hz)
  rcases he with ⟨g, v, hv, hz1, rfl, ho⟩ | ⟨hv, rfl⟩
  · obtain ⟨A2, c2, rfl, hh⟩ := ho.slice
    have hcv := run_string_bytes hh
    rw [txt_of] at hcv
    by_cases h8 : g.length = 8
    · have F := Lib.hid (show sixB (listV s.data.toList) = some (ungrp g) by rw [hv]; exact if_pos h8)
      have e16 : (2 * (g.length : Int) == 16) = true := by rw [beq_iff_eq]; omega
      have e17 : 2 * g.length = 16 := by omega
      rw [e17] at hcv ⊢
      clear hv ho h8 hh e16 e17
      go_wp2_with fail
      go_ret2
      exact ⟨by rw [F.out]; rfl, hN2⟩
    · have F := Lib.hid (show sixB (listV s.data.toList) = none by rw [hv]; exact if_neg h8)
      have e16 : (((2 * g.length : Nat) : Int) != 16) = true := by simp; omega
      have hm : 2 * g.length ≤ maxLen := by have := hh.2.1; have := hh.2.2.1; omega
      clear hv ho hh hcv
      generalize 2 * g.length = m at e16 hm ⊢
      go_wp2_with fail
      go_ret2
      exact ⟨by rw [F.out]; rfl, hN2⟩
  · have F := Lib.hid (show sixB (listV s.data.toList) = none by rw [hv]; rfl)
    clear hv
    go_wp2_with fail
    go_ret2
    exact ⟨by rw [F.out]; rfl, hN2⟩

end Go.Proofs.YtggahoocgijdkaaDoor.RefParse
