/- An address of four bytes, read off a text. -/
import Derived.Test.YtggahoocgijdkaaDoorList
import Derived.Test.YtggahoocgijdkaaDoorMask
set_option linter.unusedVariables false
namespace Go.Proofs.YtggahoocgijdkaaDoor.Parse4
open Go.RowKit Go.PlainAid Go.Proofs.YtggahoocgijdkaaDoor.Sums Go.Proofs.YtggahoocgijdkaaDoor.Mem Go.Proofs.YtggahoocgijdkaaDoor.Std Go.Proofs.YtggahoocgijdkaaDoor.Hex Go.Proofs.YtggahoocgijdkaaDoor.Pub Go.Proofs.YtggahoocgijdkaaDoor.Row Go.Proofs.YtggahoocgijdkaaDoor.Split Go.Proofs.YtggahoocgijdkaaDoor.List6 Go.Proofs.YtggahoocgijdkaaDoor.Mask

/-- A byte's number. -/
def tenV (p : List UInt8) : Option Nat := if 1 < p.length ∧ p.head? = some 48 then none else decV p
def tenP (acc : List Nat) : List (List UInt8) → Option (List Nat)
  | [] => some acc
  | p :: r => match tenV p with
    | none => none
    | some x => tenP (acc ++ [x]) r

theorem tenP_no {acc : List Nat} {p : List UInt8} {r : List (List UInt8)} (h : tenV p = none) : tenP acc (p :: r) = none := by simp [tenP, h]
theorem tenP_on {acc : List Nat} {p : List UInt8} {r : List (List UInt8)} {x : Nat} (h : tenV p = some x) : tenP acc (p :: r) = tenP (acc ++ [x]) r := by simp [tenP, h]
theorem tenV_none {p : List UInt8} (h : decV p = none) : tenV p = none := by
  unfold tenV
  split
  · rfl
  · exact h

/-- How parse4 ends. -/
def Four (o : Option (List Nat)) (e : Ending) : Prop :=
  (∃ g, o = some g ∧ (∀ z ∈ g, z ≤ 255) ∧ e = .returned (.tuple #[.string (txt g), .bool (decide (g.length = 4))])) ∨
  (o = none ∧ e = .returned (.tuple #[.string ⟨#[]⟩, .bool false]))

theorem first_byte (p : ByteArray) (h : 0 < p.size) : p.data.toList.head? = some (48 : UInt8) ↔ bt p 0 = 48 := by
  unfold bt
  rw [dif_pos h]
  have e : p.data.toList.head? = some p[0] := by
    rw [List.head?_eq_getElem?, List.getElem?_eq_getElem (by rw [Array.length_toList]; exact h)]
    rfl
  rw [e]
  constructor
  · intro k
    injection k with k
    rw [k]
    rfl
  · intro k
    congr 1
    apply UInt8.toNat_inj.1
    have : (48 : UInt8).toNat = 48 := rfl
    omega

set_option maxRecDepth 100000 in
set_option maxHeartbeats 4000000 in
theorem parse4_any (s : ByteArray) (hs : s.size ≤ 300) (w : World) (h : Std w) :
    Calls Tryd.prog 20 #[.string s] w fun e w' => Four (tenP [] (parts 46 s.data.toList)) e ∧ Below w.heap.size w w' := by
  have SP := Lib.hid (split_any s 46 w h hs)
  go_enter Tryd.func20, Tryd.ntmps20
  go_wp2_with fail
  refine SP.out.mono ?_
  rintro e w' ⟨ps, hps, rfl, rfl⟩
  have HP : Hid (∀ p ∈ ps, p.size ≤ 300) := Lib.hid (fun p hp => by
    have := parts_len s.data.toList (c := 46) p.data.toList (by rw [← hps]; exact List.mem_map_of_mem hp)
    rw [Array.length_toList, Array.length_toList] at this
    exact Nat.le_trans this hs)
  have HPS := Lib.hid hps
  have hpl : ps.length ≤ 301 := by
    have h1 := parts_count (c := 46) s.data.toList
    have h2 : s.data.toList.length = s.size := by rw [Array.length_toList]; rfl
    rw [← hps, List.length_map] at h1
    omega
  clear hps SP
  have hB : Blk (w.alloc (.cells (ps.map Value.string).toArray 9)) w.heap.size 9 (ps.map Value.string).toArray := Blk.new _ _ _
  have hN : Below w.heap.size w (w.alloc (.cells (ps.map Value.string).toArray 9)) := (Below.refl _ _).alloc (Nat.le_refl _) _
  have hO : Owns (w.alloc (.cells (ps.map Value.string).toArray 9)) (w.heap.size + 1) (.slice none 0 0) 0 (ints []) := Owns.nil _ _
  have hz : w.heap.size + 1 ≤ (w.alloc (.cells (ps.map Value.string).toArray 9)).heap.size := by simp
  generalize w.alloc (.cells (ps.map Value.string).toArray 9) = W at hB hN hO hz ⊢
  go_wp2_with fail
  go_loopw [4, 12] (fun v i wr => ∃ (k : Nat) (acc : List Nat), i = .int .i64 k ∧ k ≤ ps.length ∧ Hid (acc.length = k) ∧ Blk wr w.heap.size 9 (ps.map Value.string).toArray ∧ Owns wr (w.heap.size + 1) v k (ints acc) ∧ w.heap.size + 1 ≤ wr.heap.size ∧ Below w.heap.size w wr ∧
      Hid ((∀ z ∈ acc, z ≤ 255) ∧ tenP [] (parts 46 s.data.toList) = tenP acc ((ps.map (·.data.toList)).drop k))) (fun _ i _ => ps.length - (intOf i).toNat)
  case atStart => exact ⟨0, [], rfl, Nat.zero_le _, rfl, hB, hO, hz, hN, ⟨fun _ h => (by cases h), by rw [HPS.out]; rfl⟩⟩
  case round =>
    obtain ⟨k, acc, rfl, hk, HA, hb, ho, hz', hn, hx⟩ := hrel
    clear hB hN hO hz
    by_cases hlt : k < ps.length
    · obtain ⟨p, hp⟩ : ∃ p, ps[k]? = some p := ⟨_, List.getElem?_eq_getElem hlt⟩
      have hsz := HP.out p (List.mem_of_getElem? hp)
      have hcl : wr.cell? ⟨w.heap.size, k, none⟩ = some (.string p) := by
        rw [hb.cell]
        simp [hp]
      have hd : (ps.map (·.data.toList)).drop k = p.data.toList :: (ps.map (·.data.toList)).drop (k + 1) := by
        rw [List.drop_eq_getElem_cons (by simpa using hlt)]
        obtain ⟨_, hpe⟩ := List.getElem?_eq_some_iff.1 hp
        rw [List.getElem_map, hpe]
      have HX := hx.out
      rw [hd] at HX
      have HX := Lib.hid HX
      have PC := Lib.hid (pub_dec p hsz wr (h.keep hn))
      clear hd hp hx
      go_wp2_with fail
      refine PC.out.mono ?_
      rintro e w1 ⟨he, hb1⟩
      have hN1 := hn.trans (hb1.mono (by omega))
      have hL : Hid (p.data.toList.length = p.size) := Lib.hid (by rw [Array.length_toList]; rfl)
      rcases he with ⟨x, hx, hx1, rfl⟩ | ⟨hx, v, N, rfl⟩
      · have hO1 := ho.below hb1 (Nat.le_refl _)
        have hB1 := hb.below hb1 (by omega)
        have hz1 := hb1.size
        have HXX := Lib.hid hx
        have hgb := get_bt p
        have hxb : Bytes (ints [x]) := ints_bytes _ (by intro z hz; simp at hz; omega)
        clear hx ho hb
        by_cases bad : 1 < p.size ∧ bt p 0 = 48
        · have F := Lib.hid (HX.out.2.trans (tenP_no (by unfold tenV; rw [if_pos ⟨by rw [hL.out]; exact bad.1, (first_byte p (by omega)).2 bad.2⟩])))
          obtain ⟨b1, b2⟩ := bad
          have b3 : (bt p 0 == 48) = true := by simpa using b2
          clear b2
          go_wp2_with fail
          go_ret2
          exact ⟨.inr ⟨F.out, rfl⟩, hN1⟩
        · have F := Lib.hid (HX.out.2.trans (tenP_on (x := x) (by
            unfold tenV
            rw [if_neg (fun hh => bad ⟨by rw [← hL.out]; exact hh.1, (first_byte p (by have := hh.1; rw [hL.out] at this; omega)).1 hh.2⟩)]
            exact HXX.out)))
          have good : p.size ≤ 1 ∨ (1 < p.size ∧ (bt p 0 == 48) = false) := by
            by_cases h1 : p.size ≤ 1
            · exact .inl h1
            · exact .inr ⟨by omega, by simpa using fun e => bad ⟨by omega, e⟩⟩
          clear bad
          rcases good with h1 | ⟨h1, h2⟩
          all_goals
            go_wp2_with (first
              | (at_builtin
                 refine wpList_append_bytes rfl (.tmp 33) (.tmp 36) rfl (w.heap.size + 1) _ _ _ rfl (hO1.alloc _) _ _ 1 1 (ints [x]) rfl (Holds.lit w1 (ints [x]) _ rfl (by simp [ints, maxLen]) hxb) (by omega) (by simp; omega) ?_
                 intro v2 w2 ho2 hg2 hat2))
            have hne : some w.heap.size ≠ u4.ownBlock := fun e => by have := (hO1.lt _ e.symm).1; omega
            have hB2 : Blk w2 w.heap.size 9 (ps.map Value.string).toArray := (hB1.alloc _).grown hg2 hne
            have hN2 : Below w.heap.size w w2 := (hN1.alloc (by omega) _).grown hg2 (by simp; omega) fun g hg => by have := (hO1.lt g hg).1; omega
            have hz2 := hg2.size
            have hz3 : w.heap.size + 1 ≤ w2.heap.size := by simp at hz2; omega
            clear hg2 hat2 hO1 hgb
            go_roundw
            case rel =>
              refine ⟨k + 1, acc ++ [x], by go_num, hlt, (by show (acc ++ [x]).length = k + 1; rw [List.length_append, HA.out]; rfl), hB2, ?_, hz3, hN2, ?_⟩
              · have e : ints acc ++ ints [x] = ints (acc ++ [x]) := by simp [ints]
                rw [← e]
                exact ho2
              · exact ⟨fun z hz => by
                  rcases List.mem_append.1 hz with h | h
                  · exact HX.out.1 z h
                  · simp at h; subst h; exact hx1, F.out⟩
            case measure => simp [intOf]; omega
      · have F := Lib.hid (HX.out.2.trans (tenP_no (tenV_none hx)))
        clear hx
        go_wp2_with fail
        go_ret2
        exact ⟨.inr ⟨F.out, rfl⟩, hN1⟩
    · have e : k = ps.length := by omega
      subst e
      have HX := Lib.hid hx.out
      obtain ⟨A, c, rfl, hh⟩ := ho.slice
      have hcv := run_string_bytes hh
      rw [txt_of] at hcv
      clear hx ho
      go_wp2_with fail
      go_ret2
      refine ⟨.inl ⟨acc, ?_, HX.out.1, ?_⟩, hn⟩
      · rw [HX.out.2, List.drop_of_length_le (by simp)]
        rfl
      · have e : ((ps.length : Int) == 4) = decide (acc.length = 4) := by
          rw [HA.out, Bool.eq_iff_iff]
          simp only [beq_iff_eq, decide_eq_true_eq]
          omega
        rw [← e]
        rfl

end Go.Proofs.YtggahoocgijdkaaDoor.Parse4
