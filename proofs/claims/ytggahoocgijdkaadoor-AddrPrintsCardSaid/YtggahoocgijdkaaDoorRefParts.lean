/- The reference: parts, groups. -/
import Derived.Test.YtggahoocgijdkaaDoorRefNum
import Derived.Test.YtggahoocgijdkaaDoorParse
import Derived.Test.YtggahoocgijdkaaDoorDigits
set_option linter.unusedVariables false
namespace Go.Proofs.YtggahoocgijdkaaDoor.RefParts
open Go.RowKit Go.PlainAid Go.Proofs.YtggahoocgijdkaaDoor.Sums Go.Proofs.YtggahoocgijdkaaDoor.Mem Go.Proofs.YtggahoocgijdkaaDoor.Std Go.Proofs.YtggahoocgijdkaaDoor.Grp Go.Proofs.YtggahoocgijdkaaDoor.Arr Go.Proofs.YtggahoocgijdkaaDoor.Hex Go.Proofs.YtggahoocgijdkaaDoor.Pub Go.Proofs.YtggahoocgijdkaaDoor.Row Go.Proofs.YtggahoocgijdkaaDoor.Digits Go.Proofs.YtggahoocgijdkaaDoor.Split Go.Proofs.YtggahoocgijdkaaDoor.List6 Go.Proofs.YtggahoocgijdkaaDoor.Mask Go.Proofs.YtggahoocgijdkaaDoor.Parse4 Go.Proofs.YtggahoocgijdkaaDoor.RefNum

/-- A row of texts, and what they are. -/
def RowEnd (B : Nat) (o : List (List UInt8)) (e : Ending) (w' : World) : Prop :=
  ∃ (X : List ByteArray) (v : Value), X.map (·.data.toList) = o ∧ e = .returned v ∧ w'.ownsRow B 9 1 v X.length (texts X)

theorem sub_data (s : ByteArray) (a b : Nat) (hb : b ≤ s.size) : (s.extract a b).data.toList = (s.data.toList.drop a).take (b - a) := by
  rw [ByteArray.data_extract, Array.toList_extract, List.extract_eq_take_drop]

theorem take_next {l : List UInt8} {f k : Nat} {c : UInt8} (hf : f ≤ k) (h : l[k]? = some c) : l.drop f = (l.drop f).take (k - f) ++ c :: l.drop (k + 1) := by
  have e : (l.drop f).drop (k - f) = c :: l.drop (k + 1) := by
    rw [List.drop_drop, show f + (k - f) = k by omega]
    exact drop_at h
  rw [← e, List.take_append_drop]
theorem take_more {l : List UInt8} {f k : Nat} {c d : UInt8} (hf : f ≤ k) (h : l[k]? = some d) (hn : c ∉ (l.drop f).take (k - f)) (hd : d ≠ c) : c ∉ (l.drop f).take (k + 1 - f) := by
  rw [show k + 1 - f = (k - f) + 1 by omega, List.take_add_one]
  intro hm
  rcases List.mem_append.1 hm with hm | hm
  · exact hn hm
  · rw [List.getElem?_drop, show f + (k - f) = k by omega, h] at hm
    simp at hm
    exact hd hm.symm

set_option maxRecDepth 100000 in
set_option maxHeartbeats 4000000 in
theorem parts_any (s : ByteArray) (hs : s.size ≤ 300) (c : UInt8) (w : World) :
    Calls Tryd.prog 23 #[.string s, .int .u8 (c.toNat : Int)] w fun e w' => RowEnd w.heap.size (parts c s.data.toList) e w' ∧ Below w.heap.size w w' := by
  have hgb := get_bt s
  have hL : s.data.toList.length = s.size := by rw [Array.length_toList]; rfl
  have CH := Lib.hid (bt_char s)
  have SD := Lib.hid (sub_data s)
  generalize hbs : s.data.toList = bs at hL CH SD ⊢
  have HL := Lib.hid hL
  clear hL hbs
  go_enter Tryd.func23, Tryd.ntmps23
  go_wp2_with fail
  go_loopw [5, 6, 7] (fun v f i wr => ∃ (k g n : Nat) (X : List ByteArray), i = .int .i64 k ∧ f = .int .i64 g ∧ k ≤ s.size + 1 ∧ n ≤ k ∧ g ≤ k ∧ wr.ownsRow w.heap.size 9 1 v n (texts X) ∧ Hid (X.length = n) ∧ Below w.heap.size w wr ∧
      Hid ((k ≤ s.size ∧ c ∉ (bs.drop g).take (k - g) ∧ X.map (·.data.toList) ++ parts c (bs.drop g) = parts c bs) ∨ (k = s.size + 1 ∧ X.map (·.data.toList) = parts c bs))) (fun _ _ i _ => s.size + 1 - (intOf i).toNat)
  case atStart => exact ⟨0, 0, 0, [], rfl, rfl, Nat.zero_le _, Nat.zero_le _, Nat.zero_le _, World.ownsRow_nil _ _ _ _, rfl, Below.refl _ _, .inl ⟨Nat.zero_le _, by simp, by simp⟩⟩
  case round =>
    obtain ⟨k, g, n, X, rfl, rfl, hk, hnk, hgk, ho, hX, hb, hx⟩ := hrel
    have hsz := hb.size
    by_cases hlt : k < s.size
    · obtain ⟨d, hd, hbt⟩ := CH.out k hlt
      obtain ⟨h1, h2, h3⟩ : k ≤ s.size ∧ c ∉ (bs.drop g).take (k - g) ∧ X.map (·.data.toList) ++ parts c (bs.drop g) = parts c bs := by
        rcases hx.out with h | h
        · exact h
        · omega
      by_cases he : d = c
      · subst he
        have g1 : (bt s k == (d.toNat : Int)) = true := by rw [hbt]; simp
        have hsub := SD.out g k (by omega)
        have HN := Lib.hid (show (X ++ [s.extract g k]).map (·.data.toList) ++ parts d (bs.drop (k + 1)) = parts d bs by
          rw [List.map_append, List.map_cons, List.map_nil, hsub, List.append_assoc]
          rw [take_next hgk hd, parts_hit _ h2] at h3
          exact h3)
        clear hd hbt h1 h2 h3 hx hsub
        go_wp2_with (first
          | (at_builtin
             refine wpList_one rfl (.tmp 25) (.tmp 30) 39 9 rfl w.heap.size (.string ByteArray.empty) (.string (s.extract g k)) 16 Tryd.underlying39 str_info rfl (by decide) _ _ _ rfl ho rfl rfl (by omega) (by omega) ?_
             intro v2 w2 ho2 hg2))
        have hN2 : Below w.heap.size w w2 := (hb.alloc (by omega) _).grown hg2 (by simp; omega) fun g hg => (own_lt ho g hg).1
        have e : texts X ++ [.string (s.extract g k)] = texts (X ++ [s.extract g k]) := by simp [texts]
        rw [e] at ho2
        clear hg2 ho e
        go_roundw
        case rel => exact ⟨k + 1, k + 1, n + 1, X ++ [s.extract g k], by go_num, by go_num, by omega, by omega, Nat.le_refl _, ho2, Lib.hid (by rw [List.length_append, hX.out]; rfl), hN2, Lib.hid (.inl ⟨by omega, by simp, HN.out⟩)⟩
        case measure => simp [intOf]; omega
      · have g1 : (bt s k == (c.toNat : Int)) = false := by
          rw [beq_eq_false_iff_ne, hbt]
          intro e
          exact he (UInt8.toNat_inj.1 (by omega))
        have HN := Lib.hid (show k + 1 ≤ s.size ∧ c ∉ (bs.drop g).take (k + 1 - g) ∧ X.map (·.data.toList) ++ parts c (bs.drop g) = parts c bs from ⟨by omega, take_more hgk hd h2 he, h3⟩)
        clear hd hbt h1 h2 h3 hx he
        go_wp2_with fail
        go_roundw
        case rel => exact ⟨k + 1, g, n, X, by go_num, rfl, by omega, by omega, by omega, ho, hX, hb, Lib.hid (.inl HN.out)⟩
        case measure => simp [intOf]; omega
    · by_cases heq : k = s.size
      · obtain ⟨h1, h2, h3⟩ : k ≤ s.size ∧ c ∉ (bs.drop g).take (k - g) ∧ X.map (·.data.toList) ++ parts c (bs.drop g) = parts c bs := by
          rcases hx.out with h | h
          · exact h
          · omega
        have hsub := SD.out g k (by omega)
        have hall : (bs.drop g).take (k - g) = bs.drop g := List.take_of_length_le (by rw [List.length_drop, HL.out]; omega)
        have HN := Lib.hid (show (X ++ [s.extract g k]).map (·.data.toList) = parts c bs by
          rw [List.map_append, List.map_cons, List.map_nil, hsub, hall]
          rw [hall] at h2
          rw [parts_none h2] at h3
          exact h3)
        clear h1 h2 h3 hx hsub hall
        have gk : ((k : Int) == (s.size : Int)) = true := by rw [beq_iff_eq]; omega
        have k1 : k ≤ s.size := by omega
        clear heq
        go_wp2_with (first
          | (at_builtin
             refine wpList_one rfl (.tmp 25) (.tmp 30) 39 9 rfl w.heap.size (.string ByteArray.empty) (.string (s.extract g k)) 16 Tryd.underlying39 str_info rfl (by decide) _ _ _ rfl ho rfl rfl (by omega) (by omega) ?_
             intro v2 w2 ho2 hg2))
        have hN2 : Below w.heap.size w w2 := (hb.alloc (by omega) _).grown hg2 (by simp; omega) fun g hg => (own_lt ho g hg).1
        have e : texts X ++ [.string (s.extract g k)] = texts (X ++ [s.extract g k]) := by simp [texts]
        rw [e] at ho2
        clear hg2 ho e
        go_roundw
        case rel => exact ⟨k + 1, k + 1, n + 1, X ++ [s.extract g k], by go_num, by go_num, by omega, by omega, Nat.le_refl _, ho2, Lib.hid (by rw [List.length_append, hX.out]; rfl), hN2, Lib.hid (.inr ⟨by omega, HN.out⟩)⟩
        case measure => simp [intOf]; omega
      · have HN := Lib.hid (show X.map (·.data.toList) = parts c bs by
          rcases hx.out with h | h
          · omega
          · exact h.2)
        have k2 : s.size < k := by omega
        clear hx heq
        go_wp2_with fail
        go_ret
        exact ⟨⟨X, _, HN.out, rfl, by rw [hX.out]; exact ho⟩, hb⟩

theorem hexP_le : ∀ (l : List UInt8) (m x : Nat), m ≤ 65535 → hexP m l = some x → x ≤ 65535
  | [], m, x, h, e => by simp [hexP] at e; omega
  | c :: r, m, x, h, e => by
    unfold hexP at e
    split at e
    · cases e
    · split at e
      · cases e
      · exact hexP_le r _ x (by omega) e
theorem grpV_le {p : List UInt8} {x : Nat} (h : grpV p = some x) : x ≤ 65535 := by
  unfold grpV hexV at h
  split at h
  · cases h
  · split at h
    · cases h
    · exact hexP_le _ 0 x (by omega) h

/-- How groups ends: the bytes of the groups. -/
def GrpEnd (B : Nat) (o : Option (List Nat)) (e : Ending) (w' : World) : Prop :=
  (∃ g v, o = some g ∧ (∀ z ∈ g, z ≤ 65535) ∧ e = .returned (.tuple #[v, .bool true]) ∧ Owns w' B v (2 * g.length) (ints (ungrp g))) ∨
  (o = none ∧ e = .returned (.tuple #[.slice none 0 0, .bool false]))

theorem groups_empty (w : World) : Calls Tryd.prog 26 #[.string ⟨#[]⟩] w fun e w' => GrpEnd w.heap.size (some []) e w' ∧ Below w.heap.size w w' := by
  go_enter Tryd.func26, Tryd.ntmps26
  go_wp2_with fail
  go_ret2
  exact ⟨.inl ⟨[], _, rfl, fun _ h => (by cases h), rfl, Owns.nil _ _⟩, Below.refl _ _⟩

set_option maxRecDepth 100000 in
set_option maxHeartbeats 4000000 in
theorem groups_more (s : ByteArray) (hs : s.size ≤ 300) (h0 : 0 < s.size) (w : World) :
    Calls Tryd.prog 26 #[.string s] w fun e w' => GrpEnd w.heap.size (listP [] (parts 58 s.data.toList)) e w' ∧ Below w.heap.size w w' := by
  have hemp : s.toList.isEmpty = false := by
    rw [← decide_eq_emptyBytes]
    exact decide_eq_false (fun h => by rw [h] at h0; exact absurd h0 (by decide))
  have SP : Calls Tryd.prog 23 #[.string s, .int .u8 58] w fun e w' => RowEnd w.heap.size (parts 58 s.data.toList) e w' ∧ Below w.heap.size w w' := parts_any s hs 58 w
  have SP := Lib.hid SP
  go_enter Tryd.func26, Tryd.ntmps26
  go_wp2_with fail
  refine SP.out.mono ?_
  rintro e W ⟨⟨ps, v, hps, rfl, hr⟩, hN⟩
  have HP : Hid (∀ p ∈ ps, p.size ≤ 300) := Lib.hid (fun p hp => by
    have := parts_len s.data.toList (c := 58) p.data.toList (by rw [← hps]; exact List.mem_map_of_mem hp)
    rw [Array.length_toList, Array.length_toList] at this
    exact Nat.le_trans this hs)
  have HPS := Lib.hid hps
  have hpl : ps.length ≤ 301 := by
    have h1 := parts_count (c := 58) s.data.toList
    have h2 : s.data.toList.length = s.size := by rw [Array.length_toList]; rfl
    rw [← hps, List.length_map] at h1
    omega
  have hp1 : 0 < ps.length := by
    have := parts_ne 58 s.data.toList
    rw [← hps] at this
    cases ps with
    | nil => exact absurd rfl this
    | cons _ _ => simp
  clear hps SP
  obtain ⟨A, cp, rfl⟩ : ∃ A cp, v = .slice A ps.length cp := by
    rcases hr.2 with ⟨h1, h2⟩ | ⟨g, cap, cur, h1, _⟩
    · omega
    · exact ⟨_, _, h1⟩
  obtain ⟨b, rfl, hbW, hcell⟩ := text_cells hr hp1
  have HC := Lib.hid hcell
  have hz := hN.size
  have hO : Owns W W.heap.size (.slice none 0 0) (2 * 0) (ints (ungrp [])) := Owns.nil _ _
  clear hcell hr
  go_wp2_with fail
  go_loopw [4, 6] (fun v i wr => ∃ (k : Nat) (acc : List Nat), i = .int .i64 k ∧ k ≤ ps.length ∧ Hid (acc.length = k) ∧ Owns wr W.heap.size v (2 * k) (ints (ungrp acc)) ∧ Below W.heap.size W wr ∧
      Hid ((∀ z ∈ acc, z ≤ 65535) ∧ listP [] (parts 58 s.data.toList) = listP acc ((ps.map (·.data.toList)).drop k))) (fun _ i _ => ps.length - (intOf i).toNat)
  case atStart => exact ⟨0, [], rfl, Nat.zero_le _, rfl, hO, Below.refl _ _, ⟨fun _ h => (by cases h), by rw [HPS.out]; rfl⟩⟩
  case round =>
    obtain ⟨k, acc, rfl, hk, HA, ho, hb, hx⟩ := hrel
    clear hO
    have hsz := hb.size
    by_cases hlt : k < ps.length
    · obtain ⟨p, hp⟩ : ∃ p, ps[k]? = some p := ⟨_, List.getElem?_eq_getElem hlt⟩
      have hps := HP.out p (List.mem_of_getElem? hp)
      have hcl : wr.cell? ⟨b, k, none⟩ = some (.string p) := by
        have := HC.out k p hp
        rw [Nat.zero_add] at this
        exact (hb.cell (p := ⟨b, k, none⟩) hbW).trans this
      have hd : (ps.map (·.data.toList)).drop k = p.data.toList :: (ps.map (·.data.toList)).drop (k + 1) := by
        rw [List.drop_eq_getElem_cons (by simpa using hlt)]
        obtain ⟨_, hpe⟩ := List.getElem?_eq_some_iff.1 hp
        rw [List.getElem_map, hpe]
      have HX := hx.out
      rw [hd] at HX
      have HX := Lib.hid HX
      have PC := sixteen_any p hps wr
      clear hd hp hx
      cases hv : grpV p.data.toList with
      | none =>
        rw [hv] at PC
        have PC := Lib.hid PC
        have F := Lib.hid (HX.out.2.trans (listP_no hv))
        clear hv
        go_wp2_with fail
        refine PC.out.mono ?_
        rintro e w1 ⟨he, rfl⟩
        obtain rfl : e = .returned (.int .i64 (-1)) := he
        go_wp2_with fail
        go_ret2
        exact ⟨.inr ⟨F.out, rfl⟩, hN.trans (hb.mono hz)⟩
      | some x =>
        rw [hv] at PC
        have PC := Lib.hid PC
        have F := Lib.hid (HX.out.2.trans (listP_on hv))
        have hx1 : x ≤ 65535 := grpV_le hv
        have hxb : Bytes (ints [x / 256, x % 256]) := ints_bytes _ (by intro z hz; simp at hz; omega)
        clear hv
        go_wp2_with fail
        refine PC.out.mono ?_
        rintro e w1 ⟨he, rfl⟩
        obtain rfl : e = .returned (.int .i64 (x : Int)) := he
        go_wp2_with (first
          | (at_builtin
             refine wpList_append_bytes rfl (.tmp 26) (.tmp 33) rfl W.heap.size _ _ _ rfl (ho.alloc _) _ _ 2 2 (ints [x / 256, x % 256]) rfl (Holds.lit wr (ints [x / 256, x % 256]) _ rfl (by simp [ints, maxLen]) hxb) (by omega) (by simp; omega) ?_
             intro v2 w2 ho2 hg2 hat2))
        have hN2 : Below W.heap.size W w2 := (hb.alloc (by omega) _).grown hg2 (by simp; omega) fun g hg => (ho.lt g hg).1
        have hl : ungrp (acc ++ [x]) = ungrp acc ++ [x / 256, x % 256] := by rw [ungrp_append]; rfl
        have hi : ints (ungrp acc) ++ ints [x / 256, x % 256] = ints (ungrp (acc ++ [x])) := by rw [hl]; simp [ints]
        rw [hi] at ho2
        clear hg2 hat2 hl hi ho
        go_roundw
        case rel =>
          exact ⟨k + 1, acc ++ [x], by go_num, hlt, Lib.hid (by rw [List.length_append, HA.out]; rfl), ho2, hN2, Lib.hid ⟨fun z hz => by
            rcases List.mem_append.1 hz with h | h
            · exact HX.out.1 z h
            · simp at h; subst h; exact hx1, F.out⟩⟩
        case measure => simp [intOf]; omega
    · have e : k = ps.length := by omega
      subst e
      have HX := Lib.hid hx.out
      clear hx
      go_wp2_with fail
      go_ret2
      refine ⟨.inl ⟨acc, _, ?_, HX.out.1, rfl, ?_⟩, hN.trans (hb.mono hz)⟩
      · rw [HX.out.2, List.drop_of_length_le (by simp)]
        rfl
      · rw [HA.out]
        exact ho.mono hz

theorem groups_any (s : ByteArray) (hs : s.size ≤ 300) (w : World) :
    Calls Tryd.prog 26 #[.string s] w fun e w' => GrpEnd w.heap.size (listV s.data.toList) e w' ∧ Below w.heap.size w w' := by
  by_cases h0 : s.size = 0
  · obtain rfl : s = ⟨#[]⟩ := ByteArray.ext (Array.eq_empty_of_size_eq_zero h0)
    exact groups_empty w
  · have e : listV s.data.toList = listP [] (parts 58 s.data.toList) := if_neg (fun e => h0 (by rw [← (show s.data.toList.length = s.size by rw [Array.length_toList]; rfl), e]; rfl))
    rw [e]
    exact groups_more s hs (by omega) w

end Go.Proofs.YtggahoocgijdkaaDoor.RefParts
