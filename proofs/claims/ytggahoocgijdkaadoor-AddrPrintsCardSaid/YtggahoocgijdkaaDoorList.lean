/- Groups that are read off a text between colons. -/
import Derived.Test.YtggahoocgijdkaaDoorPub
import Derived.Test.YtggahoocgijdkaaDoorRow
import Derived.Test.YtggahoocgijdkaaDoorSplit
set_option linter.unusedVariables false
namespace Go.Proofs.YtggahoocgijdkaaDoor.List6
open Go.RowKit Go.Proofs.YtggahoocgijdkaaDoor.Std Go.Proofs.YtggahoocgijdkaaDoor.Hex Go.Proofs.YtggahoocgijdkaaDoor.Pub Go.Proofs.YtggahoocgijdkaaDoor.Row Go.Proofs.YtggahoocgijdkaaDoor.Split

theorem split_any (s : ByteArray) (c : UInt8) (w : World) (h : Std w) (hs : s.size ≤ 300) :
    Calls Tryd.prog 40 #[.string s, .string ⟨#[c]⟩] w fun e w' => ∃ ps : List ByteArray, ps.map (·.data.toList) = parts c s.data.toList ∧
      e = .returned (.slice (some ⟨w.heap.size, 0, none⟩) ps.length ps.length) ∧ w' = w.alloc (.cells (ps.map Value.string).toArray 9) := by
  obtain ⟨m, hm⟩ := h.most
  refine (Tryd.strings_Split s ⟨#[c]⟩ m w (by omega) hm (by simp [ByteArray.size])).mono ?_
  rintro e w' ⟨rfl, rfl⟩
  refine ⟨_, split_data s c, ?_, rfl⟩
  rw [Lib.splitB_all ⟨#[c]⟩ (by simp [ByteArray.size]) 0 _ s rfl]

/-- A group's number. -/
def grpV (p : List UInt8) : Option Nat := if 4 < p.length then none else hexV p
/-- The groups behind those that are read already. -/
def listP (acc : List Nat) : List (List UInt8) → Option (List Nat)
  | [] => some acc
  | p :: r => match grpV p with
    | none => none
    | some x => listP (acc ++ [x]) r
/-- The groups of a text. -/
def listV (l : List UInt8) : Option (List Nat) := if l = [] then some [] else listP [] (parts 58 l)

theorem listP_no {acc : List Nat} {p : List UInt8} {r : List (List UInt8)} (h : grpV p = none) : listP acc (p :: r) = none := by simp [listP, h]
theorem listP_on {acc : List Nat} {p : List UInt8} {r : List (List UInt8)} {x : Nat} (h : grpV p = some x) : listP acc (p :: r) = listP (acc ++ [x]) r := by simp [listP, h]

theorem grpV_none {p : List UInt8} (h : hexV p = none) : grpV p = none := by
  unfold grpV
  split
  · rfl
  · exact h

def words (l : List Nat) : List Value := l.map fun z : Nat => Value.int .u16 (z : Int)

/-- How list ends. -/
def ListEnd (B : Nat) (o : Option (List Nat)) (e : Ending) (w' : World) : Prop :=
  (∃ g v, o = some g ∧ (∀ z ∈ g, z ≤ 65535) ∧ e = .returned (.tuple #[v, .bool true]) ∧ w'.ownsRow B 47 1 v g.length (words g)) ∨
  (o = none ∧ e = .returned (.tuple #[.slice none 0 0, .bool false]))

theorem word_info : (Tryd.prog.info? 47).map (fun i => (i.zero, i.size, i.bytes)) = some (some (.int .u16 0), 1, 2) := by kernel_rfl

theorem list_empty (w : World) : Calls Tryd.prog 44 #[.string ⟨#[]⟩] w fun e w' => ListEnd w.heap.size (some []) e w' ∧ Below w.heap.size w w' := by
  go_enter Tryd.func44, Tryd.ntmps44
  go_wp2_with fail
  go_ret2
  exact ⟨.inl ⟨[], .slice none 0 0, rfl, fun _ h => (by cases h), rfl, World.ownsRow_nil _ _ _ _⟩, Below.refl _ _⟩

set_option maxRecDepth 100000 in
set_option maxHeartbeats 2000000 in
theorem list_more (s : ByteArray) (hs : s.size ≤ 300) (h0 : 0 < s.size) (w : World) (h : Std w) :
    Calls Tryd.prog 44 #[.string s] w fun e w' => ListEnd w.heap.size (listP [] (parts 58 s.data.toList)) e w' ∧ Below w.heap.size w w' := by
  have hemp : s.toList.isEmpty = false := by
    rw [← decide_eq_emptyBytes]
    exact decide_eq_false (fun h => by rw [h] at h0; exact absurd h0 (by decide))
  have SP := Lib.hid (split_any s 58 w h hs)
  go_enter Tryd.func44, Tryd.ntmps44
  go_wp2_with fail
  refine SP.out.mono ?_
  rintro e w' ⟨ps, hps, rfl, rfl⟩
  have HP : Hid (∀ p ∈ ps, p.size ≤ 300) := Lib.hid (fun p hp => by
    have := parts_len s.data.toList (c := 58) p.data.toList (by rw [← hps]; exact List.mem_map_of_mem hp)
    rw [Array.length_toList, Array.length_toList] at this
    exact Nat.le_trans this hs)
  have HPS := Lib.hid hps
  have hpl : ps.length ≤ 301 := by
    have h1 := parts_count (c := 58) s.data.toList
    have h2 : s.data.toList.length = s.size := by rw [Array.length_toList]; rfl
    rw [← hps, List.length_map] at h1
    omega
  clear hps SP
  have hB : Blk (w.alloc (.cells (ps.map Value.string).toArray 9)) w.heap.size 9 (ps.map Value.string).toArray := Blk.new _ _ _
  have hN : Below w.heap.size w (w.alloc (.cells (ps.map Value.string).toArray 9)) := (Below.refl _ _).alloc (Nat.le_refl _) _
  have hO : (w.alloc (.cells (ps.map Value.string).toArray 9)).ownsRow (w.heap.size + 1) 47 1 (.slice none 0 0) 0 (words []) := World.ownsRow_nil _ _ _ _
  have hz : w.heap.size + 1 ≤ (w.alloc (.cells (ps.map Value.string).toArray 9)).heap.size := by simp
  generalize w.alloc (.cells (ps.map Value.string).toArray 9) = W at hB hN hO hz ⊢
  go_wp2_with fail
  go_loopw [4, 14] (fun v i wr => ∃ (k : Nat) (acc : List Nat), i = .int .i64 k ∧ k ≤ ps.length ∧ acc.length = k ∧ Blk wr w.heap.size 9 (ps.map Value.string).toArray ∧ wr.ownsRow (w.heap.size + 1) 47 1 v k (words acc) ∧ w.heap.size + 1 ≤ wr.heap.size ∧ Below w.heap.size w wr ∧
      Hid ((∀ z ∈ acc, z ≤ 65535) ∧ listP [] (parts 58 s.data.toList) = listP acc ((ps.map (·.data.toList)).drop k))) (fun _ i _ => ps.length - (intOf i).toNat)
  case atStart => exact ⟨0, [], rfl, Nat.zero_le _, rfl, hB, hO, hz, hN, ⟨fun _ h => (by cases h), by rw [HPS.out]; rfl⟩⟩
  case round =>
    obtain ⟨k, acc, rfl, hk, hacc, hb, ho, hz', hn, hx⟩ := hrel
    clear hB hN hO hz
    by_cases hlt : k < ps.length
    · obtain ⟨p, hp⟩ : ∃ p, ps[k]? = some p := ⟨_, List.getElem?_eq_getElem hlt⟩
      have hsz := HP.out p (List.mem_of_getElem? hp)
      have hcl : wr.cell? ⟨w.heap.size, k, none⟩ = some (.string p) := by
        rw [hb.cell]
        simp [hp]
      have hd : (ps.map (·.data.toList)).drop k = p.data.toList :: (ps.map (·.data.toList)).drop (k + 1) := by
        rw [List.drop_eq_getElem_cons (by simpa using hlt)]
        obtain ⟨_, hpe⟩ := List.getElem?_eq_some_iff.1 hp
        rw [List.getElem_map, hpe]
      have HX := hx.out
      rw [hd] at HX
      have HX := Lib.hid HX
      have PC := Lib.hid (pub_hex p hsz wr (h.keep hn))
      have HA := Lib.hid hacc
      clear hd hp hx hacc
      go_wp2_with fail
      refine PC.out.mono ?_
      rintro e w1 ⟨he, hb1⟩
      rcases he with ⟨x, hx, hx1, rfl⟩ | ⟨hx, v, N, rfl⟩
      · by_cases h4 : p.size ≤ 4
        · have F := Lib.hid (HX.out.2.trans (listP_on (x := x) (by unfold grpV; rw [if_neg (by rw [Array.length_toList]; exact Nat.not_lt.2 h4)]; exact hx)))
          have hO1 := own_below ho hb1
          have hB1 := hb.below hb1 (by omega)
          have hN1 := hn.trans (hb1.mono (by omega))
          have hz1 := hb1.size
          clear hx ho hb
          go_wp2_with (first
            | (at_builtin
               refine wpList_one rfl (.tmp 30) (.tmp 33) 67 47 rfl (w.heap.size + 1) (.int .u16 0) (.int .u16 (x : Int)) 2 Tryd.underlying67 word_info rfl (by decide) _ _ _ rfl hO1 rfl rfl (by omega) (by omega) ?_
               intro v2 w2 ho2 hg2))
          have hB2 : Blk w2 w.heap.size 9 (ps.map Value.string).toArray := (hB1.alloc _).grown hg2 (own_ne hO1 (by omega))
          have hN2 : Below w.heap.size w w2 := (hN1.alloc (by omega) _).grown hg2 (by simp; omega) fun g hg => by have := (own_lt hO1 g hg).1; omega
          have hz2 := hg2.size
          have hz3 : w.heap.size + 1 ≤ w2.heap.size := by simp at hz2; omega
          clear hg2 hO1
          go_roundw
          case rel =>
            refine ⟨k + 1, acc ++ [x], by go_num, hlt, by simp [HA.out], hB2, ?_, hz3, hN2, ?_⟩
            · have e : words acc ++ [.int .u16 (x : Int)] = words (acc ++ [x]) := by simp [words]
              rw [← e]
              exact ho2
            · exact ⟨fun z hz => by
                rcases List.mem_append.1 hz with h | h
                · exact HX.out.1 z h
                · simp at h; subst h; exact hx1, F.out⟩
          case measure => simp [intOf]; omega
        · have F := Lib.hid (HX.out.2.trans (listP_no (by unfold grpV; rw [if_pos (by rw [Array.length_toList]; exact Nat.lt_of_not_le h4)])))
          have hN1 := hn.trans (hb1.mono (by omega))
          clear hx
          go_wp2_with fail
          go_ret2
          exact ⟨.inr ⟨F.out, rfl⟩, hN1⟩
      · have F := Lib.hid (HX.out.2.trans (listP_no (grpV_none hx)))
        have hN1 := hn.trans (hb1.mono (by omega))
        clear hx
        go_wp2_with fail
        go_ret2
        exact ⟨.inr ⟨F.out, rfl⟩, hN1⟩
    · have e : k = ps.length := by omega
      subst e
      have HX := Lib.hid hx.out
      have HA := Lib.hid hacc
      clear hx hacc
      go_wp2_with fail
      go_ret2
      refine ⟨.inl ⟨acc, u4, ?_, HX.out.1, rfl, ?_⟩, hn⟩
      · rw [HX.out.2, List.drop_of_length_le (by simp)]
        rfl
      · rw [HA.out]
        exact own_base ho (by omega)

theorem list_any (s : ByteArray) (hs : s.size ≤ 300) (w : World) (h : Std w) :
    Calls Tryd.prog 44 #[.string s] w fun e w' => ListEnd w.heap.size (listV s.data.toList) e w' ∧ Below w.heap.size w w' := by
  by_cases h0 : s.size = 0
  · obtain rfl : s = ⟨#[]⟩ := by
      cases s with
      | mk d => exact congrArg ByteArray.mk (Array.eq_empty_of_size_eq_zero h0)
    exact list_empty w
  · have e : listV s.data.toList = listP [] (parts 58 s.data.toList) := by
      unfold listV
      rw [if_neg]
      intro h
      apply h0
      have := congrArg List.length h
      rw [Array.length_toList] at this
      exact this
    rw [e]
    exact list_more s hs (by omega) w h

end Go.Proofs.YtggahoocgijdkaaDoor.List6
