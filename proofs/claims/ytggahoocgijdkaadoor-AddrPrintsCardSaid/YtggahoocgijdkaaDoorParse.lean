/- Parse: the address of a text. -/
import Derived.Test.YtggahoocgijdkaaDoorParse4
import Derived.Laws.CopyOwn
set_option linter.unusedVariables false
namespace Go.Proofs.YtggahoocgijdkaaDoor.Parse
open Go.RowKit Go.PlainAid Go.Proofs.YtggahoocgijdkaaDoor.Sums Go.Proofs.YtggahoocgijdkaaDoor.Mem Go.Proofs.YtggahoocgijdkaaDoor.Std Go.Proofs.YtggahoocgijdkaaDoor.Grp Go.Proofs.YtggahoocgijdkaaDoor.Arr Go.Proofs.YtggahoocgijdkaaDoor.Hex Go.Proofs.YtggahoocgijdkaaDoor.Pub Go.Proofs.YtggahoocgijdkaaDoor.Row Go.Proofs.YtggahoocgijdkaaDoor.Split Go.Proofs.YtggahoocgijdkaaDoor.List6 Go.Proofs.YtggahoocgijdkaaDoor.Mask Go.Proofs.YtggahoocgijdkaaDoor.Parse4

theorem bsz (l : List UInt8) : (⟨l.toArray⟩ : ByteArray).size = l.length := by
  show l.toArray.size = _
  simp

theorem cut_any (s : ByteArray) (w : World) (h : Std w) (hs : s.size ≤ 300) :
    Calls Tryd.prog 43 #[.string s, .string ⟨#[58, 58]⟩] w fun e w' => ∃ (a b : ByteArray) (c : Bool) (n : Nat), Lib.cut s.data.toList [58, 58] = (a.data.toList, b.data.toList, c) ∧ a.size ≤ 300 ∧ b.size ≤ 300 ∧
      e = .returned (.tuple #[.string a, .string b, .bool c]) ∧ w' = w.drewN n := by
  obtain ⟨m, hm⟩ := h.most
  refine (Tryd.strings_Cut s ⟨#[58, 58]⟩ m w (by omega) hm).mono ?_
  rintro e w' ⟨rfl, n, rfl⟩
  refine ⟨_, _, _, n, ?_, ?_, ?_, rfl, rfl⟩
  · simp
  · have : s.data.toList.length = s.size := by rw [Array.length_toList]; rfl
    rw [bsz]
    unfold Lib.cut
    split
    · rw [List.length_take]; omega
    · show s.data.toList.length ≤ 300
      omega
  · have : s.data.toList.length = s.size := by rw [Array.length_toList]; rfl
    rw [bsz]
    unfold Lib.cut
    split
    · rw [List.length_drop]; omega
    · exact Nat.zero_le _

/-- What is left out between a head and a tail. -/
def sixG (c : Bool) (h t : List Nat) : Option (List Nat) :=
  if (c = true ∧ h.length + t.length ≤ 7) ∨ (c = false ∧ h.length + t.length = 8) then some (h ++ List.replicate (8 - h.length - t.length) 0 ++ t) else none
def sixV (l : List UInt8) : Option (List Nat) :=
  match listV (Lib.cut l [58, 58]).1, listV (Lib.cut l [58, 58]).2.1 with
  | some h, some t => sixG (Lib.cut l [58, 58]).2.2 h t
  | _, _ => none

theorem listP_len : ∀ (ps : List (List UInt8)) (acc g : List Nat), listP acc ps = some g → g.length = acc.length + ps.length
  | [], acc, g, h => by simp [listP] at h; subst h; simp
  | p :: r, acc, g, h => by
    cases hp : grpV p with
    | none => rw [listP_no hp] at h; cases h
    | some x =>
      rw [listP_on hp] at h
      have := listP_len r _ g h
      simp only [List.length_append, List.length_cons, List.length_nil] at this ⊢
      omega
theorem listV_len {l : List UInt8} {g : List Nat} (h : listV l = some g) : g.length ≤ l.length + 1 := by
  unfold listV at h
  split at h
  · cases h; simp
  · have h1 := listP_len _ _ _ h
    have h2 := parts_count (c := 58) l
    simp at h1
    omega

/-- How parse6 ends. -/
def Six (o : Option (List Nat)) (e : Ending) : Prop :=
  (∃ g, o = some g ∧ (∀ z ∈ g, z ≤ 65535) ∧ g.length = 8 ∧ e = .returned (.tuple #[.string (txt (ungrp g)), .bool true])) ∨
  (o = none ∧ e = .returned (.tuple #[.string ⟨#[]⟩, .bool false]))

theorem word_size : (Tryd.prog.info? 47).map (·.size) = some 1 := by kernel_rfl

theorem words_one (l : List Nat) : ∀ v ∈ words l, v.oneCell' = true := by
  intro v hv
  simp only [words, List.mem_map] at hv
  obtain ⟨z, _, rfl⟩ := hv
  rfl

theorem own_cells {w : World} {base n : Nat} {A : Option Addr} {c : Nat} {l : List Nat} (h : w.ownsRow base 47 1 (.slice A n c) n (words l)) (hn : 0 < (words l).length) :
    ∃ g, A = some ⟨g, 0, none⟩ ∧ g < w.heap.size ∧ ∀ j v, (words l)[j]? = some v → w.cell? ⟨g, j, none⟩ = some v := by
  have h1 : (words l).length = n := by have := h.1; omega
  obtain ⟨g, cap, hv, hb, hlt⟩ := h.form (by omega)
  have hA : A = some ⟨g, 0, none⟩ := by injection hv
  subst hA
  exact ⟨g, rfl, hlt, fun j v hj => by
    have := h.cells (g := g) rfl j v hj
    rwa [add_plain, Nat.zero_add] at this⟩

theorem own_slice {w : World} {base n : Nat} {e : TypeId} {v : Value} {xs : List Value} (h : w.ownsRow base e 1 v n xs) : ∃ A c, v = .slice A n c ∧ n ≤ c := by
  rcases h.2 with ⟨rfl, rfl⟩ | ⟨g, cap, cur, rfl, _, _, hn, _⟩
  · exact ⟨_, _, rfl, Nat.le_refl _⟩
  · exact ⟨_, _, rfl, hn⟩

theorem arr_words (l : List Nat) : arr l = (words l).toArray := rfl
theorem words_len (l : List Nat) : (words l).length = l.length := by simp [words]
theorem splice_words (a : List Nat) (o : Nat) (b : List Nat) : splice (words a) o (words b) = words (splice a o b) := by
  simp [splice, words, List.map_take, List.map_drop]
theorem splice_two (h t : List Nat) (k : h.length + t.length ≤ 8) :
    splice (splice (List.replicate 8 0) 0 h) (8 - t.length) t = h ++ List.replicate (8 - h.length - t.length) 0 ++ t := by
  unfold splice
  simp only [List.take_zero, List.nil_append, Nat.zero_add, List.drop_replicate]
  rw [show 8 - t.length + t.length = 8 by omega, List.drop_of_length_le (by simp; omega), List.append_nil, List.take_append, List.take_of_length_le (by omega), List.take_replicate, show min (8 - t.length - h.length) (8 - h.length) = 8 - h.length - t.length by omega]

set_option maxRecDepth 100000 in
set_option maxHeartbeats 4000000 in
theorem parse6_any (s : ByteArray) (hs : s.size ≤ 300) (w : World) (h : Std w) :
    Calls Tryd.prog 22 #[.string s] w fun e w' => Six (sixV s.data.toList) e ∧ Below w.heap.size w w' := by
  have CT := Lib.hid (cut_any s w h hs)
  go_enter Tryd.func22, Tryd.ntmps22
  go_wp2_with fail
  refine CT.out.mono ?_
  rintro e w' ⟨a, b, c, n, hc, ha, hb, rfl, rfl⟩
  have HC := Lib.hid hc
  have h1 := h.drewN n
  have hN1 : Below w.heap.size w (w.drewN n) := below_drewN (Below.refl _ _) n
  have hz1 : w.heap.size ≤ (w.drewN n).heap.size := Nat.le_refl _
  clear hc CT
  generalize w.drewN n = w1 at h1 hN1 hz1 ⊢
  have L1 := Lib.hid (list_any a ha w1 h1)
  go_wp2_with fail
  refine L1.out.mono ?_
  rintro e w2 ⟨he, hb2⟩
  have h2 := h1.keep hb2
  have hN2 := hN1.trans (hb2.mono hz1)
  have hz2 := hb2.size
  have L2 := Lib.hid (list_any b hb w2 h2)
  clear L1
  rcases he with ⟨x, v, hx, hx1, rfl, ho⟩ | ⟨hx, rfl⟩
  · go_wp2_with fail
    refine L2.out.mono ?_
    rintro e w3 ⟨he, hb3⟩
    have hN3 := hN2.trans (hb3.mono (by omega))
    have hz3 := hb3.size
    have ho1 := own_below ho hb3
    clear L2
    rcases he with ⟨y, u, hy, hy1, rfl, ho2⟩ | ⟨hy, rfl⟩
    · have HV : Hid (sixV s.data.toList = sixG c x y) := Lib.hid (by unfold sixV; rw [HC.out]; simp only [hx, hy])
      obtain ⟨A, cp, rfl, hcp⟩ := own_slice ho1
      obtain ⟨A', cp', rfl, hcp'⟩ := own_slice ho2
      have X := Lib.hid hx1
      have Y := Lib.hid hy1
      have hxm := listV_len hx
      have hym := listV_len hy
      rw [Array.length_toList] at hxm hym
      have hxm : x.length ≤ 301 := Nat.le_trans hxm (Nat.succ_le_succ ha)
      have hym : y.length ≤ 301 := Nat.le_trans hym (Nat.succ_le_succ hb)
      clear hx hy hx1 hy1 ho
      by_cases good : (c = true ∧ x.length + y.length ≤ 7) ∨ (c = false ∧ x.length + y.length = 8)
      · have hl8 : x.length + y.length ≤ 8 := by omega
        have F := Lib.hid (HV.out.trans (show sixG c x y = _ from if_pos good))
        have hg0 : (w3.alloc (.cells (words (List.replicate 8 0)).toArray 49)).heap[w3.heap.size]? = some (.cells (words (List.replicate 8 0)).toArray 49 (0, 0)) := heap_alloc_new _ _
        have hb0 : Below w3.heap.size w3 (w3.alloc (.cells (words (List.replicate 8 0)).toArray 49)) := (Below.refl _ _).alloc (Nat.le_refl _) _
        have hN4 : Below w.heap.size w (w3.alloc (.cells (words (List.replicate 8 0)).toArray 49)) := hN3.alloc (by omega) _
        have hall := arr_all w3.heap.size
        have hfrom : ∀ W, (Instr.sliceAt 49 (.pointer (some ⟨w3.heap.size, 0, none⟩)) (some (.int .i64 (8 - (y.length : Int)))) none none).run Tryd.prog W = .ok (.slice (some ⟨w3.heap.size, if y.length = 0 then 0 else 8 - y.length, none⟩) y.length y.length) W := fun W => by
          have := arr_from w3.heap.size (8 - y.length) (by omega) W
          rw [show ((8 - y.length : Nat) : Int) = 8 - (y.length : Int) by omega] at this
          rw [this, show 8 - (8 - y.length) = y.length by omega]
          by_cases h0 : y.length = 0
          · rw [if_pos h0, if_pos (by omega)]
          · rw [if_neg h0, if_neg (by omega)]
        generalize hadr : (if y.length = 0 then 0 else 8 - y.length) = off at hfrom
        have HOFF : Hid (0 < y.length → off = 8 - y.length) := Lib.hid (fun h => by rw [← hadr, if_neg (by omega)])
        have HX1 := Lib.hid ho1
        have HY1 := Lib.hid ho2
        have hxl : (words x).length = x.length := by simp [words]
        have hyl : (words y).length = y.length := by simp [words]
        have HXL := Lib.hid hxl
        have HYL := Lib.hid hyl
        clear hadr ho1 ho2 hxl hyl HV
        have HSP := Lib.hid (splice_two x y hl8)
        have hG : (splice (splice (List.replicate 8 0) 0 x) (8 - y.length) y).length = 8 := by rw [HSP.out]; simp; omega
        have HG := Lib.hid hG
        have HGZ : Hid (∀ z ∈ splice (splice (List.replicate 8 0) 0 x) (8 - y.length) y, z ≤ 65535) := Lib.hid (fun z hz => by
          rw [HSP.out] at hz
          simp only [List.mem_append, List.mem_replicate] at hz
          rcases hz with (h | h) | h
          · exact X.out z h
          · omega
          · exact Y.out z h)
        have BY : Hid (∀ W, Calls Tryd.prog 36 #[.agg (arr (splice (splice (List.replicate 8 0) 0 x) (8 - y.length) y)), .int .i64 16] W fun e w' => e = .returned (.string (txt (ungrp (splice (splice (List.replicate 8 0) 0 x) (8 - y.length) y)))) ∧ Below W.heap.size W w') := Lib.hid (fun W => by
          have := bytes_any _ HG.out HGZ.out 16 8 rfl (by omega) W
          rwa [List.take_of_length_le (by rw [HG.out]; exact Nat.le_refl _)] at this)
        clear hG
        have hs1 : Hid (0 < (words x).length → ∃ ad, A = some ad ∧ ∀ w', Below w3.heap.size w3 w' → ∀ j v, (words x)[j]? = some v → w'.cell? (ad.add j) = some v) := Lib.hid (fun hp => by
          obtain ⟨g, e, hlt, hc⟩ := own_cells HX1.out hp
          exact ⟨⟨g, 0, none⟩, e, fun w' hb j v hj => by rw [add_plain, Nat.zero_add]; exact (hb.cell (p := ⟨g, j, none⟩) hlt).trans (hc j v hj)⟩)
        have hs2 : Hid (0 < (words y).length → ∃ ad, A' = some ad ∧ ∀ w', Below w3.heap.size w3 w' → ∀ j v, (words y)[j]? = some v → w'.cell? (ad.add j) = some v) := Lib.hid (fun hp => by
          obtain ⟨g, e, hlt, hc⟩ := own_cells HY1.out hp
          exact ⟨⟨g, 0, none⟩, e, fun w' hb j v hj => by rw [add_plain, Nat.zero_add]; exact (hb.cell (p := ⟨g, j, none⟩) hlt).trans (hc j v hj)⟩)
        have HG0 := Lib.hid hg0
        have HB0 := Lib.hid hb0
        have hx8 : x.length ≤ 8 := by omega
        have hy8 : y.length ≤ 8 := by omega
        have way : (c = true ∧ x.length + y.length ≤ 7) ∨ (c = false ∧ 8 - (x.length : Int) - (y.length : Int) = 0) := good.imp id (fun h => ⟨h.1, by omega⟩)
        clear good hg0 hb0
        rcases way with ⟨rfl, hl⟩ | ⟨rfl, hl⟩
        all_goals
          go_wp2_with (first
            | (refine wpList_copy_splice rfl (.tmp 56) (.tmp 57) 67 67 rfl 47 Tryd.underlying67 word_size _ _ 8 8 x.length cp rfl rfl w3.heap.size 0 (words (List.replicate 8 0)) 49 HG0.out (words x) (by rw [HXL.out]; exact (Nat.min_eq_left hx8).symm) (fun hp => ⟨rfl, let ⟨ad, e, k⟩ := hs1.out hp; ⟨ad, e, k _ HB0.out⟩⟩) (by rw [HXL.out, words_len]; simp; omega) (words_one x) w3.heap.size w3 HB0.out (Nat.le_refl _) ?_
               intro w4 hg4 hb4)
            | (refine wpList_copy_splice rfl (.tmp 62) (.tmp 63) 67 67 rfl 47 Tryd.underlying67 word_size _ _ y.length y.length y.length cp' rfl rfl w3.heap.size (8 - y.length) (splice (words (List.replicate 8 0)) 0 (words x)) 49 hg4.out (words y) (by rw [HYL.out]; exact (Nat.min_self _).symm) (fun hp => ⟨by rw [HOFF.out (by rw [← HYL.out]; exact hp)], let ⟨ad, e, k⟩ := hs2.out hp; ⟨ad, e, k _ hb4⟩⟩) (by rw [HYL.out, splice_words, words_len, length_splice _ _ _ (by simp; omega)]; simp; omega) (words_one y) w3.heap.size w3 hb4 (Nat.le_refl _) ?_
               intro w5 hg5 hb5
               have hg6 := hg5.out
               rw [splice_words, splice_words, ← arr_words] at hg6
               have HG6 := Lib.hid hg6
               clear hg6)
            | (refine wpList_load_row rfl _ _ rfl w3.heap.size rfl 49 (arr (splice (splice (List.replicate 8 0) 0 x) (8 - y.length) y)) (0, 0) _ HG6.out (Tryd.underlying49) rfl (by rw [arr_size, HG.out]; kernel_rfl) ?_))
          refine (BY.out _).mono ?_
          rintro e w6 ⟨rfl, hb6⟩
          have hN5 := hN3.trans (hb5.mono (by omega))
          have hN6 := hN5.trans (hb6.mono (by have := hb5.size; omega))
          clear hall hfrom
          go_wp2_with fail
          go_ret2
          exact ⟨.inl ⟨_, by rw [F.out, HSP.out], HGZ.out, HG.out, rfl⟩, hN6⟩
      · have F := Lib.hid (HV.out.trans (show sixG c x y = none from if_neg good))
        cases c with
        | true =>
          have hl : ¬ x.length + y.length ≤ 7 := by simpa using good
          clear good
          go_wp2_with fail
          go_ret2
          exact ⟨.inr ⟨F.out, rfl⟩, hN3.alloc (by omega) _⟩
        | false =>
          have hl : ¬ x.length + y.length = 8 := by simpa using good
          clear good
          go_wp2_with fail
          go_ret2
          exact ⟨.inr ⟨F.out, rfl⟩, hN3.alloc (by omega) _⟩
    · have F := Lib.hid (show sixV s.data.toList = none by unfold sixV; rw [HC.out]; simp only [hx, hy])
      clear hx hy
      obtain ⟨A, cp, rfl, hcp⟩ := own_slice ho1
      go_wp2_with fail
      go_ret2
      exact ⟨.inr ⟨F.out, rfl⟩, hN3.alloc (by omega) _⟩
  · have F := Lib.hid (show sixV s.data.toList = none by unfold sixV; rw [HC.out]; simp only [hx])
    clear hx
    go_wp2_with fail
    refine L2.out.mono ?_
    rintro e w3 ⟨he, hb3⟩
    have hN3 := hN2.trans (hb3.mono (by omega))
    have hz3 := hb3.size
    rcases he with ⟨y, u, hy, hy1, rfl, ho2⟩ | ⟨hy, rfl⟩
    · obtain ⟨A', cp', rfl, hcp'⟩ := own_slice ho2
      clear hy
      go_wp2_with fail
      go_ret2
      exact ⟨.inr ⟨F.out, rfl⟩, hN3.alloc (by omega) _⟩
    · clear hy
      go_wp2_with fail
      go_ret2
      exact ⟨.inr ⟨F.out, rfl⟩, hN3.alloc (by omega) _⟩

end Go.Proofs.YtggahoocgijdkaaDoor.Parse
