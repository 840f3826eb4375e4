/- Split's answers beside each other: plain. -/
import Derived.Test.YtibfdacgdffpiaaDoorSplM
set_option linter.unusedVariables false
namespace Go.Proofs.YtibfdacgdffpiaaDoor.SplN
open Go.RowKit Go.Proofs.YtibfdacgdffpiaaDoor.Sums Go.Proofs.YtibfdacgdffpiaaDoor.Mem Go.Proofs.YtibfdacgdffpiaaDoor.Blk Go.Proofs.YtibfdacgdffpiaaDoor.Pkt Go.Proofs.YtibfdacgdffpiaaDoor.Check Go.Proofs.YtibfdacgdffpiaaDoor.SplD Go.Proofs.YtibfdacgdffpiaaDoor.SplL Go.Proofs.YtibfdacgdffpiaaDoor.SplM

theorem piece_opt (p : Pkt) (lat : ByteArray) (l : List Int) (b k : Nat) : (piece p lat l (b, k)).1.opt.size = if b = 0 then p.opt.size else lat.size := by
  show (if b = 0 then p.opt else lat).size = _
  split <;> rfl
/-- Each piece of an answer. -/
theorem split_at {p : Pkt} {l : List Int} {mtu : Int} (h : (splitR p l mtu).1 = 0) {i : Nat} {x : Pkt × List Int} (hx : (splitR p l mtu).2[i]? = some x) :
    ∃ b k : Nat, b + k ≤ l.length ∧ x.2 = (l.drop b).take k ∧ x.2.length = k ∧ x.1.off = p.off + b ∧ 20 + (x.1.opt.size : Int) + k ≤ mtu ∧ Valid x.1 ∧ 20 + x.1.opt.size + k ≤ 65535 ∧ x.1.tos = p.tos ∧ x.1.id = p.id ∧ x.1.ttl = p.ttl ∧ x.1.proto = p.proto ∧ x.1.df = p.df ∧ x.1.src = p.src ∧ x.1.dst = p.dst ∧
      (i = 0 → b = 0 ∧ x.1.opt = p.opt) ∧
      ((i + 1 < (splitR p l mtu).2.length ∧ k % 8 = 0 ∧ 8 ≤ k ∧ x.1.mf = true ∧ ∃ y : Pkt × List Int, (splitR p l mtu).2[i + 1]? = some y ∧ y.1.off = p.off + ((b + k : Nat) : Int)) ∨ (i + 1 = (splitR p l mtu).2.length ∧ b + k = l.length ∧ x.1.mf = p.mf)) := by
  have ag := split_again h hx
  have az := split_zero (p := x.1) (l := x.2) (mtu := mtu) (by rw [ag])
  obtain ⟨hv, hn, hm, lat, l1, l4, e, off⟩ := split_zero h
  rw [e] at hx ⊢
  rw [List.getElem?_map] at hx
  obtain ⟨q, hq, rfl⟩ := Option.map_eq_some_iff.1 hx
  have hw := wide_of hv hm lat.size l1
  obtain ⟨b, k⟩ := q
  obtain ⟨h1, h2, h3, h5, _, h8, h6⟩ := cuts_each hw (l.length + 1) 0 (Nat.zero_le _) (by omega) i b k hq
  have hi := room_hi hw b
  have lo := room_lo hw b
  have zl : ((l.drop b).take k).length = k := by rw [List.length_take, List.length_drop]; omega
  have zo := piece_opt p lat l b k
  have zn : 20 + (piece p lat l (b, k)).1.opt.size + (piece p lat l (b, k)).2.length ≤ 65535 := az.2.1
  refine ⟨b, k, h2, rfl, zl, rfl, ?_, az.1, ?_, rfl, rfl, rfl, rfl, rfl, rfl, rfl, fun hi0 => ?_, ?_⟩
  · rw [zo]
    split at hi <;> rename_i hb <;> simp only [hb, if_true, if_false] <;> omega
  · rw [show (piece p lat l (b, k)).2.length = k from zl] at zn
    exact zn
  · have b0 := h5 hi0
    subst b0
    exact ⟨rfl, rfl⟩
  · rw [List.length_map]
    rcases h6 with ⟨p1, p2, p3, k', p4⟩ | ⟨p1, p2⟩
    · refine .inl ⟨p1, by omega, by omega, ?_, piece p lat l (b + k, k'), ?_, rfl⟩
      · show (p.mf || decide (b + k < l.length)) = true
        rw [decide_eq_true p3, Bool.or_true]
      · rw [List.getElem?_map, p4]
        rfl
    · refine .inr ⟨p1, p2, ?_⟩
      show (p.mf || decide (b + k < l.length)) = p.mf
      rw [decide_eq_false (by omega), Bool.or_false]
theorem split_some {p : Pkt} {l : List Int} {mtu : Int} (h : (splitR p l mtu).1 = 0) : 0 < (splitR p l mtu).2.length := by
  obtain ⟨hv, hn, hm, lat, l1, l4, e, off⟩ := split_zero h
  rw [e, List.length_map]
  exact cuts_some _ _ (Nat.succ_pos _)
/-- With a greater number. -/
theorem split_more {p : Pkt} {l : List Int} {m m' : Int} (h : (splitR p l m).1 = 0) (hm : m ≤ m') (hl : l.length ≤ 3000) : ((splitR p l m').1 = 0 ∧ (splitR p l m').2.length ≤ (splitR p l m).2.length) ∨ ((splitR p l m').1 = 2 ∧ 60000 < p.off) := by
  have hs := split_some h
  obtain ⟨hv, hn, h68, -⟩ := split_zero h
  have c0 := chk_ok hv hn
  have c1 : ¬ p.chk l.length ≠ 0 := fun z => z c0
  have m1 : ¬ m < 68 := by omega
  have m2 : ¬ m' < 68 := by omega
  unfold splitR at h hs ⊢
  simp only [if_neg c1, if_neg m1, if_neg m2] at h hs ⊢
  by_cases f' : 20 + (p.opt.size : Int) + l.length ≤ m'
  · rw [if_pos f']
    exact .inl ⟨rfl, hs⟩
  · have f : ¬ 20 + (p.opt.size : Int) + l.length ≤ m := by omega
    rw [if_neg f] at h hs ⊢
    rw [if_neg f']
    by_cases d : p.df = true
    · rw [if_pos d] at h
      cases h
    · rw [if_neg d] at h hs ⊢
      rw [if_neg d]
      cases hL : laterL p.opt with
      | none => rw [hL] at h; cases h
      | some t =>
        obtain ⟨t1, t2, _⟩ := later_small hL hv.z4
        have hw := wide_of hv h68 t.length t1
        have hw' := wide_of hv (show 68 ≤ m' by omega) t.length t1
        rw [hL] at h hs
        simp only at h hs ⊢
        by_cases y : (cuts m.toNat p.opt.size t.length l.length (l.length + 1) 0).any (fun q => decide (65528 < p.off + q.1)) = true
        · rw [if_pos y] at h
          cases h
        · rw [if_neg y] at hs ⊢
          by_cases y' : (cuts m'.toNat p.opt.size t.length l.length (l.length + 1) 0).any (fun q => decide (65528 < p.off + q.1)) = true
          · rw [if_pos y']
            refine .inr ⟨rfl, ?_⟩
            obtain ⟨q, hq, hq'⟩ := List.any_eq_true.1 y'
            obtain ⟨i, hi⟩ := List.mem_iff_getElem?.1 hq
            have := (cuts_each hw' (l.length + 1) 0 (Nat.zero_le _) (by omega) i q.1 q.2 hi).2.1
            have := of_decide_eq_true hq'
            omega
          · rw [if_neg y']
            refine .inl ⟨rfl, ?_⟩
            show (List.map _ _).length ≤ (List.map _ _).length
            rw [List.length_map, List.length_map]
            exact cuts_fewer t1 hw (by omega) _ _ 0 0 (Nat.le_refl _) (Nat.zero_le _) (by omega) (by omega)
/-- .. of one that is refused. -/
theorem split_bad {p : Pkt} {l : List Int} {m m' : Int} (h : (splitR p l m).1 ≠ 0) (hm : m ≤ m') : (splitR p l m').1 = (splitR p l m).1 ∨ (splitR p l m').1 = 0 ∨ m < 68 := by
  unfold splitR at h ⊢
  by_cases c : p.chk l.length ≠ 0
  · rw [if_pos c, if_pos c]
    exact .inl rfl
  · rw [if_neg c] at h ⊢
    rw [if_neg c]
    by_cases m68 : m < 68
    · exact .inr (.inr m68)
    · rw [if_neg m68] at h ⊢
      rw [if_neg (by omega)]
      by_cases f' : 20 + (p.opt.size : Int) + l.length ≤ m'
      · rw [if_pos f']
        exact .inr (.inl rfl)
      · have f : ¬ 20 + (p.opt.size : Int) + l.length ≤ m := by omega
        rw [if_neg f] at h ⊢
        rw [if_neg f']
        by_cases d : p.df = true
        · rw [if_pos d, if_pos d]
          exact .inl rfl
        · rw [if_neg d] at h ⊢
          rw [if_neg d]
          cases hL : laterL p.opt with
          | none => exact .inl rfl
          | some t =>
            rw [hL] at h
            simp only at h ⊢
            split at h
            · rename_i y
              rw [if_pos y]
              split
              · exact .inl rfl
              · exact .inr (.inl rfl)
            · exact absurd rfl h
theorem split_none {p : Pkt} {l : List Int} {mtu : Int} (h : (splitR p l mtu).1 ≠ 0) : (splitR p l mtu).2 = [] := by
  unfold splitR at h ⊢
  split
  · rfl
  · rename_i c
    rw [if_neg c] at h
    split
    · rfl
    · rename_i m
      rw [if_neg m] at h
      split
      · rename_i f
        rw [if_pos f] at h
        exact absurd rfl h
      · rename_i f
        rw [if_neg f] at h
        split
        · rfl
        · rename_i d
          rw [if_neg d] at h
          cases hL : laterL p.opt with
          | none => rfl
          | some t =>
            rw [hL] at h
            simp only at h ⊢
            split at h
            · rename_i y
              rw [if_pos y]
            · exact absurd rfl h
end Go.Proofs.YtibfdacgdffpiaaDoor.SplN
