/- The reference's Parse and the program's say the same: plain lists; then the call. -/
import Derived.Test.YtggahoocgijdkaaDoorRefGap
set_option linter.unusedVariables false
namespace Go.Proofs.YtggahoocgijdkaaDoor.RefSame
open Go.RowKit Go.Proofs.YtggahoocgijdkaaDoor.Std Go.Proofs.YtggahoocgijdkaaDoor.Grp Go.Proofs.YtggahoocgijdkaaDoor.Hex Go.Proofs.YtggahoocgijdkaaDoor.Pub Go.Proofs.YtggahoocgijdkaaDoor.Split Go.Proofs.YtggahoocgijdkaaDoor.List6 Go.Proofs.YtggahoocgijdkaaDoor.Parse4 Go.Proofs.YtggahoocgijdkaaDoor.Parse Go.Proofs.YtggahoocgijdkaaDoor.Top Go.Proofs.YtggahoocgijdkaaDoor.Back Go.Proofs.YtggahoocgijdkaaDoor.Awake Go.Proofs.YtggahoocgijdkaaDoor.RefNum Go.Proofs.YtggahoocgijdkaaDoor.RefParts Go.Proofs.YtggahoocgijdkaaDoor.RefParse Go.Proofs.YtggahoocgijdkaaDoor.RefGap
open Go.Lib (index indexByte)

theorem parts_mem (c : UInt8) : ∀ (l : List UInt8) (d : UInt8), d ∈ l → d = c ∨ ∃ p ∈ parts c l, d ∈ p
  | [], _, h => by cases h
  | x :: r, d, h => by
    unfold parts
    by_cases hx : x = c
    · rw [if_pos hx]
      rcases List.mem_cons.1 h with e | e
      · exact .inl (e.trans hx)
      · rcases parts_mem c r d e with k | ⟨p, hp, hd⟩
        · exact .inl k
        · exact .inr ⟨p, List.mem_cons_of_mem _ hp, hd⟩
    · rw [if_neg hx]
      have ih := parts_mem c r d
      cases hq : parts c r with
      | nil => exact absurd hq (parts_ne c r)
      | cons q qs =>
        rw [hq] at ih
        simp only
        rcases List.mem_cons.1 h with e | e
        · exact .inr ⟨x :: q, by simp, by simp [e]⟩
        · rcases ih e with k | ⟨p, hp, hd⟩
          · exact .inl k
          · rcases List.mem_cons.1 hp with k | k
            · subst k; exact .inr ⟨x :: p, by simp, by simp [hd]⟩
            · exact .inr ⟨p, by simp [k], hd⟩
theorem parts_sum (c : UInt8) (m : Nat) : ∀ (l : List UInt8), (∀ p ∈ parts c l, p.length ≤ m) → l.length + 1 ≤ (m + 1) * (parts c l).length
  | [], h => by simp [parts]
  | x :: r, h => by
    unfold parts at h ⊢
    by_cases hx : x = c
    · rw [if_pos hx] at h ⊢
      have ih := parts_sum c m r fun p hp => h p (List.mem_cons_of_mem _ hp)
      simp only [List.length_cons, Nat.mul_add, Nat.mul_one] at ih ⊢
      omega
    · rw [if_neg hx] at h ⊢
      exact parts_room c m x r h
where
  parts_room (c : UInt8) (m : Nat) (x : UInt8) (r : List UInt8) (h : ∀ p ∈ (match parts c r with | [] => [[x]] | p :: ps => (x :: p) :: ps), p.length ≤ m) :
      (x :: r).length + 1 ≤ (m + 1) * (match parts c r with | [] => [[x]] | p :: ps => (x :: p) :: ps).length := by
    have key : ∀ (r : List UInt8) (k : Nat), (∀ p q, parts c r = p :: q → p.length + k ≤ m ∧ ∀ z ∈ q, z.length ≤ m) → r.length + k + 1 ≤ (m + 1) * (parts c r).length := by
      intro r
      induction r with
      | nil =>
        intro k hk
        have := (hk [] [] rfl).1
        simp [parts] at this ⊢
        omega
      | cons y r ih =>
        intro k hk
        unfold parts at hk ⊢
        by_cases hy : y = c
        · rw [if_pos hy] at hk ⊢
          have h1 := hk [] (parts c r) rfl
          have h2 := ih 0 (fun p q e => ⟨by have := h1.2 p (by rw [e]; simp); omega, fun z hz => h1.2 z (by rw [e]; simp [hz])⟩)
          simp only [List.length_cons, List.length_nil, Nat.mul_add, Nat.mul_one] at h1 h2 ⊢
          omega
        · rw [if_neg hy] at hk ⊢
          cases hq : parts c r with
          | nil => exact absurd hq (parts_ne c r)
          | cons q qs =>
            rw [hq] at hk
            have h1 := hk (y :: q) qs rfl
            have h2 := ih (k + 1) (fun p q' e => by
              rw [hq] at e
              injection e with e1 e2
              subst e1 e2
              simp only [List.length_cons] at h1
              exact ⟨by omega, h1.2⟩)
            rw [hq] at h2
            simp only [List.length_cons] at h2 ⊢
            omega
    cases hq : parts c r with
    | nil => exact absurd hq (parts_ne c r)
    | cons q qs =>
      rw [hq] at h
      have h2 := key r 1 (fun p q' e => by
        rw [hq] at e
        injection e with e1 e2
        subst e1 e2
        have := h (x :: q) (by simp)
        simp only [List.length_cons] at this
        exact ⟨by omega, fun z hz => h z (by simp [hz])⟩)
      rw [hq] at h2
      simp only [List.length_cons] at h2 ⊢
      omega

theorem hexP_chars : ∀ (l : List UInt8) (m x : Nat), hexP m l = some x → ∀ c ∈ l, c ≠ 46 ∧ c ≠ 58
  | [], _, _, _, _, h => by cases h
  | c :: r, m, x, e, d, hd => by
    unfold hexP at e
    split at e
    · cases e
    · rename_i v hv
      split at e
      · cases e
      · rcases List.mem_cons.1 hd with k | k
        · subst k
          constructor
          · rintro rfl
            rw [show dv 46 = none by decide] at hv; cases hv
          · rintro rfl
            rw [show dv 58 = none by decide] at hv; cases hv
        · exact hexP_chars r _ x e d k
theorem grpV_facts {p : List UInt8} {x : Nat} (h : grpV p = some x) : p.length ≤ 4 ∧ ∀ c ∈ p, c ≠ 46 ∧ c ≠ 58 := by
  unfold grpV hexV at h
  split at h
  · cases h
  · split at h
    · cases h
    · exact ⟨by omega, hexP_chars _ _ _ h⟩
theorem listP_all : ∀ (ps : List (List UInt8)) (acc g : List Nat), listP acc ps = some g → ∀ p ∈ ps, p.length ≤ 4 ∧ ∀ c ∈ p, c ≠ 46 ∧ c ≠ 58
  | [], _, _, _, _, h => by cases h
  | q :: r, acc, g, e, p, hp => by
    unfold listP at e
    split at e
    · cases e
    · rename_i x hx
      rcases List.mem_cons.1 hp with k | k
      · subst k; exact grpV_facts hx
      · exact listP_all r _ g e p k
theorem listV_facts {l : List UInt8} {g : List Nat} (h : listV l = some g) : (46 : UInt8) ∉ l ∧ l.length ≤ 5 * g.length ∧ (l ≠ [] → l.length + 1 ≤ 5 * g.length ∧ g.length = (parts 58 l).length) := by
  unfold listV at h
  split at h
  · rename_i hl
    subst hl
    exact ⟨by simp, by simp, fun h => absurd rfl h⟩
  · have ha := listP_all _ _ _ h
    have hl := listP_len _ _ _ h
    have hs := parts_sum 58 4 l fun p hp => (ha p hp).1
    simp only [List.length_nil, Nat.zero_add] at hl
    refine ⟨fun hm => ?_, by omega, fun _ => ⟨by omega, hl⟩⟩
    rcases parts_mem 58 l 46 hm with k | ⟨p, hp, hd⟩
    · exact absurd k (by decide)
    · exact ((ha p hp).2 46 hd).1 rfl
theorem numP_chars : ∀ (l : List UInt8) (m x : Nat), numP m l = some x → (58 : UInt8) ∉ l
  | [], _, _, _ => by simp
  | c :: r, m, x, e => by
    unfold numP at e
    split at e
    · rename_i hc
      intro h
      rcases List.mem_cons.1 h with k | k
      · subst k; exact absurd hc.2 (by decide)
      · exact numP_chars r _ x e k
    · cases e
theorem tenV_facts {p : List UInt8} {x : Nat} (h : tenV p = some x) : p.length ≤ 3 ∧ (58 : UInt8) ∉ p := by
  constructor
  · by_cases k : 3 < p.length
    · rw [tenV_long k] at h; cases h
    · omega
  · unfold tenV at h
    split at h
    · cases h
    · by_cases hp : p = []
      · subst hp; simp
      · rw [decV_num p hp] at h
        cases hn : numP 0 p with
        | none => rw [hn] at h; cases h
        | some v => exact numP_chars p 0 v hn
theorem tenP_all : ∀ (ps : List (List UInt8)) (acc g : List Nat), tenP acc ps = some g → g.length = acc.length + ps.length ∧ ∀ p ∈ ps, p.length ≤ 3 ∧ (58 : UInt8) ∉ p
  | [], acc, g, e => by
    simp [tenP] at e
    subst e
    exact ⟨by simp, fun _ h => by cases h⟩
  | q :: r, acc, g, e => by
    unfold tenP at e
    split at e
    · cases e
    · rename_i x hx
      obtain ⟨h1, h2⟩ := tenP_all r _ g e
      refine ⟨by simp only [List.length_append, List.length_cons, List.length_nil] at h1 ⊢; omega, fun p hp => ?_⟩
      rcases List.mem_cons.1 hp with k | k
      · subst k; exact tenV_facts hx
      · exact h2 p k
theorem index_mem : ∀ (l : List UInt8), 0 ≤ index l [58, 58] → (58 : UInt8) ∈ l
  | [], h => by simp [index] at h
  | x :: r, h => by
    rw [index_two] at h
    split at h
    · rename_i hc
      simp [hc.1]
    · split at h
      · omega
      · rename_i hne
        have h1 := Lib.index_ge r [58, 58]
        exact List.mem_cons_of_mem _ (index_mem r (by simp at hne; omega))
theorem mem_of_byte {l : List UInt8} {c : UInt8} (h : 0 ≤ indexByte l c) : c ∈ l := by
  by_cases k : c ∈ l
  · exact k
  · rw [byte_none k] at h; omega
theorem ungrp_zeros : ∀ n : Nat, ungrp (List.replicate n 0) = List.replicate (2 * n) 0
  | 0 => rfl
  | n + 1 => by
    rw [List.replicate_succ, ungrp, ungrp_zeros n, show 2 * (n + 1) = 2 * n + 1 + 1 by omega, List.replicate_succ, List.replicate_succ]

theorem same_four (l : List UInt8) (h4 : (parts 46 l).length = 4) : tenP [] (parts 46 l) = parseV l := by
  have hdot : (46 : UInt8) ∈ l := by
    by_cases k : (46 : UInt8) ∈ l
    · exact k
    · rw [parts_none k] at h4; simp at h4
  cases ht : tenP [] (parts 46 l) with
  | some g =>
    obtain ⟨hg, ha⟩ := tenP_all _ _ _ ht
    have hs := parts_sum 46 3 l fun p hp => (ha p hp).1
    have hno : (58 : UInt8) ∉ l := fun hm => by
      rcases parts_mem 46 l 58 hm with k | ⟨p, hp, hd⟩
      · exact absurd k (by decide)
      · exact (ha p hp).2 hd
    rw [h4] at hg hs
    unfold parseV
    rw [if_neg (by omega), byte_none hno, if_neg (by decide), ht]
    unfold four
    simp only
    rw [if_pos (by simpa using hg)]
  | none =>
    unfold parseV
    split
    · rfl
    · split
      · have : sixV l = none := by
          unfold sixV
          cases h1 : listV (Lib.cut l [58, 58]).1 with
          | none => rfl
          | some x =>
            cases h2 : listV (Lib.cut l [58, 58]).2.1 with
            | none => rfl
            | some y =>
              exfalso
              have n1 := (listV_facts h1).1
              have n2 := (listV_facts h2).1
              unfold Lib.cut at n1 n2
              split at n1
              · rename_i hi
                rw [if_pos hi] at n2
                simp only at n1 n2
                have hr := index_room l hi
                obtain ⟨i, hi'⟩ : ∃ i : Nat, index l [58, 58] = i := ⟨(index l [58, 58]).toNat, by omega⟩
                rw [hi'] at n1 n2 hi hr
                simp only [Int.toNat_natCast, List.length_cons, List.length_nil] at n1 n2
                -- the dot stands at i or i + 1, or in one of the two
                have hsplit : l = l.take i ++ (l.drop i).take 2 ++ l.drop (i + 2) := by
                  rw [List.append_assoc, ← List.drop_drop, List.take_append_drop, List.take_append_drop]
                have hmid : (l.drop i).take 2 = [58, 58] := occ_mid l i hi'
                rw [hsplit, hmid] at hdot
                rcases List.mem_append.1 hdot with k | k
                · rcases List.mem_append.1 k with k | k
                  · exact n1 k
                  · simp at k
                · exact n2 k
              · exact n1 hdot
        rw [this]; rfl
      · rw [ht]; rfl
where
  occ_mid : ∀ (l : List UInt8) (i : Nat), index l [58, 58] = i → (l.drop i).take 2 = [58, 58]
    | [], i, h => by simp [index] at h
    | x :: r, i, h => by
      rw [index_two] at h
      split at h
      · rename_i hc
        obtain rfl : i = 0 := by omega
        cases r with
        | nil => simp at hc
        | cons y r => simp at hc; simp [hc.1, hc.2]
      · split at h
        · omega
        · obtain ⟨k, rfl⟩ : ∃ k, i = k + 1 := ⟨i - 1, by have := Lib.index_ge r [58, 58]; rename_i hne; simp at hne; omega⟩
          rw [List.drop_succ_cons]
          exact occ_mid r k (by omega)

theorem same_no (l : List UInt8) (h4 : (parts 46 l).length ≠ 4) (hg : index l [58, 58] < 0) : sixB (listV l) = parseV l := by
  have hc : Lib.cut l [58, 58] = (l, [], false) := by unfold Lib.cut; rw [if_neg (by omega)]
  unfold parseV
  split
  · rename_i hl
    cases hv : listV l with
    | none => rfl
    | some g =>
      have := (listV_facts hv).2.2 (fun e => by subst e; simp at hl)
      unfold sixB
      simp only
      rw [if_neg (by omega)]
  · split
    · unfold sixV
      rw [hc]
      simp only
      rw [show listV [] = some [] from rfl]
      cases hv : listV l with
      | none => rfl
      | some g =>
        simp only [sixB, sixG, List.length_nil]
        by_cases h8 : g.length = 8
        · rw [if_pos h8, if_pos (.inr ⟨trivial, by omega⟩), h8]
          simp
        · rw [if_neg h8, if_neg (by rintro (⟨k, _⟩ | ⟨_, k⟩) <;> first | omega | (simp at k))]; rfl
    · rename_i hb
      have hno : (58 : UInt8) ∉ l := fun hm => hb (byte_some hm)
      have e1 : sixB (listV l) = none := by
        cases hv : listV l with
        | none => rfl
        | some g =>
          unfold sixB
          simp only
          by_cases hl : l = []
          · subst hl
            have : g = [] := by injection hv with e; exact e.symm
            subst this
            rfl
          · have := ((listV_facts hv).2.2 hl).2
            rw [parts_none hno] at this
            rw [if_neg (by simp at this; omega)]
      rw [e1]
      unfold four
      cases ht : tenP [] (parts 46 l) with
      | none => rfl
      | some g =>
        have := (tenP_all _ _ _ ht).1
        simp only
        rw [if_neg (by simp at this; omega)]

theorem same_gap (l : List UInt8) (i : Nat) (hg : index l [58, 58] = i) : gapB (listV (l.take i)) (listV (l.drop (i + 2))) = parseV l := by
  have hr := index_room l (by omega)
  have hc : Lib.cut l [58, 58] = (l.take i, l.drop (i + 2), true) := by unfold Lib.cut; rw [hg, if_pos (by omega)]; rfl
  have hm := byte_some (index_mem l (by omega))
  have e : (sixV l).map ungrp = gapB (listV (l.take i)) (listV (l.drop (i + 2))) := by
    unfold sixV
    rw [hc]
    simp only
    cases listV (l.take i) with
    | none => rfl
    | some h =>
      cases listV (l.drop (i + 2)) with
      | none => rfl
      | some t =>
        simp only [gapB, sixG]
        by_cases h7 : h.length + t.length ≤ 7
        · rw [if_pos h7, if_pos (.inl ⟨trivial, h7⟩)]
          simp only [Option.map_some]
          rw [ungrp_append, ungrp_append, ungrp_zeros, show 2 * (8 - h.length - t.length) = 16 - 2 * h.length - 2 * t.length by omega]
        · rw [if_neg h7, if_neg (by rintro (⟨_, k⟩ | ⟨k, _⟩) <;> first | omega | cases k)]
          rfl
  unfold parseV
  split
  · rename_i hl
    cases h1 : listV (l.take i) with
    | none => rfl
    | some h =>
      cases h2 : listV (l.drop (i + 2)) with
      | none => rfl
      | some t =>
        have f1 := (listV_facts h1).2.1
        have f2 := (listV_facts h2).2.1
        rw [List.length_take] at f1
        rw [List.length_drop] at f2
        simp only [gapB]
        rw [if_neg (by omega)]
  · exact e.symm

theorem ref_any (s : ByteArray) (hs : s.size ≤ 300) (w : World) :
    Calls Tryd.prog 10 #[.string s] w fun e w' => e = got (parseV s.data.toList) ∧ Below w.heap.size w w' := by
  by_cases h4 : (parts 46 s.data.toList).length = 4
  · rw [← same_four _ h4]
    exact ref_four s hs w h4
  · by_cases hg : index s.data.toList [58, 58] < 0
    · rw [← same_no _ h4 hg]
      exact ref_no s hs w h4 hg
    · obtain ⟨i, hi⟩ : ∃ i : Nat, index s.data.toList [58, 58] = i := ⟨(index s.data.toList [58, 58]).toNat, by omega⟩
      have hr := index_room s.data.toList (by omega)
      rw [Array.length_toList] at hr
      rw [← same_gap _ i hi]
      exact ref_gap s hs w h4 i (by have : s.size = s.data.size := rfl; omega) hi

end Go.Proofs.YtggahoocgijdkaaDoor.RefSame
