/- What is printed is read back: plain lists. -/
import Derived.Test.YtggahoocgijdkaaDoorTop
import Derived.Test.YtggahoocgijdkaaDoorPrint
import Derived.Test.YtggahoocgijdkaaDoorMasks
set_option linter.unusedVariables false
namespace Go.Proofs.YtggahoocgijdkaaDoor.Back
open Go.Proofs.YtggahoocgijdkaaDoor.Grp Go.Proofs.YtggahoocgijdkaaDoor.Arr Go.Proofs.YtggahoocgijdkaaDoor.Hex Go.Proofs.YtggahoocgijdkaaDoor.Fmt Go.Proofs.YtggahoocgijdkaaDoor.Pub Go.Proofs.YtggahoocgijdkaaDoor.Split Go.Proofs.YtggahoocgijdkaaDoor.List6 Go.Proofs.YtggahoocgijdkaaDoor.Digits Go.Proofs.YtggahoocgijdkaaDoor.Run Go.Proofs.YtggahoocgijdkaaDoor.Mask Go.Proofs.YtggahoocgijdkaaDoor.Parse4 Go.Proofs.YtggahoocgijdkaaDoor.Parse Go.Proofs.YtggahoocgijdkaaDoor.Top Go.Proofs.YtggahoocgijdkaaDoor.Print
open Go.Lib (index indexByte)

theorem join_two (x y : List UInt8) (r : List (List UInt8)) (c : UInt8) : Lib.join (x :: y :: r) [c] = x ++ c :: Lib.join (y :: r) [c] := by
  rw [Lib.join_cons, Lib.join_cons]
  simp [Lib.joinTail]
theorem parts_join (c : UInt8) : ∀ (l : List (List UInt8)), l ≠ [] → (∀ p ∈ l, c ∉ p) → parts c (Lib.join l [c]) = l
  | [], h, _ => absurd rfl h
  | [x], _, h => by rw [Lib.join_one, parts_none (h x (by simp))]
  | x :: y :: r, _, h => by
    rw [join_two, parts_hit _ (h x (by simp)), parts_join c (y :: r) (by simp) fun p hp => h p (by simp only [List.mem_cons] at hp ⊢; exact .inr hp)]
theorem byte_none : ∀ {l : List UInt8} {c : UInt8}, c ∉ l → indexByte l c = -1
  | [], _, _ => rfl
  | b :: l, c, h => by
    have hb : (b == c) = false := by rw [beq_eq_false_iff_ne]; exact fun e => h (by simp [e])
    unfold indexByte
    rw [hb, byte_none (l := l) fun e => h (List.mem_cons_of_mem _ e)]
    rfl
theorem byte_some : ∀ {l : List UInt8} {c : UInt8}, c ∈ l → 0 ≤ indexByte l c
  | [], _, h => by cases h
  | b :: l, c, h => by
    unfold indexByte
    by_cases hb : b = c
    · subst hb; simp
    · have hl : c ∈ l := by
        rcases List.mem_cons.1 h with e | e
        · exact absurd e.symm hb
        · exact e
      have := byte_some hl
      rw [if_neg (by simpa using hb), if_neg (by simp; omega)]
      omega

/- Four bytes. -/
theorem dec_all : ((List.range 256).all fun x => decide (tenV (Lib.decDigits x) = some x) && (Lib.decDigits x).all (fun c => decide (c ≠ 46) && decide (c ≠ 58)) && decide ((Lib.decDigits x).length ≤ 3) && decide (0 < (Lib.decDigits x).length)) = true := by decide +kernel
theorem dec_facts (x : Nat) (h : x ≤ 255) : tenV (Lib.decDigits x) = some x ∧ (∀ c ∈ Lib.decDigits x, c ≠ 46 ∧ c ≠ 58) ∧ (Lib.decDigits x).length ≤ 3 ∧ 0 < (Lib.decDigits x).length := by
  have := List.all_eq_true.1 dec_all x (List.mem_range.2 (by omega))
  simpa [and_assoc] using this
theorem tenP_map : ∀ (l acc : List Nat), (∀ z ∈ l, z ≤ 255) → tenP acc (l.map Lib.decDigits) = some (acc ++ l)
  | [], acc, _ => by simp [tenP]
  | x :: r, acc, h => by
    rw [List.map_cons, tenP_on (dec_facts x (h x (by simp))).1, tenP_map r _ fun z hz => h z (by simp [hz])]
    simp
theorem back_four (l : List Nat) (hl : l.length = 4) (hz : ∀ z ∈ l, z ≤ 255) : parseV (fourT l) = some l ∧ 0 < (fourT l).length := by
  have hj : parts 46 (fourT l) = l.map Lib.decDigits := by
    refine parts_join 46 _ (by intro e; rw [List.map_eq_nil_iff] at e; subst e; simp at hl) fun p hp => ?_
    obtain ⟨x, hx, rfl⟩ := List.mem_map.1 hp
    exact fun e => ((dec_facts x (hz x hx)).2.1 46 e).1 rfl
  obtain ⟨a, b, c, d, rfl⟩ : ∃ a b c d, l = [a, b, c, d] := by
    match l, hl with
    | [a, b, c, d], _ => exact ⟨a, b, c, d, rfl⟩
  have fa := dec_facts a (hz a (by simp))
  have fb := dec_facts b (hz b (by simp))
  have fc := dec_facts c (hz c (by simp))
  have fd := dec_facts d (hz d (by simp))
  have e : fourT [a, b, c, d] = Lib.decDigits a ++ 46 :: (Lib.decDigits b ++ 46 :: (Lib.decDigits c ++ 46 :: Lib.decDigits d)) := by
    unfold fourT
    simp only [List.map_cons, List.map_nil]
    rw [join_two, join_two, join_two, Lib.join_one]
  have hno : (58 : UInt8) ∉ fourT [a, b, c, d] := by
    rw [e]
    simp only [List.mem_append, List.mem_cons, not_or]
    exact ⟨fun h => (fa.2.1 _ h).2 rfl, by decide, fun h => (fb.2.1 _ h).2 rfl, by decide, fun h => (fc.2.1 _ h).2 rfl, by decide, fun h => (fd.2.1 _ h).2 rfl⟩
  have hlen : (fourT [a, b, c, d]).length = (Lib.decDigits a).length + (Lib.decDigits b).length + (Lib.decDigits c).length + (Lib.decDigits d).length + 3 := by
    rw [e]
    simp only [List.length_append, List.length_cons]
    omega
  constructor
  · unfold parseV
    rw [if_neg (by omega), byte_none hno, if_neg (by decide), hj, tenP_map _ _ hz]
    rfl
  · omega

/- Sixteen bytes. -/
theorem dv_hd : ∀ d : Fin 16, dv (UInt8.ofNat (hd d.val)) = some d.val := by decide
theorem hexP_app : ∀ (l r : List UInt8) (m k : Nat), hexP m l = some k → hexP m (l ++ r) = hexP k r
  | [], r, m, k, h => by simp [hexP] at h; subst h; rfl
  | c :: l, r, m, k, h => by
    simp only [List.cons_append, hexP] at h ⊢
    cases hd : dv c with
    | none => rw [hd] at h; cases h
    | some d =>
      rw [hd] at h
      simp only at h ⊢
      split at h
      · cases h
      · rename_i g
        rw [if_neg g]
        exact hexP_app l r _ k h
theorem hexP_hexs (n : Nat) (h : n ≤ 65535) : hexP 0 (hexs n) = some n := by
  induction n using hexN.induct with
  | case1 n hn =>
    unfold hexs
    rw [hexN_small hn]
    simp only [List.map_cons, List.map_nil, hexP, dv_hd ⟨n, hn⟩]
    rw [if_neg (by omega)]
    simp
  | case2 n hn ih =>
    unfold hexs at ih ⊢
    rw [hexN_step (by omega), List.map_append, hexP_app _ _ _ _ (ih (by omega))]
    simp only [List.map_cons, List.map_nil, hexP, dv_hd ⟨n % 16, by omega⟩]
    rw [if_neg (by omega)]
    simp only [Option.some.injEq]
    omega
theorem hexs_ne (n : Nat) : hexs n ≠ [] := by
  unfold hexs
  rw [hexN]
  split <;> simp
theorem hd_no : ∀ d : Fin 16, UInt8.ofNat (hd d.val) ≠ 58 := by decide
theorem hexs_no (n : Nat) : (58 : UInt8) ∉ hexs n := by
  induction n using hexN.induct with
  | case1 n hn =>
    unfold hexs
    rw [hexN_small hn]
    intro h
    simp only [List.map_cons, List.map_nil, List.mem_singleton] at h
    exact hd_no ⟨n, hn⟩ h.symm
  | case2 n hn ih =>
    unfold hexs at ih ⊢
    rw [hexN_step (by omega), List.map_append]
    intro h
    rcases List.mem_append.1 h with h | h
    · exact ih h
    · simp only [List.map_cons, List.map_nil, List.mem_singleton] at h
      exact hd_no ⟨n % 16, by omega⟩ h.symm
theorem grpV_hexs (n : Nat) (h : n ≤ 65535) : grpV (hexs n) = some n := by
  unfold grpV hexV
  rw [if_neg (by have := hexs_len n h; omega), if_neg (hexs_ne n), hexP_hexs n h]
theorem listP_map : ∀ (l acc : List Nat), (∀ z ∈ l, z ≤ 65535) → listP acc (l.map hexs) = some (acc ++ l)
  | [], acc, _ => by simp [listP]
  | x :: r, acc, h => by
    rw [List.map_cons, listP_on (grpV_hexs x (h x (by simp))), listP_map r _ fun z hz => h z (by simp [hz])]
    simp
theorem digs_two (x y : Nat) (r : List Nat) : digs (x :: y :: r) = hexs x ++ 58 :: digs (y :: r) := by
  unfold digs
  simp only [List.map_cons]
  exact join_two _ _ _ _
theorem digs_one (x : Nat) : digs [x] = hexs x := Lib.join_one _ _
theorem digs_ne : ∀ (l : List Nat), l ≠ [] → digs l ≠ []
  | [], h => absurd rfl h
  | [x], _ => by rw [digs_one]; exact hexs_ne x
  | x :: y :: r, _ => by rw [digs_two]; simp
theorem listV_digs (l : List Nat) (hz : ∀ z ∈ l, z ≤ 65535) : listV (digs l) = some l := by
  unfold listV
  by_cases h : l = []
  · subst h; rfl
  · rw [if_neg (digs_ne l h)]
    have : parts 58 (digs l) = l.map hexs := parts_join 58 _ (by simpa using h) fun p hp => by
      obtain ⟨x, _, rfl⟩ := List.mem_map.1 hp
      exact hexs_no x
    rw [this, listP_map l [] hz]
    rfl

/-- No two colons side by side, none at the end. -/
def Fine : List UInt8 → Prop
  | [] => True
  | [x] => x ≠ 58
  | x :: y :: r => ¬ (x = 58 ∧ y = 58) ∧ Fine (y :: r)
theorem index_two (x : UInt8) (r : List UInt8) : index (x :: r) [58, 58] = if x = 58 ∧ r.head? = some 58 then 0 else if index r [58, 58] == -1 then -1 else index r [58, 58] + 1 := by
  rw [index]
  cases r with
  | nil => simp [List.isPrefixOf]
  | cons y r =>
    congr 1
    simp only [List.isPrefixOf, Bool.and_true, Bool.and_eq_true, beq_iff_eq, List.head?_cons, Option.some.injEq, eq_iff_iff]
    constructor
    · rintro ⟨a, b⟩; exact ⟨a.symm, b.symm⟩
    · rintro ⟨a, b⟩; exact ⟨a.symm, b.symm⟩
theorem fine_none : ∀ (l : List UInt8), Fine l → index l [58, 58] = -1
  | [], _ => rfl
  | [x], h => by rw [index_two, if_neg (by simp)]; rfl
  | x :: y :: r, h => by
    rw [index_two, if_neg (by simpa using h.1), fine_none (y :: r) h.2]
    rfl
theorem fine_hit : ∀ (l r : List UInt8), Fine l → index (l ++ 58 :: 58 :: r) [58, 58] = l.length
  | [], r, _ => by rw [List.nil_append, index_two, if_pos (by simp)]; rfl
  | [x], r, h => by
    have ih := fine_hit [] r trivial
    rw [List.nil_append] at ih
    rw [List.cons_append, List.nil_append, index_two, if_neg (fun e => h e.1), ih]
    rfl
  | x :: y :: l, r, h => by
    have ih := fine_hit (y :: l) r h.2
    rw [List.cons_append, index_two, if_neg (by simpa using h.1), ih, if_neg (by simp; omega)]
    simp
theorem fine_word : ∀ (x m : List UInt8), (58 : UInt8) ∉ x → Fine m → m.head? ≠ some 58 → Fine (x ++ m)
  | [], m, _, h, _ => h
  | [a], m, ha, h, k => by
    have : a ≠ 58 := fun e => ha (by simp [e])
    cases m with
    | nil => exact this
    | cons y m => exact ⟨fun e => this e.1, h⟩
  | a :: b :: x, m, ha, h, k => by
    have : a ≠ 58 := fun e => ha (by simp [e])
    exact ⟨fun e => this e.1, fine_word (b :: x) m (fun e => ha (List.mem_cons_of_mem _ e)) h k⟩
theorem fine_colon (x m : List UInt8) (hx : x ≠ []) (hn : (58 : UInt8) ∉ x) (h : Fine m) (hm : m ≠ []) (k : m.head? ≠ some 58) : Fine (x ++ 58 :: m) := by
  induction x with
  | nil => exact absurd rfl hx
  | cons a x ih =>
    have ha : a ≠ 58 := fun e => hn (by simp [e])
    cases x with
    | nil =>
      refine ⟨fun e => ha e.1, ?_⟩
      cases m with
      | nil => exact absurd rfl hm
      | cons y m => exact ⟨fun e => k (by simp [e.2]), h⟩
    | cons b x => exact ⟨fun e => ha e.1, ih (by simp) fun e => hn (List.mem_cons_of_mem _ e)⟩
theorem head_no (n : Nat) (r : List UInt8) : (hexs n ++ r).head? ≠ some 58 := by
  cases h : hexs n with
  | nil => exact absurd h (hexs_ne n)
  | cons a x =>
    intro e
    simp at e
    exact hexs_no n (by rw [h, e]; simp)
theorem digs_fine : ∀ (l : List Nat), Fine (digs l)
  | [] => trivial
  | [x] => by
    rw [digs_one]
    have := fine_word (hexs x) [] (hexs_no x) trivial (by simp)
    rwa [List.append_nil] at this
  | x :: y :: r => by
    rw [digs_two]
    refine fine_colon _ _ (hexs_ne x) (hexs_no x) (digs_fine (y :: r)) (digs_ne _ (by simp)) ?_
    cases r with
    | nil => rw [digs_one]; have := head_no y []; rwa [List.append_nil] at this
    | cons z r => rw [digs_two]; exact head_no y _
theorem cut_none (l : List UInt8) (h : Fine l) : Lib.cut l [58, 58] = (l, [], false) := by
  unfold Lib.cut
  rw [fine_none l h, if_neg (by decide)]
theorem cut_hit (l r : List UInt8) (h : Fine l) : Lib.cut (l ++ [58, 58] ++ r) [58, 58] = (l, r, true) := by
  unfold Lib.cut
  have e : l ++ [58, 58] ++ r = l ++ 58 :: 58 :: r := by simp
  rw [e, fine_hit l r h, if_pos (by omega)]
  simp only [Int.toNat_natCast, List.length_cons, List.length_nil]
  rw [List.take_left' rfl, ← List.drop_drop, List.drop_left]
  rfl

theorem zeros_split : ∀ (l : List Nat), l = List.replicate (zerosN l) 0 ++ l.drop (zerosN l)
  | [] => rfl
  | x :: r => by
    unfold zerosN
    by_cases h : x = 0
    · subst h
      rw [if_pos rfl]
      have := zeros_split r
      simp only [List.replicate_succ, List.cons_append, List.drop_succ_cons]
      rw [← this]
    · rw [if_neg h]; simp
theorem run_zeros (l : List Nat) : ∀ k, (runUpto l k).2 = 0 ∨ (runUpto l k).2 = zerosN (l.drop (runUpto l k).1)
  | 0 => .inl rfl
  | k + 1 => by
    unfold runUpto runStep
    split
    · exact .inr rfl
    · exact run_zeros l k
theorem digs_len1 : ∀ (l : List Nat), (∀ z ∈ l, z ≤ 65535) → (digs l).length ≤ 5 * l.length - 1
  | [], _ => Nat.zero_le _
  | [x], h => by rw [digs_one]; have := hexs_len x (h x (by simp)); simpa using this
  | x :: y :: r, h => by
    have ih := digs_len1 (y :: r) fun z hz => h z (by simp only [List.mem_cons] at hz ⊢; exact .inr hz)
    have := hexs_len x (h x (by simp))
    rw [digs_two]
    simp only [List.length_append, List.length_cons] at ih ⊢
    omega
theorem six_facts (l : List Nat) (hl : l.length = 8) (hz : ∀ z ∈ l, z ≤ 65535) : sixV (sixT l) = some l ∧ (sixT l).length ≤ 39 ∧ (58 : UInt8) ∈ sixT l := by
  have hr := run_le l hl 8 (Nat.le_refl 8)
  have hz0 := run_zeros l 8
  rw [show runUpto l 8 = Run.runN l from rfl] at hr hz0
  unfold sixT
  generalize Run.runN l = r at hr hz0
  obtain ⟨i, n⟩ := r
  simp only at hr hz0 ⊢
  by_cases h2 : n < 2
  · rw [if_pos h2]
    refine ⟨?_, ?_, ?_⟩
    · unfold sixV
      rw [cut_none _ (digs_fine l)]
      simp only
      rw [listV_digs l hz, show listV [] = some [] from rfl]
      simp only [sixG, hl, List.length_nil]
      simp
    · have := digs_len1 l hz
      omega
    · match l, hl with
      | x :: y :: _, _ => rw [digs_two]; simp
  · rw [if_neg h2]
    have hn : zerosN (l.drop i) = n := by omega
    have hsp := zeros_split (l.drop i)
    rw [hn, List.drop_drop] at hsp
    have e : l = l.take i ++ (List.replicate n 0 ++ l.drop (i + n)) := by rw [← hsp, List.take_append_drop]
    have l1 : (l.take i).length = i := by rw [List.length_take]; omega
    have l2 : (l.drop (i + n)).length = 8 - i - n := by rw [List.length_drop]; omega
    have z1 : ∀ z ∈ l.take i, z ≤ 65535 := fun z h => hz z (List.mem_of_mem_take h)
    have z2 : ∀ z ∈ l.drop (i + n), z ≤ 65535 := fun z h => hz z (List.mem_of_mem_drop h)
    refine ⟨?_, ?_, ?_⟩
    · unfold sixV
      rw [cut_hit _ _ (digs_fine _)]
      simp only
      rw [listV_digs _ z1, listV_digs _ z2]
      simp only [sixG]
      rw [if_pos (.inl ⟨trivial, by omega⟩), l1, l2, show 8 - i - (8 - i - n) = n by omega, List.append_assoc, ← e]
    · have := digs_len1 _ z1
      have := digs_len1 _ z2
      simp only [List.length_append, List.length_cons, List.length_nil]
      omega
    · simp
theorem back_six (l : List Nat) (hl : l.length = 8) (hz : ∀ z ∈ l, z ≤ 65535) : parseV (sixT l) = some (ungrp l) ∧ 0 < (sixT l).length := by
  obtain ⟨h1, h2, h3⟩ := six_facts l hl hz
  constructor
  · unfold parseV
    rw [if_neg (by omega), if_pos (byte_some h3), h1]
    rfl
  · exact List.length_pos_of_mem h3

theorem back_print4 (s : ByteArray) (h : s.size = 4) : parseV (fourT (bts s)) = some (bts s) ∧ 0 < (fourT (bts s)).length := back_four _ (by rw [bts_len]; exact h) (bts_le s)
theorem back_print6 (s : ByteArray) (h : s.size = 16) : parseV (sixT (grps s)) = some (bts s) ∧ 0 < (sixT (grps s)).length := by
  obtain ⟨h1, h2⟩ := back_six (grps s) (grps_len (n := 8) h (by omega)) (grps_le s)
  refine ⟨?_, h2⟩
  rw [h1]
  have hl : (grp (bts s)).length = 8 := by rw [grp_len, bts_len, h]
  have : grps s = grp (bts s) := by unfold grps pad8; rw [hl]; simp
  rw [this, ungrp_grp _ (bts_le s) (by rw [bts_len, h])]

end Go.Proofs.YtggahoocgijdkaaDoor.Back
