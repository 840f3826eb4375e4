/- A routing table: what its calls answer; plain facts. -/
import Derived.Test.YtnabjhdamofpgaaTabR3
set_option linter.unusedVariables false
namespace Go.Proofs.Ytnabjhdamofpgaa.TabM
open Go.RowKit Go.PlainAid Go.Proofs.Ytnabjhdamofpgaa.Sums Go.Proofs.Ytnabjhdamofpgaa.Mem Go.Proofs.Ytnabjhdamofpgaa.Blk Go.Proofs.Ytnabjhdamofpgaa.Grp Go.Proofs.Ytnabjhdamofpgaa.AdrD Go.Proofs.Ytnabjhdamofpgaa.AdrR Go.Proofs.Ytnabjhdamofpgaa.ArgT Go.Proofs.Ytnabjhdamofpgaa.TabD Go.Proofs.Ytnabjhdamofpgaa.TabR2 Go.Proofs.Ytnabjhdamofpgaa.TabR3
open Go.Lib (compareBytes compareInt)

/-! The order of keys. -/
theorem ahead_iff (a : ByteArray) (m : Int) (b : ByteArray) (n : Int) : aheadB a m b n = true ↔ (ordS a b < 0 ∨ (ordS a b = 0 ∧ m < n)) := by
  unfold aheadB
  simp
theorem ahead_no (a : ByteArray) (m : Int) : aheadB a m a m = false := by
  have h := (ord_zero a a).2 rfl
  cases e : aheadB a m a m with
  | false => rfl
  | true => have := (ahead_iff a m a m).1 e; omega
theorem ahead_trans {a b c : ByteArray} {m n k : Int} (h : aheadB a m b n = true) (h' : aheadB b n c k = true) : aheadB a m c k = true := by
  rw [ahead_iff] at *
  have z1 := ord_zero a b
  have z2 := ord_zero b c
  have z3 := ord_zero a c
  rcases h with h | ⟨h1, h2⟩
  · rcases h' with h' | ⟨h1', h2'⟩
    · have t := ord_trans a b c (by omega) (by omega)
      rcases Int.lt_or_eq_of_le t with q | q
      · exact .inl q
      · obtain rfl := z3.1 q
        have := ord_neg a b
        omega
    · obtain rfl := z2.1 h1'
      exact .inl h
  · obtain rfl := z1.1 h1
    rcases h' with h' | ⟨h1', h2'⟩
    · exact .inl h'
    · exact .inr ⟨h1', by omega⟩
theorem ahead_total {a b : ByteArray} {m n : Int} (h : aheadB a m b n = false) (h' : ¬ (a = b ∧ m = n)) : aheadB b n a m = true := by
  have hn : ¬ (ordS a b < 0 ∨ (ordS a b = 0 ∧ m < n)) := fun z => by rw [(ahead_iff a m b n).2 z] at h; cases h
  rw [ahead_iff]
  have e := ord_neg a b
  by_cases z : ordS a b = 0
  · obtain rfl := (ord_zero a b).1 z
    refine .inr ⟨by omega, ?_⟩
    have : m ≠ n := fun e => h' ⟨rfl, e⟩
    omega
  · exact .inl (by omega)
theorem ahead_not {a b : ByteArray} {m n : Int} (h : aheadB a m b n = true) : aheadB b n a m = false := by
  cases e : aheadB b n a m with
  | false => rfl
  | true =>
    have := ahead_trans h e
    rw [ahead_no] at this
    cases this
/-- What the code's order says of two keys. -/
def cmpK (a : ByteArray) (m : Int) (b : ByteArray) (n : Int) : Int := orI (ordS a b) (compareInt m n)
theorem cmp_neg (a : ByteArray) (m : Int) (b : ByteArray) (n : Int) : decide (cmpK a m b n < 0) = aheadB a m b n := by
  rw [Bool.eq_iff_iff, decide_eq_true_eq, ahead_iff]
  unfold cmpK orI compareInt
  split
  · split
    · omega
    · split <;> omega
  · omega
theorem cmp_zero (a : ByteArray) (m : Int) (b : ByteArray) (n : Int) : (cmpK a m b n = 0) ↔ (a = b ∧ m = n) := by
  have z := ord_zero a b
  unfold cmpK orI compareInt
  by_cases h : ordS a b = 0
  · rw [if_pos h]
    obtain rfl := z.1 h
    constructor
    · intro q
      refine ⟨rfl, ?_⟩
      split at q
      · omega
      · split at q <;> omega
    · rintro ⟨_, rfl⟩
      simp
  · rw [if_neg h]
    exact ⟨fun q => absurd q h, fun q => absurd (z.2 q.1) h⟩

/-! Sorted rows. -/
def Srt (rs : List RouteR) : Prop := rs.Pairwise fun r s => aheadB r.x0 r.x1 s.x0 s.x1 = true
/-- A route that a table may hold. -/
def GoodR (r : RouteR) : Prop := fitB r.x0.size r.x1 = true ∧ maskS r.x0 r.x1.toNat = r.x0 ∧ (r.x2.size = 0 ∨ r.x2.size = r.x0.size) ∧ 0 ≤ r.x3
structure Tab (rs : List RouteR) : Prop where
  srt : Srt rs
  good : ∀ r ∈ rs, GoodR r
theorem Tab.nil : Tab [] := ⟨List.Pairwise.nil, fun _ h => absurd h (by simp)⟩
theorem srt_at {rs : List RouteR} (h : Srt rs) {i j : Nat} {r s : RouteR} (hr : rs[i]? = some r) (hs : rs[j]? = some s) (hij : i < j) : aheadB r.x0 r.x1 s.x0 s.x1 = true := by
  obtain ⟨hi, rfl⟩ := List.getElem?_eq_some_iff.1 hr
  obtain ⟨hj, rfl⟩ := List.getElem?_eq_some_iff.1 hs
  exact List.pairwise_iff_getElem.1 h i j hi hj hij
/-- What is ahead of a key stands at the beginning. -/
theorem srt_mono {rs : List RouteR} (h : Srt rs) {a : ByteArray} {n : Int} {i j : Nat} {r s : RouteR} (hr : rs[i]? = some r) (hs : rs[j]? = some s) (hij : i ≤ j) (k : aheadB s.x0 s.x1 a n = true) : aheadB r.x0 r.x1 a n = true := by
  rcases Nat.lt_or_eq_of_le hij with q | rfl
  · exact ahead_trans (srt_at h hr hs q) k
  · rw [hr] at hs
    cases hs
    exact k
theorem place_before {rs : List RouteR} {a : ByteArray} {n : Int} {k : Nat} {r : RouteR} (hk : k < placeN rs a n) (hr : rs[k]? = some r) : aheadB r.x0 r.x1 a n = true := by
  unfold placeN at hk
  induction rs generalizing k with
  | nil => simp at hr
  | cons x rs ih =>
    rw [List.takeWhile_cons] at hk
    split at hk
    · rename_i hx
      cases k with
      | zero => simp at hr; rw [← hr]; exact hx
      | succ k => exact ih (by simpa using hk) (by simpa using hr)
    · simp at hk
theorem place_here {rs : List RouteR} {a : ByteArray} {n : Int} {r : RouteR} (hr : rs[placeN rs a n]? = some r) : aheadB r.x0 r.x1 a n = false := by
  unfold placeN at hr
  induction rs with
  | nil => simp at hr
  | cons x rs ih =>
    rw [List.takeWhile_cons] at hr
    split at hr
    · rename_i hx
      exact ih (by simpa using hr)
    · rename_i hx
      simp at hr
      rw [← hr]
      simpa using hx
theorem place_behind {rs : List RouteR} (h : Srt rs) {a : ByteArray} {n : Int} {k : Nat} {r : RouteR} (hk : placeN rs a n ≤ k) (hr : rs[k]? = some r) : aheadB r.x0 r.x1 a n = false := by
  cases e : aheadB r.x0 r.x1 a n with
  | false => rfl
  | true =>
    have hlt : placeN rs a n < rs.length := Nat.lt_of_le_of_lt hk (List.getElem?_eq_some_iff.1 hr).1
    have := srt_mono h (List.getElem?_eq_getElem hlt) hr hk e
    rw [place_here (List.getElem?_eq_getElem hlt)] at this
    cases this
theorem there_iff {rs : List RouteR} (h : Srt rs) {a : ByteArray} {n : Int} : thereB rs a n = true ↔ ∃ r ∈ rs, r.x0 = a ∧ r.x1 = n := by
  constructor
  · intro t
    unfold thereB at t
    cases e : rs[placeN rs a n]? with
    | none => rw [e] at t; cases t
    | some r =>
      rw [e] at t
      simp only [Bool.and_eq_true, decide_eq_true_eq] at t
      exact ⟨r, List.mem_of_getElem? e, t⟩
  · rintro ⟨r, hr, rfl, rfl⟩
    obtain ⟨k, hk⟩ := List.getElem?_of_mem hr
    have h1 : placeN rs r.x0 r.x1 ≤ k := by
      rcases Nat.lt_or_ge k (placeN rs r.x0 r.x1) with q | q
      · have := place_before q hk
        rw [ahead_no] at this
        cases this
      · exact q
    have hlt : placeN rs r.x0 r.x1 < rs.length := Nat.lt_of_le_of_lt h1 (List.getElem?_eq_some_iff.1 hk).1
    have e := List.getElem?_eq_getElem hlt
    have h2 : placeN rs r.x0 r.x1 = k := by
      rcases Nat.lt_or_eq_of_le h1 with q | q
      · have h3 := srt_at h e hk q
        rw [place_here e] at h3
        cases h3
      · exact q
    unfold thereB
    rw [h2, hk]
    simp

/-! Add. -/
def addB (a : ByteArray) (m : Int) (v : ByteArray) (p : Int) : Bool := fitB a.size m && ((v.toList.isEmpty || !((v.size : Int) != ((pfx a m).size : Int))) && !decide (p < 0))
def addE (rs : List RouteR) (a : ByteArray) (m : Int) (v : ByteArray) (p : Int) : Int := if addB a m v p then (if thereB rs (pfx a m) m then 0 else if 64 ≤ rs.length then 7 else 0) else 1
def addL (rs : List RouteR) (a : ByteArray) (m : Int) (v : ByteArray) (p : Int) : List RouteR :=
  if addB a m v p then (if thereB rs (pfx a m) m then rs.set (placeN rs (pfx a m) m) ⟨pfx a m, m, v, p⟩ else if 64 ≤ rs.length then rs else rs.take (placeN rs (pfx a m) m) ++ ⟨pfx a m, m, v, p⟩ :: rs.drop (placeN rs (pfx a m) m)) else rs
theorem empty_iff (v : ByteArray) : v.toList.isEmpty = true ↔ v.size = 0 := by
  rw [ByteArray.toList_eq, List.isEmpty_iff_length_eq_zero, Array.length_toList]
  rfl
theorem pfx_fit {a : ByteArray} {m : Int} (h : fitB a.size m = true) : (pfx a m).size = a.size := by
  unfold pfx
  rw [if_pos h, mask_size]
theorem add_iff (a : ByteArray) (m : Int) (v : ByteArray) (p : Int) : addB a m v p = true ↔ fitB a.size m = true ∧ (v.size = 0 ∨ v.size = a.size) ∧ 0 ≤ p := by
  have hv := empty_iff v
  unfold addB
  simp only [Bool.and_eq_true, Bool.or_eq_true, Bool.not_eq_true', bne_eq_false_iff_eq, decide_eq_false_iff_not, hv]
  constructor
  · rintro ⟨h1, h2, h3⟩
    rw [pfx_fit h1] at h2
    exact ⟨h1, by omega, by omega⟩
  · rintro ⟨h1, h2, h3⟩
    rw [pfx_fit h1]
    exact ⟨h1, by omega, by omega⟩
theorem good_new {a : ByteArray} {m : Int} {v : ByteArray} {p : Int} (h : addB a m v p = true) : GoodR ⟨pfx a m, m, v, p⟩ := by
  obtain ⟨h1, h2, h3⟩ := (add_iff a m v p).1 h
  have e := pfx_fit h1
  refine ⟨by show fitB (pfx a m).size m = true; rw [e]; exact h1, ?_, by show v.size = 0 ∨ v.size = (pfx a m).size; rw [e]; exact h2, h3⟩
  show maskS (pfx a m) m.toNat = pfx a m
  unfold pfx
  rw [if_pos h1, maskS_mask, Nat.min_self]
theorem take_mem {rs : List RouteR} {i : Nat} {r : RouteR} (h : r ∈ rs.take i) : ∃ k, k < i ∧ rs[k]? = some r := by
  obtain ⟨k, hk⟩ := List.getElem?_of_mem h
  rw [List.getElem?_take] at hk
  split at hk
  · rename_i q; exact ⟨k, q, hk⟩
  · cases hk
theorem drop_mem {rs : List RouteR} {i : Nat} {r : RouteR} (h : r ∈ rs.drop i) : ∃ k, i ≤ k ∧ rs[k]? = some r := by
  obtain ⟨k, hk⟩ := List.getElem?_of_mem h
  rw [List.getElem?_drop] at hk
  exact ⟨i + k, by omega, hk⟩
theorem set_eq {rs : List RouteR} {i : Nat} {r : RouteR} (h : i < rs.length) : rs.set i r = rs.take i ++ r :: rs.drop (i + 1) := by
  rw [List.set_eq_take_append_cons_drop, if_pos h]
theorem srt_put {rs : List RouteR} (h : Srt rs) {i j : Nat} (hij : i ≤ j) {r : RouteR} (h1 : ∀ k s, k < i → rs[k]? = some s → aheadB s.x0 s.x1 r.x0 r.x1 = true) (h2 : ∀ k s, j ≤ k → rs[k]? = some s → aheadB r.x0 r.x1 s.x0 s.x1 = true) : Srt (rs.take i ++ r :: rs.drop j) := by
  refine List.pairwise_append.2 ⟨h.sublist (List.take_sublist _ _), List.pairwise_cons.2 ⟨fun s hs => ?_, h.sublist (List.drop_sublist _ _)⟩, fun s hs t ht => ?_⟩
  · obtain ⟨k, hk, e⟩ := drop_mem hs
    exact h2 k s hk e
  · obtain ⟨k, hk, e⟩ := take_mem hs
    rcases List.mem_cons.1 ht with rfl | ht
    · exact h1 k s hk e
    · obtain ⟨k', hk', e'⟩ := drop_mem ht
      exact ahead_trans (h1 k s hk e) (h2 k' t hk' e')
theorem Tab.add {rs : List RouteR} (h : Tab rs) (a : ByteArray) (m : Int) (v : ByteArray) (p : Int) : Tab (addL rs a m v p) := by
  unfold addL
  cases ok : addB a m v p with
  | false => exact h
  | true =>
    have hg := good_new ok
    rw [if_pos rfl]
    generalize pfx a m = q at *
    cases t : thereB rs q m with
    | true =>
      rw [if_pos rfl]
      have hlt : placeN rs q m < rs.length ∧ ∀ r, rs[placeN rs q m]? = some r → r.x0 = q ∧ r.x1 = m := by
        unfold thereB at t
        cases e : rs[placeN rs q m]? with
        | none => rw [e] at t; cases t
        | some r =>
          rw [e] at t
          exact ⟨(List.getElem?_eq_some_iff.1 e).1, fun r' e' => by cases e'; simpa using t⟩
      have er := List.getElem?_eq_getElem hlt.1
      obtain ⟨e0, e1⟩ := hlt.2 _ er
      rw [set_eq hlt.1]
      refine ⟨srt_put h.srt (Nat.le_succ _) (fun k s hk e => place_before hk e) (fun k s hk e => ?_), fun r hr => ?_⟩
      · have := srt_at h.srt er e (by omega)
        rw [e0, e1] at this
        exact this
      · rcases List.mem_append.1 hr with hr | hr
        · exact h.good r (List.mem_of_mem_take hr)
        · rcases List.mem_cons.1 hr with rfl | hr
          · exact hg
          · exact h.good r (List.mem_of_mem_drop hr)
    | false =>
      rw [if_neg (by simp)]
      split
      · exact h
      · refine ⟨srt_put h.srt (Nat.le_refl _) (fun k s hk e => place_before hk e) (fun k s hk e => ahead_total (place_behind h.srt hk e) (fun z => ?_)), fun r hr => ?_⟩
        · rw [(there_iff h.srt).2 ⟨s, List.mem_of_getElem? e, z⟩] at t
          cases t
        · rcases List.mem_append.1 hr with hr | hr
          · exact h.good r (List.mem_of_mem_take hr)
          · rcases List.mem_cons.1 hr with rfl | hr
            · exact hg
            · exact h.good r (List.mem_of_mem_drop hr)
theorem Tab.rem {rs : List RouteR} (h : Tab rs) (a : ByteArray) (m : Int) : Tab (remL rs a m) := by
  unfold remL
  split
  · have hs : (rs.take (placeN rs (pfx a m) m) ++ rs.drop (placeN rs (pfx a m) m + 1)).Sublist rs := by
      have := (List.Sublist.refl (rs.take (placeN rs (pfx a m) m))).append (List.drop_sublist_drop_left rs (Nat.le_succ (placeN rs (pfx a m) m)))
      rwa [List.take_append_drop] at this
    exact ⟨h.srt.sublist hs, fun r hr => h.good r (hs.subset hr)⟩
  · exact h
theorem add_len (rs : List RouteR) (a : ByteArray) (m : Int) (v : ByteArray) (p : Int) (h : rs.length ≤ 64) : (addL rs a m v p).length ≤ 64 ∧ (addL rs a m v p).length ≤ rs.length + 1 := by
  have := placeN_le rs (pfx a m) m
  unfold addL
  split
  · split
    · simp; omega
    · split
      · omega
      · simp; omega
  · omega
theorem rem_len (rs : List RouteR) (a : ByteArray) (m : Int) : (remL rs a m).length ≤ rs.length := by
  unfold remL
  split
  · simp; omega
  · omega

/-! Find. -/
def isA (d : ByteArray) : Bool := d.size == 4 || d.size == 16
/-- The document's best one, from left to right. -/
def stepD (d : ByteArray) (b : Option RouteR) (r : RouteR) : Option RouteR := if inB d r.x0 r.x1 && (match b with | none => true | some s => decide (s.x1 < r.x1)) then some r else b
def findD (rs : List RouteR) (d : ByteArray) : Option RouteR := rs.foldl (stepD d) none
/-- The last one that contains an address. -/
def findC (rs : List RouteR) (d : ByteArray) : Option RouteR := rs.reverse.find? fun r => inB d r.x0 r.x1
def ZR : RouteR := ⟨⟨#[]⟩, 0, ⟨#[]⟩, 0⟩
def findE (rs : List RouteR) (d : ByteArray) : Int := if isA d then (match findC rs d with | some _ => 0 | none => 182) else 1
def findR (rs : List RouteR) (d : ByteArray) : RouteR := if isA d then (findC rs d).getD ZR else ZR
theorem keep8_mono {m n x : Nat} (h : m ≤ n) (hn : n ≤ 8) : keep8 m x ≤ keep8 n x := by
  unfold keep8
  obtain ⟨c, hc⟩ : ∃ c, 2 ^ (8 - m) = 2 ^ (8 - n) * c := ⟨2 ^ ((8 - m) - (8 - n)), by rw [← Nat.pow_add]; congr 1; omega⟩
  rw [hc, ← Nat.div_div_eq_div_mul, Nat.mul_comm (2 ^ (8 - n)) c, ← Nat.mul_assoc]
  exact Nat.mul_le_mul_right _ (Nat.div_mul_le_self _ _)
def nat8 (x : Nat) : UInt8 := UInt8.ofNat x
theorem mask_mono : ∀ (l : List Nat) (m n : Nat), (∀ z ∈ l, z ≤ 255) → m ≤ n → compareBytes ((maskB m l).map fun z => UInt8.ofNat z) ((maskB n l).map fun z => UInt8.ofNat z) ≤ 0
  | [], _, _, _, _ => by simp [maskB, compareBytes]
  | x :: l, m, n, hl, h => by
    have ih := mask_mono l (m - 8) (n - 8) (fun z hz => hl z (by simp [hz])) (by omega)
    have hx := hl x (by simp)
    have k1 := keep8_mono (x := x) (show min m 8 ≤ min n 8 by omega) (by omega)
    have k2 := keep8_le (min n 8) x
    simp only [maskB, List.map_cons, compareBytes]
    split
    · decide
    · split
      · rename_i q
        rw [UInt8.lt_iff_toNat_lt, UInt8.toNat_ofNat', UInt8.toNat_ofNat'] at q
        omega
      · exact ih
theorem txt_bytes (l : List Nat) : (txt l).data.toList = l.map fun z => UInt8.ofNat z := by simp [txt]
theorem ord_mask (d : ByteArray) {m n : Nat} (h : m ≤ n) : ordS (maskS d m) (maskS d n) ≤ 0 := by
  rcases ord_cases (maskS d m) (maskS d n) with ⟨_, e⟩ | ⟨z, e⟩ | ⟨_, e⟩
  · omega
  · rw [mask_size, mask_size] at z
    omega
  · rw [e]
    unfold maskS
    rw [txt_bytes, txt_bytes]
    exact mask_mono _ _ _ (bts_le d) h
theorem in_iff {d : ByteArray} {r : RouteR} (hr : GoodR r) : inB d r.x0 r.x1 = true ↔ d.size = r.x0.size ∧ r.x0 = maskS d r.x1.toNat := by
  unfold inB
  rw [hr.1]
  simp only [Bool.and_true, Bool.and_eq_true, beq_iff_eq, decide_eq_true_eq]
  refine and_congr_right fun _ => ?_
  have e := hr.2.1
  constructor
  · intro h
    rw [← e]
    unfold maskS
    rw [h]
  · intro h
    have : bts (maskS d r.x1.toNat) = bts r.x0 := by rw [← h]
    rw [bts_mask] at this
    have h2 : bts (maskS r.x0 r.x1.toNat) = bts r.x0 := by rw [e]
    rw [bts_mask] at h2
    rw [this, h2]
/-- Of two that contain an address, the one that stands first has fewer bits. -/
theorem in_order {d : ByteArray} {r s : RouteR} (hr : GoodR r) (hs : GoodR s) (hd : inB d r.x0 r.x1 = true) (hd' : inB d s.x0 s.x1 = true) (h : aheadB r.x0 r.x1 s.x0 s.x1 = true) : r.x1 < s.x1 := by
  obtain ⟨e1, e2⟩ := (in_iff hr).1 hd
  obtain ⟨f1, f2⟩ := (in_iff hs).1 hd'
  have b1 : 0 ≤ r.x1 ∧ 0 ≤ s.x1 := by
    have z1 := hr.1; have z2 := hs.1
    unfold fitB at z1 z2
    simp only [Bool.and_eq_true, decide_eq_true_eq] at z1 z2
    exact ⟨z1.1.2, z2.1.2⟩
  rcases Int.lt_or_le r.x1 s.x1 with q | q
  · exact q
  · have o := ord_mask d (show s.x1.toNat ≤ r.x1.toNat by omega)
    rw [← e2, ← f2] at o
    have n := ord_neg s.x0 r.x0
    rcases (ahead_iff _ _ _ _).1 h with z | ⟨z1, z2⟩
    · omega
    · omega
theorem snoc_ind {α : Type} {p : List α → Prop} (h0 : p []) (h1 : ∀ l s, p l → p (l ++ [s])) (l : List α) : p l := by
  have : ∀ l : List α, p l.reverse := fun l => by
    induction l with
    | nil => exact h0
    | cons a l ih => rw [List.reverse_cons]; exact h1 _ _ ih
  have := this l.reverse
  rwa [List.reverse_reverse] at this
theorem find_last (d : ByteArray) (rs : List RouteR) (s : RouteR) : findC (rs ++ [s]) d = if inB d s.x0 s.x1 then some s else findC rs d := by
  unfold findC
  rw [List.reverse_append, List.reverse_singleton, List.singleton_append, List.find?_cons]
  cases inB d s.x0 s.x1 <;> rfl
theorem find_mem {d : ByteArray} {rs : List RouteR} {r : RouteR} (h : findC rs d = some r) : r ∈ rs ∧ inB d r.x0 r.x1 = true := by
  unfold findC at h
  exact ⟨List.mem_reverse.1 (List.mem_of_find?_eq_some h), by simpa using List.find?_some h⟩
theorem find_none {d : ByteArray} {rs : List RouteR} : findC rs d = none ↔ ∀ r ∈ rs, inB d r.x0 r.x1 = false := by
  unfold findC
  rw [List.find?_eq_none]
  simp
theorem find_same {d : ByteArray} {rs : List RouteR} (h : Tab rs) : findD rs d = findC rs d := by
  suffices H : ∀ (l : List RouteR), Tab l → l.foldl (stepD d) none = findC l d from H rs h
  intro l
  induction l using snoc_ind with
  | h0 => intro _; rfl
  | h1 l s ih =>
    intro ht
    have hs : Srt l := (List.pairwise_append.1 ht.srt).1
    have tl : Tab l := ⟨hs, fun r hr => ht.good r (by simp [hr])⟩
    rw [List.foldl_append, ih tl, find_last]
    simp only [List.foldl_cons, List.foldl_nil, stepD]
    cases e : inB d s.x0 s.x1 with
    | false => rfl
    | true =>
      cases f : findC l d with
      | none => rfl
      | some r =>
        obtain ⟨hr, hi⟩ := find_mem f
        have hlt := in_order (ht.good r (by simp [hr])) (ht.good s (by simp)) hi e ((List.pairwise_append.1 ht.srt).2.2 r hr s (by simp))
        simp [hlt]
theorem find_best {d : ByteArray} {rs : List RouteR} (h : Tab rs) {r s : RouteR} (hf : findC rs d = some r) (hs : s ∈ rs) (hi : inB d s.x0 s.x1 = true) : s.x1 ≤ r.x1 := by
  obtain ⟨hr, hd⟩ := find_mem hf
  obtain ⟨i, ei⟩ := List.getElem?_of_mem hr
  obtain ⟨j, ej⟩ := List.getElem?_of_mem hs
  rcases Nat.lt_trichotomy i j with q | q | q
  · exfalso
    have e : rs = rs.take j ++ s :: rs.drop (j + 1) := by
      have := (List.getElem?_eq_some_iff.1 ej)
      obtain ⟨hj, rfl⟩ := this
      rw [List.getElem_cons_drop, List.take_append_drop]
    have hlt := in_order (h.good r hr) (h.good s hs) hd hi (srt_at h.srt ei ej q)
    -- whatever is found has no fewer bits than what stands ahead of it
    have fb : ∀ l : List RouteR, Tab l → ∀ x, findC l d = some x → ∀ y ∈ l, inB d y.x0 y.x1 = true → y.x1 ≤ x.x1 := by
      intro l
      induction l using snoc_ind with
      | h0 => intro _ x hx; simp [findC] at hx
      | h1 l z ih =>
        intro ht x hx y hy hyi
        rw [find_last] at hx
        cases ez : inB d z.x0 z.x1 with
        | true =>
          rw [ez, if_pos rfl] at hx
          cases hx
          rcases List.mem_append.1 hy with hy | hy
          · exact Int.le_of_lt (in_order (ht.good y (by simp [hy])) (ht.good z (by simp)) hyi ez ((List.pairwise_append.1 ht.srt).2.2 y hy z (by simp)))
          · rw [List.mem_singleton.1 hy]
            exact Int.le_refl _
        | false =>
          rw [ez, if_neg (by simp)] at hx
          rcases List.mem_append.1 hy with hy | hy
          · exact ih ⟨(List.pairwise_append.1 ht.srt).1, fun r hr => ht.good r (by simp [hr])⟩ x hx y hy hyi
          · rw [List.mem_singleton.1 hy, ez] at hyi
            cases hyi
    have := fb rs h r hf s hs hi
    omega
  · subst q
    rw [ei] at ej
    cases ej
    exact Int.le_refl _
  · exact Int.le_of_lt (in_order (h.good s hs) (h.good r hr) hi hd (srt_at h.srt ej ei q))
theorem in_addr {d p : ByteArray} {b : Int} (h : isA d = false) : inB d p b = false := by
  unfold isA at h
  unfold inB fitB
  simp only [Bool.or_eq_false_iff, beq_eq_false_iff_ne] at h
  rw [Bool.eq_false_iff]
  intro z
  simp only [Bool.and_eq_true, Bool.or_eq_true, beq_iff_eq, decide_eq_true_eq] at z
  omega
end Go.Proofs.Ytnabjhdamofpgaa.TabM
