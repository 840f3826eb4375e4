/- A datagram as plain numbers: its bytes, its check, what is wrong with bytes; laid down and read. No program is named but the kind of its numbers. -/
import Derived.Test.YtmpioomhimldaaaTot
import Derived.Test.YtmpioomhimldaaaAppend
set_option linter.unusedVariables false
namespace Go.Proofs.Ytmpioomhimldaaa.Dat
open Go.RowKit Go.Proofs.Ytmpioomhimldaaa.Sums Go.Proofs.Ytmpioomhimldaaa.Mem

/-- Are two addresses of one version? -/
def paired (s d : ByteArray) : Bool := decide (s.size = d.size) && (decide (s.size = 4) || decide (s.size = 16))
theorem paired_true {s d : ByteArray} (h : paired s d = true) : s.size = d.size ∧ (s.size = 4 ∨ s.size = 16) := by
  unfold paired at h
  simpa only [Bool.and_eq_true, Bool.or_eq_true, decide_eq_true_eq] using h
theorem paired_make {s d : ByteArray} (h : s.size = d.size) (k : s.size = 4 ∨ s.size = 16) : paired s d = true := by
  unfold paired
  simp only [Bool.and_eq_true, Bool.or_eq_true, decide_eq_true_eq]
  exact ⟨h, k⟩
theorem paired_comm (s d : ByteArray) : paired s d = paired d s := by
  cases h : paired s d
  · cases k : paired d s
    · rfl
    · have := paired_true k
      rw [paired_make this.1.symm (by omega)] at h
      cases h
  · have := paired_true h
    rw [paired_make this.1.symm (by omega)]
def isW (n : Int) : Bool := decide (0 ≤ n) && decide (n ≤ 65535)
theorem isW_true {n : Int} (h : isW n = true) : 0 ≤ n ∧ n ≤ 65535 := by unfold isW at h; simpa using h
theorem isW_make {n : Int} (h : 0 ≤ n) (k : n ≤ 65535) : isW n = true := by unfold isW; simp [h, k]

/-- What stands ahead of bytes when they are summed. -/
def ahead (s d : ByteArray) (n : Int) : List Int := if s.size = 4 then nums s ++ (nums d ++ [0, 17, n / 256, n % 256]) else nums s ++ (nums d ++ [n / 16777216, n / 65536 % 256, n / 256 % 256, n % 256, 0, 0, 0, 17])
def around (s d : ByteArray) (n : Int) : Int := sums 0 (ahead s d n)
theorem around_in (s d : ByteArray) (n : Int) : 0 ≤ around s d n ∧ around s d n ≤ 65535 := sums_in _ 0 (by omega) (by omega)
/-- The sum of all that the check is for. -/
def whole (s d : ByteArray) (l : List Int) : Int := add (around s d l.length) (sums 0 l)
theorem whole_in (s d : ByteArray) (l : List Int) : 0 ≤ whole s d l ∧ whole s d l ≤ 65535 := ⟨add_lo _ _, add_hi _ _⟩

def raw (a b n k : Int) (l : List Int) : List Int := a / 256 :: a % 256 :: b / 256 :: b % 256 :: n / 256 :: n % 256 :: k / 256 :: k % 256 :: l
/-- The check of bytes in whose place of it stands 0. -/
def sure (t : Int) : Int := if 65535 - t = 0 then 65535 else 65535 - t
def chk (a b : Int) (s d : ByteArray) (l : List Int) : Int := sure (whole s d (raw a b (8 + l.length) 0 l))
def bytes (a b : Int) (s d : ByteArray) (l : List Int) : List Int := raw a b (8 + l.length) (chk a b s d l) l
theorem chk_in (a b : Int) (s d : ByteArray) (l : List Int) : 1 ≤ chk a b s d l ∧ chk a b s d l ≤ 65535 := by
  have := whole_in s d (raw a b (8 + l.length) 0 l)
  unfold chk sure
  split <;> omega

/-- What Bytes says of it, with n bytes of data. -/
def err (a b : Int) (s d : ByteArray) (n : Nat) : Int := if (isW a && (isW b && paired s d)) = true then (if 65535 < 8 + n then 2 else 0) else 1
theorem err_zero {a b : Int} {s d : ByteArray} {n : Nat} (h : err a b s d n = 0) : (0 ≤ a ∧ a ≤ 65535) ∧ (0 ≤ b ∧ b ≤ 65535) ∧ paired s d = true ∧ 8 + n ≤ 65535 := by
  unfold err at h
  split at h
  · next q =>
    simp only [Bool.and_eq_true] at q
    split at h
    · cases h
    · exact ⟨isW_true q.1, isW_true q.2.1, q.2.2, by omega⟩
  · cases h
theorem err_make {a b : Int} {s d : ByteArray} {n : Nat} (a0 : 0 ≤ a) (a1 : a ≤ 65535) (b0 : 0 ≤ b) (b1 : b ≤ 65535) (h : paired s d = true) (k : 8 + n ≤ 65535) : err a b s d n = 0 := by
  unfold err
  rw [isW_make a0 a1, isW_make b0 b1, h, if_pos (show (true && (true && true)) = true from rfl), if_neg (by omega)]

/-- The number of two bytes. -/
def w16 (l : List Int) (i : Nat) : Int := 256 * l.getD i 0 + l.getD (i + 1) 0
/-- What is wrong with bytes. -/
def perr (l : List Int) (s d : ByteArray) : Int :=
  if paired s d = false then 1 else if l.length < 8 then 8 else if (l.length : Int) < w16 l 4 then 8 else if w16 l 4 < 8 then 4 else if w16 l 4 < (l.length : Int) then 4 else
  if w16 l 6 = 0 then (if s.size = 4 then 0 else 5) else if whole s d l = 65535 then 0 else 5

theorem getD_in {l : List Int} (h : Bytes l) (i : Nat) : 0 ≤ l.getD i 0 ∧ l.getD i 0 ≤ 255 := by
  by_cases hi : i < l.length
  · have := h.at_ i hi
    rw [List.getD_eq_getElem?_getD, List.getElem?_eq_getElem hi]
    exact this
  · rw [List.getD_eq_getElem?_getD, List.getElem?_eq_none (by omega)]
    exact ⟨by decide, by decide⟩
theorem w16_in {l : List Int} (h : Bytes l) (i : Nat) : 0 ≤ w16 l i ∧ w16 l i ≤ 65535 := by
  have := getD_in h i
  have := getD_in h (i + 1)
  unfold w16
  omega

/-! ### Sums as numbers -/
theorem tot_append (a b : List Int) (h : a.length % 2 = 0) : tot (a ++ b) = tot a + tot b := by
  match a, h with
  | [], _ => simp [tot]
  | x :: y :: r, h =>
    have := tot_append r b (by simp at h; omega)
    show 256 * x + y + tot (r ++ b) = 256 * x + y + tot r + tot b
    rw [this]; omega
  termination_by a.length
theorem ahead_bytes (s d : ByteArray) {n : Int} (n0 : 0 ≤ n) (n1 : n ≤ 65535) : Bytes (ahead s d n) := by
  unfold ahead
  split
  all_goals
    refine (nums_bytes _).append ((nums_bytes _).append fun z hz => ?_)
    simp at hz
    omega
theorem ahead_tot {s d : ByteArray} (h : paired s d = true) (n : Int) : tot (ahead s d n) = tot (nums s) + tot (nums d) + (17 + (if s.size = 4 then 256 * (n / 256) + n % 256 else 256 * (n / 16777216) + n / 65536 % 256 + (256 * (n / 256 % 256) + n % 256))) := by
  obtain ⟨e, h⟩ := paired_true h
  have ls := nums_len s
  have ld := nums_len d
  unfold ahead
  split
  all_goals
    rw [tot_append _ _ (by omega), tot_append _ _ (by omega)]
    simp only [tot]
    omega
theorem ahead_comm {s d : ByteArray} (h : paired s d = true) (n : Int) : tot (ahead s d n) = tot (ahead d s n) := by
  rw [ahead_tot h, ahead_tot (by rw [paired_comm]; exact h)]
  have := paired_true h
  rw [this.1]
  split <;> omega
theorem ahead_pos {s d : ByteArray} (h : paired s d = true) {n : Int} (n0 : 0 ≤ n) : 0 < tot (ahead s d n) := by
  rw [ahead_tot h]
  have := tot_lo _ (nums_bytes s)
  have := tot_lo _ (nums_bytes d)
  split <;> omega
theorem whole_fold {s d : ByteArray} {l : List Int} (hl : Bytes l) (h1 : l.length ≤ 65535) : whole s d l = fold (tot (ahead s d l.length) + tot l) := by
  have hb := ahead_bytes s d (n := l.length) (by omega) (by omega)
  have t := tot_lo _ hb
  have t' := tot_lo _ hl
  unfold whole around
  rw [sums_tot hb, sums_tot hl, add_fold (fold_lo _) (fold_hi _) (fold_lo _) (fold_hi _), fold_fold t (fold_lo _), Int.add_comm, fold_fold t' t, Int.add_comm]
theorem whole_comm {s d : ByteArray} (h : paired s d = true) {l : List Int} (hl : Bytes l) (h1 : l.length ≤ 65535) : whole s d l = whole d s l := by
  rw [whole_fold hl h1, whole_fold hl h1, ahead_comm h]
theorem raw_len (a b n k : Int) (l : List Int) : (raw a b n k l).length = 8 + l.length := by simp [raw]; omega
theorem raw_bytes {a b n k : Int} (a0 : 0 ≤ a) (a1 : a ≤ 65535) (b0 : 0 ≤ b) (b1 : b ≤ 65535) (n0 : 0 ≤ n) (n1 : n ≤ 65535) (k0 : 0 ≤ k) (k1 : k ≤ 65535) {l : List Int} (hl : Bytes l) : Bytes (raw a b n k l) := by
  intro z hz
  simp only [raw, List.mem_cons] at hz
  rcases hz with rfl | rfl | rfl | rfl | rfl | rfl | rfl | rfl | hz
  · omega
  · omega
  · omega
  · omega
  · omega
  · omega
  · omega
  · omega
  · exact hl z hz
theorem raw_tot (a b n k : Int) (l : List Int) : tot (raw a b n k l) = tot (raw a b n 0 l) + k := by
  simp only [raw, tot]
  omega
theorem sure_fold {t k : Int} (h : 0 < t) (e : k = sure (fold t)) : fold (t + k) = 65535 := by
  subst e
  unfold sure fold
  repeat' split
  all_goals omega
theorem fold_sure {t k : Int} (h : 0 < t) (k0 : 1 ≤ k) (k1 : k ≤ 65535) (e : fold (t + k) = 65535) : k = sure (fold t) := by
  unfold sure
  unfold fold at e ⊢
  repeat' split at e
  all_goals repeat' split
  all_goals omega

theorem bytes_len (a b : Int) (s d : ByteArray) (l : List Int) : (bytes a b s d l).length = 8 + l.length := raw_len _ _ _ _ _
theorem bytes_bytes {a b : Int} {s d : ByteArray} {l : List Int} (h : err a b s d l.length = 0) (hl : Bytes l) : Bytes (bytes a b s d l) := by
  obtain ⟨h1, h2, h3, h4⟩ := err_zero h
  have := chk_in a b s d l
  exact raw_bytes h1.1 h1.2 h2.1 h2.2 (by omega) (by omega) (by omega) (by omega) hl
theorem bytes_whole {a b : Int} {s d : ByteArray} {l : List Int} (h : err a b s d l.length = 0) (hl : Bytes l) : whole s d (bytes a b s d l) = 65535 := by
  obtain ⟨h1, h2, h3, h4⟩ := err_zero h
  have c := chk_in a b s d l
  have bb := bytes_bytes h hl
  have b0 : Bytes (raw a b (8 + l.length) 0 l) := raw_bytes h1.1 h1.2 h2.1 h2.2 (by omega) (by omega) (by omega) (by omega) hl
  have ln := bytes_len a b s d l
  have l0 := raw_len a b (8 + l.length) 0 l
  have e : chk a b s d l = sure (fold (tot (ahead s d (8 + l.length : Nat)) + tot (raw a b (8 + l.length) 0 l))) := by
    unfold chk
    rw [whole_fold b0 (by omega), l0]
  rw [whole_fold bb (by omega), ln]
  have t0 := ahead_pos h3 (n := ((8 + l.length : Nat) : Int)) (by omega)
  have t1 := tot_lo _ b0
  have e2 : tot (bytes a b s d l) = tot (raw a b (8 + l.length) 0 l) + chk a b s d l := raw_tot _ _ _ _ _
  rw [e2, ← Int.add_assoc]
  exact sure_fold (by omega) e
theorem w16_raw (a b n k : Int) (l : List Int) : w16 (raw a b n k l) 0 = a ∧ w16 (raw a b n k l) 2 = b ∧ w16 (raw a b n k l) 4 = n ∧ w16 (raw a b n k l) 6 = k := by
  refine ⟨?_, ?_, ?_, ?_⟩
  all_goals simp only [w16, raw, List.getD_cons_zero, List.getD_cons_succ]; omega
theorem perr_zero {l : List Int} {s d : ByteArray} (h : perr l s d = 0) : paired s d = true ∧ 8 ≤ l.length ∧ w16 l 4 = l.length ∧ (w16 l 6 = 0 ∧ s.size = 4 ∨ w16 l 6 ≠ 0 ∧ whole s d l = 65535) := by
  unfold perr at h
  repeat' split at h
  all_goals first | omega | skip
  · next q _ _ _ _ _ _ =>
    cases k : paired s d
    · exact absurd k q
    · exact ⟨rfl, by omega, by omega, .inl ⟨by omega, by omega⟩⟩
  · next q _ _ _ _ _ _ =>
    cases k : paired s d
    · exact absurd k q
    · exact ⟨rfl, by omega, by omega, .inr ⟨by omega, by omega⟩⟩
theorem bytes_perr {a b : Int} {s d : ByteArray} {l : List Int} (h : err a b s d l.length = 0) (hl : Bytes l) : perr (bytes a b s d l) s d = 0 := by
  have W := bytes_whole h hl
  obtain ⟨h1, h2, h3, h4⟩ := err_zero h
  have c := chk_in a b s d l
  have q := w16_raw a b (8 + l.length) (chk a b s d l) l
  have q4 : w16 (bytes a b s d l) 4 = 8 + l.length := q.2.2.1
  have q6 : w16 (bytes a b s d l) 6 = chk a b s d l := q.2.2.2
  have ln := bytes_len a b s d l
  unfold perr
  rw [q4, q6, ln, h3, if_neg (by decide), if_neg (by omega), if_neg (by omega), if_neg (by omega), if_neg (by omega), if_neg (by omega), if_pos W]
theorem perr_comm {s d : ByteArray} {l : List Int} (hl : Bytes l) (h1 : l.length ≤ 65535) : perr l s d = perr l d s := by
  unfold perr
  rw [paired_comm]
  by_cases h : paired d s = false
  · rw [if_pos h, if_pos h]
  · have h' : paired d s = true := by cases k : paired d s <;> simp_all
    rw [if_neg h, if_neg h, whole_comm (by rw [paired_comm]; exact h') hl h1]
    have := paired_true h'
    rw [this.1]
theorem eight {l : List Int} (h : 8 ≤ l.length) : ∃ b0 b1 b2 b3 b4 b5 b6 b7 r, l = b0 :: b1 :: b2 :: b3 :: b4 :: b5 :: b6 :: b7 :: r := by
  match l, h with
  | b0 :: b1 :: b2 :: b3 :: b4 :: b5 :: b6 :: b7 :: r, _ => exact ⟨b0, b1, b2, b3, b4, b5, b6, b7, r, rfl⟩
theorem raw_back {l : List Int} (hl : Bytes l) (h : 8 ≤ l.length) : raw (w16 l 0) (w16 l 2) (w16 l 4) (w16 l 6) (l.drop 8) = l := by
  obtain ⟨b0, b1, b2, b3, b4, b5, b6, b7, r, rfl⟩ := eight h
  have := hl b0 (by simp); have := hl b1 (by simp); have := hl b2 (by simp); have := hl b3 (by simp)
  have := hl b4 (by simp); have := hl b5 (by simp); have := hl b6 (by simp); have := hl b7 (by simp)
  simp only [raw, w16, List.getD_cons_zero, List.getD_cons_succ, List.drop_succ_cons, List.drop_zero, List.cons.injEq, and_true]
  omega
/-- What is read is laid down. -/
theorem read_err {l : List Int} {s d : ByteArray} (hl : Bytes l) (h : perr l s d = 0) : err (w16 l 0) (w16 l 2) s d (l.length - 8) = 0 := by
  obtain ⟨h1, h2, h3, h4⟩ := perr_zero h
  have a := w16_in hl 0
  have b := w16_in hl 2
  have c := w16_in hl 4
  exact err_make a.1 a.2 b.1 b.2 h1 (by omega)
theorem read_bytes {l : List Int} {s d : ByteArray} (hl : Bytes l) (h : perr l s d = 0) (hn : w16 l 6 ≠ 0) : bytes (w16 l 0) (w16 l 2) s d (l.drop 8) = l := by
  obtain ⟨h1, h2, h3, h4⟩ := perr_zero h
  have a := w16_in hl 0
  have b := w16_in hl 2
  have c := w16_in hl 4
  have k := w16_in hl 6
  have hw : whole s d l = 65535 := by
    rcases h4 with h4 | h4
    · exact absurd h4.1 hn
    · exact h4.2
  have rb := raw_back hl h2
  have ld : (l.drop 8).length = l.length - 8 := List.length_drop
  have e4 : (8 + ((l.drop 8).length : Int)) = w16 l 4 := by rw [ld]; omega
  have b0 : Bytes (raw (w16 l 0) (w16 l 2) (w16 l 4) 0 (l.drop 8)) := raw_bytes a.1 a.2 b.1 b.2 c.1 c.2 (by omega) (by omega) (hl.drop 8)
  have l0 := raw_len (w16 l 0) (w16 l 2) (w16 l 4) 0 (l.drop 8)
  have e : chk (w16 l 0) (w16 l 2) s d (l.drop 8) = w16 l 6 := by
    unfold chk
    rw [e4, whole_fold b0 (by omega), l0, ld, show 8 + (l.length - 8) = l.length by omega]
    refine (fold_sure ?_ (by omega) k.2 ?_).symm
    · have := ahead_pos h1 (n := (l.length : Int)) (by omega)
      have := tot_lo _ b0
      omega
    · rw [whole_fold hl (by omega)] at hw
      have := raw_tot (w16 l 0) (w16 l 2) (w16 l 4) (w16 l 6) (l.drop 8)
      rw [rb] at this
      rw [Int.add_assoc, ← this]
      exact hw
  show raw (w16 l 0) (w16 l 2) (8 + ((l.drop 8).length : Int)) (chk (w16 l 0) (w16 l 2) s d (l.drop 8)) (l.drop 8) = l
  rw [e, e4, rb]
theorem bytes_drop (a b : Int) (s d : ByteArray) (l : List Int) : (bytes a b s d l).drop 8 = l := rfl

/-- Another byte at a place is found, or there is no check. -/
theorem turned {a b : Int} {s d : ByteArray} {l : List Int} (h : err a b s d l.length = 0) (hl : Bytes l) (i : Nat) (c y : Int) (c0 : 0 ≤ c) (c1 : c ≤ 255) (hy : (bytes a b s d l)[i]? = some y) (hc : y ≠ c)
    (hn : w16 ((bytes a b s d l).set i c) 6 ≠ 0) : perr ((bytes a b s d l).set i c) s d ≠ 0 := by
  intro k
  have W := bytes_whole h hl
  have bb := bytes_bytes h hl
  have ln := bytes_len a b s d l
  obtain ⟨h1, h2, h3, h4⟩ := err_zero h
  obtain ⟨k1, k2, k3, k4⟩ := perr_zero k
  have kw : whole s d ((bytes a b s d l).set i c) = 65535 := by
    rcases k4 with k4 | k4
    · exact absurd k4.1 hn
    · exact k4.2
  have yb := bb y (List.mem_of_getElem? hy)
  have sb : Bytes ((bytes a b s d l).set i c) := bb.set i c0 c1
  have sl : ((bytes a b s d l).set i c).length = 8 + l.length := by rw [List.length_set, ln]
  have t1 := tot_set _ i c y hy
  have t0 := tot_lo _ bb
  have ts := tot_lo _ sb
  have p0 := ahead_pos h3 (n := ((8 + l.length : Nat) : Int)) (by omega)
  rw [whole_fold bb (by omega), ln] at W
  rw [whole_fold sb (by omega), sl] at kw
  rw [t1] at kw ts
  have hw : wt i = 256 ∨ wt i = 1 := by unfold wt; split <;> simp
  generalize tot (ahead s d ((8 + l.length : Nat) : Int)) = T at *
  generalize tot (bytes a b s d l) = t at *
  unfold fold at W kw
  rw [if_neg (by omega)] at W
  rcases hw with hw | hw
  · rw [hw] at kw ts
    split at kw <;> omega
  · rw [hw] at kw ts
    split at kw <;> omega

end Go.Proofs.Ytmpioomhimldaaa.Dat
