/- Plain sums as numbers by what is left of them by 65535: a word that is turned, two words that change places. -/
import Derived.Test.YtibfdacgdffpiaaDoorParts
namespace Go.Proofs.YtibfdacgdffpiaaDoor.Sums

/-- A number folded onto the words: 0 stays 0, all else is 1 to 65535. -/
def fold (x : Int) : Int := if x = 0 then 0 else (x - 1) % 65535 + 1
theorem fold_lo (x : Int) : 0 ≤ fold x := by unfold fold; split <;> omega
theorem fold_hi (x : Int) : fold x ≤ 65535 := by unfold fold; split <;> omega
theorem fold_id {x : Int} (h : 0 ≤ x) (k : x ≤ 65535) : fold x = x := by unfold fold; split <;> omega
theorem fold_fold {x y : Int} (h : 0 ≤ x) (k : 0 ≤ y) : fold (fold x + y) = fold (x + y) := by
  unfold fold
  repeat' split
  all_goals omega
theorem add_fold {a b : Int} (a0 : 0 ≤ a) (a1 : a ≤ 65535) (b0 : 0 ≤ b) (b1 : b ≤ 65535) : add a b = fold (a + b) := by
  unfold add fold
  rw [wd_id a0 a1, wd_id b0 b1]
  repeat' split
  all_goals omega

/-- The sum of a row's words, as a number. -/
def tot : List Int → Int
  | [] => 0
  | [a] => 256 * a
  | a :: b :: r => 256 * a + b + tot r

theorem tot_lo (l : List Int) (hb : Bytes l) : 0 ≤ tot l := by
  match l, hb with
  | [], _ => exact Int.le_refl _
  | [a], hb => have := hb a (by simp); simp only [tot]; omega
  | a :: b :: r, hb =>
    have ha := hb a (by simp)
    have hb' := hb b (by simp)
    have := tot_lo r (fun z hz => hb z (by simp [hz]))
    simp only [tot]; omega
  termination_by l.length

theorem sums_fold (l : List Int) (hb : Bytes l) (s : Int) (h : 0 ≤ s) (k : s ≤ 65535) : sums s l = fold (s + tot l) := by
  match l, hb with
  | [], _ => simp only [sums, tot]; rw [fold_id (by omega) (by omega)]; omega
  | [a], hb =>
    have := hb a (by simp)
    simp only [sums, tot]
    rw [add_fold h k (by omega) (by omega)]
  | a :: b :: r, hb =>
    have ha := hb a (by simp)
    have hb' := hb b (by simp)
    have hr : Bytes r := fun z hz => hb z (by simp [hz])
    have t := tot_lo r hr
    simp only [sums, tot]
    rw [sums_fold r hr _ (add_lo _ _) (add_hi _ _), add_fold h k (by omega) (by omega), fold_fold (by omega) t]
    congr 1
    omega
  termination_by l.length

theorem sums_tot {l : List Int} (hb : Bytes l) : sums 0 l = fold (tot l) := by rw [sums_fold l hb 0 (by omega) (by omega), Int.zero_add]

def wt (j : Nat) : Int := if j % 2 = 0 then 256 else 1
theorem wt_even (i : Nat) : wt (2 * i) = 256 := by unfold wt; rw [if_pos (by omega)]
theorem wt_odd (i : Nat) : wt (2 * i + 1) = 1 := by unfold wt; rw [if_neg (by omega)]
theorem wt_two (i : Nat) : wt (i + 2) = wt i := by unfold wt; rw [show (i + 2) % 2 = i % 2 by omega]

theorem tot_set (l : List Int) (j : Nat) (x y : Int) (h : l[j]? = some y) : tot (l.set j x) = tot l + wt j * (x - y) := by
  match l, j, h with
  | [a], 0, h => simp at h; subst h; show 256 * x = 256 * a + 256 * (x - a); omega
  | a :: b :: r, 0, h => simp at h; subst h; show 256 * x + b + tot r = 256 * a + b + tot r + 256 * (x - a); omega
  | a :: b :: r, 1, h => simp at h; subst h; show 256 * a + x + tot r = 256 * a + b + tot r + 1 * (x - b); omega
  | a :: b :: r, j + 2, h =>
    have := tot_set r j x y (by simpa using h)
    show 256 * a + b + tot (r.set j x) = 256 * a + b + tot r + wt (j + 2) * (x - y)
    rw [this, wt_two]
    omega
  termination_by l.length

theorem Bytes.set {l : List Int} (h : Bytes l) (j : Nat) {z : Int} (h0 : 0 ≤ z) (h1 : z ≤ 255) : Bytes (l.set j z) := fun y hy => by
  rcases List.mem_or_eq_of_mem_set hy with hy | rfl
  · exact h y hy
  · exact ⟨h0, h1⟩

/-- A word put at an even place. -/
def put (l : List Int) (i : Nat) (x y : Int) : List Int := (l.set (2 * i) x).set (2 * i + 1) y
theorem put_bytes {l : List Int} (h : Bytes l) (i : Nat) {x y : Int} (x0 : 0 ≤ x) (x1 : x ≤ 255) (y0 : 0 ≤ y) (y1 : y ≤ 255) : Bytes (put l i x y) := (h.set _ x0 x1).set _ y0 y1
theorem put_len (l : List Int) (i : Nat) (x y : Int) : (put l i x y).length = l.length := by simp [put]
theorem put_at {l : List Int} {i j : Nat} {x y : Int} (h : j ≠ 2 * i) (k : j ≠ 2 * i + 1) : (put l i x y)[j]? = l[j]? := by
  unfold put
  rw [List.getElem?_set_ne (by omega), List.getElem?_set_ne (by omega)]
theorem put_at0 {l : List Int} {i : Nat} {x y : Int} (h : 2 * i < l.length) : (put l i x y)[2 * i]? = some x := by
  unfold put
  rw [List.getElem?_set_ne (by omega)]
  simp [h]
theorem put_at1 {l : List Int} {i : Nat} {x y : Int} (h : 2 * i + 1 < l.length) : (put l i x y)[2 * i + 1]? = some y := by
  unfold put
  simp [h]

theorem put_put (l : List Int) (i : Nat) (x y u v : Int) : put (put l i x y) i u v = put l i u v := by
  unfold put
  apply List.ext_getElem?
  intro j
  simp only [List.getElem?_set, List.length_set]
  repeat' split
  all_goals first | rfl | omega

theorem tot_put (l : List Int) (i : Nat) (x y u v : Int) (hu : l[2 * i]? = some u) (hv : l[2 * i + 1]? = some v) : tot (put l i x y) = tot l + (256 * x + y) - (256 * u + v) := by
  unfold put
  rw [tot_set _ (2 * i + 1) y v (by rw [List.getElem?_set_ne (by omega)]; exact hv), tot_set l (2 * i) x u hu, wt_even, wt_odd]
  omega

/-- Two words that have changed places. -/
theorem sums_swap (l : List Int) (hb : Bytes l) (i k : Nat) (a b c d : Int) (ha : l[2 * i]? = some a) (hb' : l[2 * i + 1]? = some b) (hc : l[2 * k]? = some c) (hd : l[2 * k + 1]? = some d) :
    sums 0 (put (put l i c d) k a b) = sums 0 l := by
  have mem : ∀ (j : Nat) (z : Int), l[j]? = some z → 0 ≤ z ∧ z ≤ 255 := fun j z h => hb z (List.mem_of_getElem? h)
  have a1 := mem _ _ ha
  have b1 := mem _ _ hb'
  have c1 := mem _ _ hc
  have d1 := mem _ _ hd
  have p1 := put_bytes hb i c1.1 c1.2 d1.1 d1.2
  rw [sums_tot (put_bytes p1 k a1.1 a1.2 b1.1 b1.2), sums_tot hb]
  congr 1
  by_cases e : i = k
  · subst e
    have l1 := (List.getElem?_eq_some_iff.1 hc).1
    have l2 := (List.getElem?_eq_some_iff.1 hd).1
    rw [tot_put _ i a b c d (put_at0 l1) (put_at1 l2), tot_put l i c d a b ha hb']
    omega
  · rw [tot_put _ k a b c d (by rw [put_at (by omega) (by omega)]; exact hc) (by rw [put_at (by omega) (by omega)]; exact hd), tot_put l i c d a b ha hb']
    omega

/-- 00 00 between two words. -/
theorem sums_gap (p q : List Int) (h : p.length % 2 = 0) : sums 0 (p ++ (0 :: 0 :: q)) = sums 0 (p ++ q) := by
  rw [sums_append p _ h, sums_append p _ h]
  have i := sums_in p 0 (by omega) (by omega)
  show sums (add (sums 0 p) (256 * 0 + 0)) q = _
  rw [show (256 * 0 + 0 : Int) = 0 from rfl, add_zero i.1 i.2]

theorem fold_zero {x : Int} (k : fold x = 0) : x = 0 := by
  unfold fold at k
  split at k <;> omega

/-- A check that is turned is the check of the bytes in which the word was turned. -/
theorem turn_put (l : List Int) (hb : Bytes l) (i : Nat) (u v x y : Int) (hu : l[2 * i]? = some u) (hv : l[2 * i + 1]? = some v) (x0 : 0 ≤ x) (x1 : x ≤ 255) (y0 : 0 ≤ y) (y1 : y ≤ 255) (h : sums 0 (put l i x y) ≠ 0) :
    turn (check l) (256 * u + v) (256 * x + y) = check (put l i x y) := by
  have mem : ∀ (j : Nat) (z : Int), l[j]? = some z → 0 ≤ z ∧ z ≤ 255 := fun j z h => hb z (List.mem_of_getElem? h)
  have u1 := mem _ _ hu
  have v1 := mem _ _ hv
  have pb := put_bytes hb i x0 x1 y0 y1
  have t0 := tot_lo l hb
  have t1 := tot_lo _ pb
  have e := tot_put l i x y u v hu hv
  rw [sums_tot pb] at h
  unfold turn check
  rw [sums_tot hb, sums_tot pb]
  have f0 := fold_lo (tot l)
  have f1 := fold_hi (tot l)
  rw [wd_id (by omega) (by omega), wd_id (by omega) (by omega)]
  rw [add_fold (a := 65535 - (65535 - fold (tot l))) (by omega) (by omega) (by omega) (by omega)]
  rw [add_fold (fold_lo _) (fold_hi _) (by omega) (by omega), fold_fold (by omega) (by omega)]
  generalize tot l = t at *
  generalize tot (put l i x y) = t' at *
  subst e
  unfold fold at h ⊢
  repeat' split at h
  all_goals repeat' split
  all_goals omega

/-- Bytes that have their check among them. -/
theorem whole_put (l : List Int) (hb : Bytes l) (i : Nat) (h : 2 * i + 1 < l.length) : sums 0 (put l i (check (put l i 0 0) / 256) (check (put l i 0 0) % 256)) = 65535 := by
  have z0 := put_bytes hb i (x := 0) (y := 0) (by omega) (by omega) (by omega) (by omega)
  have c := check_in (put l i 0 0)
  have e1 := tot_put l i 0 0 l[2 * i] l[2 * i + 1] (List.getElem?_eq_getElem (by omega)) (List.getElem?_eq_getElem h)
  have e2 := tot_put l i (check (put l i 0 0) / 256) (check (put l i 0 0) % 256) l[2 * i] l[2 * i + 1] (List.getElem?_eq_getElem (by omega)) (List.getElem?_eq_getElem h)
  have t0 := tot_lo _ z0
  rw [sums_tot (put_bytes hb i (by omega) (by omega) (by omega) (by omega)), e2]
  have ch : check (put l i 0 0) = 65535 - fold (tot (put l i 0 0)) := by unfold check; rw [sums_tot z0]
  have e3 : 256 * (check (put l i 0 0) / 256) + check (put l i 0 0) % 256 = check (put l i 0 0) := by omega
  rw [e3, ch]
  generalize tot (put l i 0 0) = t at *
  rw [show tot l + (65535 - fold t) - (256 * l[2 * i] + l[2 * i + 1]) = t + (65535 - fold t) by omega]
  unfold fold
  repeat' split
  all_goals omega

end Go.Proofs.YtibfdacgdffpiaaDoor.Sums
