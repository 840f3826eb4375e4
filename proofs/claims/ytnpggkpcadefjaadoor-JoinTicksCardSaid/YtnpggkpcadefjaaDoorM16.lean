/- Plain sums of rows behind one another: the sum of both is the sum of their sums. -/
import Derived.Test.YtnpggkpcadefjaaDoorSums
import Derived.Test.YtnpggkpcadefjaaDoorAppend
namespace Go.Proofs.YtnpggkpcadefjaaDoor.Sums

theorem add_assoc {a b c : Int} (a0 : 0 ≤ a) (a1 : a ≤ 65535) (b0 : 0 ≤ b) (b1 : b ≤ 65535) (c0 : 0 ≤ c) (c1 : c ≤ 65535) : add (add a b) c = add a (add b c) := by
  have e1 : ∀ x y : Int, 0 ≤ x → x ≤ 65535 → 0 ≤ y → y ≤ 65535 → add x y = if 65535 < x + y then x + y - 65535 else x + y := fun x y h1 h2 h3 h4 => by
    unfold add; rw [wd_id h1 h2, wd_id h3 h4]
  rw [e1 _ _ (add_lo _ _) (add_hi _ _) c0 c1, e1 _ _ a0 a1 (add_lo _ _) (add_hi _ _), e1 a b a0 a1 b0 b1, e1 b c b0 b1 c0 c1]
  repeat' split
  all_goals omega

theorem zero_add {a : Int} (h : 0 ≤ a) (k : a ≤ 65535) : add 0 a = a := by rw [add_comm, add_zero h k]

theorem sums_from (l : List Int) (hb : Bytes l) (s : Int) (h : 0 ≤ s) (k : s ≤ 65535) : sums s l = add s (sums 0 l) := by
  match l, hb with
  | [], _ => exact (add_zero h k).symm
  | [a], hb =>
    have := hb a (by simp)
    show add s (256 * a) = add s (add 0 (256 * a))
    rw [zero_add (by omega) (by omega)]
  | a :: b :: r, hb =>
    have ha := hb a (by simp)
    have hb' := hb b (by simp)
    have hr : Bytes r := fun z hz => hb z (by simp [hz])
    have i := sums_in r 0 (by omega) (by omega)
    show sums (add s (256 * a + b)) r = add s (sums (add 0 (256 * a + b)) r)
    rw [sums_from r hr _ (add_lo _ _) (add_hi _ _), zero_add (by omega) (by omega), sums_from r hr (256 * a + b) (by omega) (by omega), add_assoc h k (by omega) (by omega) i.1 i.2]
  termination_by l.length

theorem sums_append (a b : List Int) (h : a.length % 2 = 0) (s : Int) : sums s (a ++ b) = sums (sums s a) b := by
  match a, h with
  | [], _ => rfl
  | x :: y :: r, h =>
    show sums (add s (256 * x + y)) (r ++ b) = sums (sums (add s (256 * x + y)) r) b
    exact sums_append r b (by simp at h; omega) _
  termination_by a.length

theorem sums_parts (a b : List Int) (h : a.length % 2 = 0) (hb : Bytes b) : sums 0 (a ++ b) = add (sums 0 a) (sums 0 b) := by
  have i := sums_in a 0 (by omega) (by omega)
  rw [sums_append a b h, sums_from b hb _ i.1 i.2]

end Go.Proofs.YtnpggkpcadefjaaDoor.Sums

/- Plain sums as numbers by what is left of them by 65535: a word that is turned, two words that change places. -/
namespace Go.Proofs.YtnpggkpcadefjaaDoor.Sums

/-- A number folded onto the words: 0 stays 0, all else is 1 to 65535. -/
def fold (x : Int) : Int := if x = 0 then 0 else (x - 1) % 65535 + 1
theorem fold_lo (x : Int) : 0 ≤ fold x := by unfold fold; split <;> omega
theorem fold_hi (x : Int) : fold x ≤ 65535 := by unfold fold; split <;> omega
theorem fold_id {x : Int} (h : 0 ≤ x) (k : x ≤ 65535) : fold x = x := by unfold fold; split <;> omega
theorem fold_fold {x y : Int} (h : 0 ≤ x) (k : 0 ≤ y) : fold (fold x + y) = fold (x + y) := by
  unfold fold
  repeat' split
  all_goals omega
theorem add_fold {a b : Int} (a0 : 0 ≤ a) (a1 : a ≤ 65535) (b0 : 0 ≤ b) (b1 : b ≤ 65535) : add a b = fold (a + b) := by
  unfold add fold
  rw [wd_id a0 a1, wd_id b0 b1]
  repeat' split
  all_goals omega

/-- The sum of a row's words, as a number. -/
def tot : List Int → Int
  | [] => 0
  | [a] => 256 * a
  | a :: b :: r => 256 * a + b + tot r

theorem tot_lo (l : List Int) (hb : Bytes l) : 0 ≤ tot l := by
  match l, hb with
  | [], _ => exact Int.le_refl _
  | [a], hb => have := hb a (by simp); simp only [tot]; omega
  | a :: b :: r, hb =>
    have ha := hb a (by simp)
    have hb' := hb b (by simp)
    have := tot_lo r (fun z hz => hb z (by simp [hz]))
    simp only [tot]; omega
  termination_by l.length

theorem sums_fold (l : List Int) (hb : Bytes l) (s : Int) (h : 0 ≤ s) (k : s ≤ 65535) : sums s l = fold (s + tot l) := by
  match l, hb with
  | [], _ => simp only [sums, tot]; rw [fold_id (by omega) (by omega)]; omega
  | [a], hb =>
    have := hb a (by simp)
    simp only [sums, tot]
    rw [add_fold h k (by omega) (by omega)]
  | a :: b :: r, hb =>
    have ha := hb a (by simp)
    have hb' := hb b (by simp)
    have hr : Bytes r := fun z hz => hb z (by simp [hz])
    have t := tot_lo r hr
    simp only [sums, tot]
    rw [sums_fold r hr _ (add_lo _ _) (add_hi _ _), add_fold h k (by omega) (by omega), fold_fold (by omega) t]
    congr 1
    omega
  termination_by l.length

theorem sums_tot {l : List Int} (hb : Bytes l) : sums 0 l = fold (tot l) := by rw [sums_fold l hb 0 (by omega) (by omega), Int.zero_add]

def wt (j : Nat) : Int := if j % 2 = 0 then 256 else 1
theorem wt_even (i : Nat) : wt (2 * i) = 256 := by unfold wt; rw [if_pos (by omega)]
theorem wt_odd (i : Nat) : wt (2 * i + 1) = 1 := by unfold wt; rw [if_neg (by omega)]
theorem wt_two (i : Nat) : wt (i + 2) = wt i := by unfold wt; rw [show (i + 2) % 2 = i % 2 by omega]

theorem tot_set (l : List Int) (j : Nat) (x y : Int) (h : l[j]? = some y) : tot (l.set j x) = tot l + wt j * (x - y) := by
  match l, j, h with
  | [a], 0, h => simp at h; subst h; show 256 * x = 256 * a + 256 * (x - a); omega
  | a :: b :: r, 0, h => simp at h; subst h; show 256 * x + b + tot r = 256 * a + b + tot r + 256 * (x - a); omega
  | a :: b :: r, 1, h => simp at h; subst h; show 256 * a + x + tot r = 256 * a + b + tot r + 1 * (x - b); omega
  | a :: b :: r, j + 2, h =>
    have := tot_set r j x y (by simpa using h)
    show 256 * a + b + tot (r.set j x) = 256 * a + b + tot r + wt (j + 2) * (x - y)
    rw [this, wt_two]
    omega
  termination_by l.length

theorem Bytes.set {l : List Int} (h : Bytes l) (j : Nat) {z : Int} (h0 : 0 ≤ z) (h1 : z ≤ 255) : Bytes (l.set j z) := fun y hy => by
  rcases List.mem_or_eq_of_mem_set hy with hy | rfl
  · exact h y hy
  · exact ⟨h0, h1⟩

/-- A word put at an even place. -/
def put (l : List Int) (i : Nat) (x y : Int) : List Int := (l.set (2 * i) x).set (2 * i + 1) y
theorem put_bytes {l : List Int} (h : Bytes l) (i : Nat) {x y : Int} (x0 : 0 ≤ x) (x1 : x ≤ 255) (y0 : 0 ≤ y) (y1 : y ≤ 255) : Bytes (put l i x y) := (h.set _ x0 x1).set _ y0 y1
theorem put_len (l : List Int) (i : Nat) (x y : Int) : (put l i x y).length = l.length := by simp [put]
theorem put_at {l : List Int} {i j : Nat} {x y : Int} (h : j ≠ 2 * i) (k : j ≠ 2 * i + 1) : (put l i x y)[j]? = l[j]? := by
  unfold put
  rw [List.getElem?_set_ne (by omega), List.getElem?_set_ne (by omega)]
theorem put_at0 {l : List Int} {i : Nat} {x y : Int} (h : 2 * i < l.length) : (put l i x y)[2 * i]? = some x := by
  unfold put
  rw [List.getElem?_set_ne (by omega)]
  simp [h]
theorem put_at1 {l : List Int} {i : Nat} {x y : Int} (h : 2 * i + 1 < l.length) : (put l i x y)[2 * i + 1]? = some y := by
  unfold put
  simp [h]

theorem put_put (l : List Int) (i : Nat) (x y u v : Int) : put (put l i x y) i u v = put l i u v := by
  unfold put
  apply List.ext_getElem?
  intro j
  simp only [List.getElem?_set, List.length_set]
  repeat' split
  all_goals first | rfl | omega

theorem tot_put (l : List Int) (i : Nat) (x y u v : Int) (hu : l[2 * i]? = some u) (hv : l[2 * i + 1]? = some v) : tot (put l i x y) = tot l + (256 * x + y) - (256 * u + v) := by
  unfold put
  rw [tot_set _ (2 * i + 1) y v (by rw [List.getElem?_set_ne (by omega)]; exact hv), tot_set l (2 * i) x u hu, wt_even, wt_odd]
  omega

/-- Two words that have changed places. -/
theorem sums_swap (l : List Int) (hb : Bytes l) (i k : Nat) (a b c d : Int) (ha : l[2 * i]? = some a) (hb' : l[2 * i + 1]? = some b) (hc : l[2 * k]? = some c) (hd : l[2 * k + 1]? = some d) :
    sums 0 (put (put l i c d) k a b) = sums 0 l := by
  have mem : ∀ (j : Nat) (z : Int), l[j]? = some z → 0 ≤ z ∧ z ≤ 255 := fun j z h => hb z (List.mem_of_getElem? h)
  have a1 := mem _ _ ha
  have b1 := mem _ _ hb'
  have c1 := mem _ _ hc
  have d1 := mem _ _ hd
  have p1 := put_bytes hb i c1.1 c1.2 d1.1 d1.2
  rw [sums_tot (put_bytes p1 k a1.1 a1.2 b1.1 b1.2), sums_tot hb]
  congr 1
  by_cases e : i = k
  · subst e
    have l1 := (List.getElem?_eq_some_iff.1 hc).1
    have l2 := (List.getElem?_eq_some_iff.1 hd).1
    rw [tot_put _ i a b c d (put_at0 l1) (put_at1 l2), tot_put l i c d a b ha hb']
    omega
  · rw [tot_put _ k a b c d (by rw [put_at (by omega) (by omega)]; exact hc) (by rw [put_at (by omega) (by omega)]; exact hd), tot_put l i c d a b ha hb']
    omega

/-- 00 00 between two words. -/
theorem sums_gap (p q : List Int) (h : p.length % 2 = 0) : sums 0 (p ++ (0 :: 0 :: q)) = sums 0 (p ++ q) := by
  rw [sums_append p _ h, sums_append p _ h]
  have i := sums_in p 0 (by omega) (by omega)
  show sums (add (sums 0 p) (256 * 0 + 0)) q = _
  rw [show (256 * 0 + 0 : Int) = 0 from rfl, add_zero i.1 i.2]

theorem fold_zero {x : Int} (k : fold x = 0) : x = 0 := by
  unfold fold at k
  split at k <;> omega

/-- A check that is turned is the check of the bytes in which the word was turned. -/
theorem turn_put (l : List Int) (hb : Bytes l) (i : Nat) (u v x y : Int) (hu : l[2 * i]? = some u) (hv : l[2 * i + 1]? = some v) (x0 : 0 ≤ x) (x1 : x ≤ 255) (y0 : 0 ≤ y) (y1 : y ≤ 255) (h : sums 0 (put l i x y) ≠ 0) :
    turn (check l) (256 * u + v) (256 * x + y) = check (put l i x y) := by
  have mem : ∀ (j : Nat) (z : Int), l[j]? = some z → 0 ≤ z ∧ z ≤ 255 := fun j z h => hb z (List.mem_of_getElem? h)
  have u1 := mem _ _ hu
  have v1 := mem _ _ hv
  have pb := put_bytes hb i x0 x1 y0 y1
  have t0 := tot_lo l hb
  have t1 := tot_lo _ pb
  have e := tot_put l i x y u v hu hv
  rw [sums_tot pb] at h
  unfold turn check
  rw [sums_tot hb, sums_tot pb]
  have f0 := fold_lo (tot l)
  have f1 := fold_hi (tot l)
  rw [wd_id (by omega) (by omega), wd_id (by omega) (by omega)]
  rw [add_fold (a := 65535 - (65535 - fold (tot l))) (by omega) (by omega) (by omega) (by omega)]
  rw [add_fold (fold_lo _) (fold_hi _) (by omega) (by omega), fold_fold (by omega) (by omega)]
  generalize tot l = t at *
  generalize tot (put l i x y) = t' at *
  subst e
  unfold fold at h ⊢
  repeat' split at h
  all_goals repeat' split
  all_goals omega

/-- Bytes that have their check among them. -/
theorem whole_put (l : List Int) (hb : Bytes l) (i : Nat) (h : 2 * i + 1 < l.length) : sums 0 (put l i (check (put l i 0 0) / 256) (check (put l i 0 0) % 256)) = 65535 := by
  have z0 := put_bytes hb i (x := 0) (y := 0) (by omega) (by omega) (by omega) (by omega)
  have c := check_in (put l i 0 0)
  have e1 := tot_put l i 0 0 l[2 * i] l[2 * i + 1] (List.getElem?_eq_getElem (by omega)) (List.getElem?_eq_getElem h)
  have e2 := tot_put l i (check (put l i 0 0) / 256) (check (put l i 0 0) % 256) l[2 * i] l[2 * i + 1] (List.getElem?_eq_getElem (by omega)) (List.getElem?_eq_getElem h)
  have t0 := tot_lo _ z0
  rw [sums_tot (put_bytes hb i (by omega) (by omega) (by omega) (by omega)), e2]
  have ch : check (put l i 0 0) = 65535 - fold (tot (put l i 0 0)) := by unfold check; rw [sums_tot z0]
  have e3 : 256 * (check (put l i 0 0) / 256) + check (put l i 0 0) % 256 = check (put l i 0 0) := by omega
  rw [e3, ch]
  generalize tot (put l i 0 0) = t at *
  rw [show tot l + (65535 - fold t) - (256 * l[2 * i] + l[2 * i + 1]) = t + (65535 - fold t) by omega]
  unfold fold
  repeat' split
  all_goals omega

end Go.Proofs.YtnpggkpcadefjaaDoor.Sums

/- A packet as a value: its fields, whether it has an encoding, its head's bytes. No program is named but the kind of its numbers. -/
namespace Go.Proofs.YtnpggkpcadefjaaDoor.Pkt
open Go.RowKit Go.Proofs.YtnpggkpcadefjaaDoor.Sums Go.Proofs.YtnpggkpcadefjaaDoor.Mem

structure Pkt where
  tos : Int
  id : Int
  ttl : Int
  proto : Int
  df : Bool
  mf : Bool
  off : Int
  src : ByteArray
  dst : ByteArray
  opt : ByteArray

def Pkt.zero : Pkt := ⟨0, 0, 0, 0, false, false, 0, ⟨#[]⟩, ⟨#[]⟩, ⟨#[]⟩⟩
/-- Is a number from 0 to another one? -/
def wi (n m : Int) : Bool := decide (0 ≤ n) && decide (n ≤ m)
theorem wi_true {n m : Int} (h : wi n m = true) : 0 ≤ n ∧ n ≤ m := by unfold wi at h; simpa using h
theorem wi_make {n m : Int} (h : 0 ≤ n) (k : n ≤ m) : wi n m = true := by unfold wi; simp [h, k]

def Pkt.ok (p : Pkt) : Bool :=
  wi p.tos 255 && (wi p.ttl 255 && (wi p.proto 255 && (wi p.id 65535 && (wi p.off 65528 && (decide (p.off % 8 = 0) && (decide (p.src.size = 4) && (decide (p.dst.size = 4) && (decide (p.opt.size ≤ 40) && decide (p.opt.size % 4 = 0)))))))))
/-- What Check says of a packet with n bytes of data. -/
def Pkt.chk (p : Pkt) (n : Nat) : Int := if p.ok = true then (if 65535 < 20 + p.opt.size + n then 2 else 0) else 1

structure Valid (p : Pkt) : Prop where
  t0 : 0 ≤ p.tos
  t1 : p.tos ≤ 255
  l0 : 0 ≤ p.ttl
  l1 : p.ttl ≤ 255
  p0 : 0 ≤ p.proto
  p1 : p.proto ≤ 255
  i0 : 0 ≤ p.id
  i1 : p.id ≤ 65535
  o0 : 0 ≤ p.off
  o1 : p.off ≤ 65528
  o8 : p.off % 8 = 0
  s : p.src.size = 4
  d : p.dst.size = 4
  z : p.opt.size ≤ 40
  z4 : p.opt.size % 4 = 0

theorem Pkt.ok_valid {p : Pkt} (h : p.ok = true) : Valid p := by
  simp only [Pkt.ok, wi, Bool.and_eq_true, decide_eq_true_eq] at h
  obtain ⟨⟨a1, a2⟩, ⟨b1, b2⟩, ⟨c1, c2⟩, ⟨d1, d2⟩, ⟨e1, e2⟩, f, g, h, i, j⟩ := h
  exact ⟨a1, a2, b1, b2, c1, c2, d1, d2, e1, e2, f, g, h, i, j⟩
theorem Valid.ok {p : Pkt} (h : Valid p) : p.ok = true := by
  simp only [Pkt.ok, wi, Bool.and_eq_true, decide_eq_true_eq]
  exact ⟨⟨h.t0, h.t1⟩, ⟨h.l0, h.l1⟩, ⟨h.p0, h.p1⟩, ⟨h.i0, h.i1⟩, ⟨h.o0, h.o1⟩, h.o8, h.s, h.d, h.z, h.z4⟩

/-- The field that holds the offset. -/
def Pkt.place (p : Pkt) : Int := p.off / 8 + (if p.df then 16384 else 0) + (if p.mf then 8192 else 0)
def Pkt.first (p : Pkt) : Int := 64 + (5 + (p.opt.size : Int) / 4)
def Pkt.total (p : Pkt) (n : Nat) : Int := 20 + p.opt.size + n

theorem Valid.place {p : Pkt} (h : Valid p) : 0 ≤ p.place ∧ p.place ≤ 32767 := by
  have := h.o0
  have := h.o1
  unfold Pkt.place
  split <;> split <;> omega

/-- The numbers of a head, laid down. -/
def numsOf (first tos total id place ttl proto sum : Int) : List Int :=
  [first, tos, total / 256, total % 256, id / 256, id % 256, place / 256, place % 256, ttl, proto, sum / 256, sum % 256]
def Pkt.rest (p : Pkt) : List Int := nums p.src ++ (nums p.dst ++ nums p.opt)
/-- The head's bytes, with a number in the place of the check. -/
def Pkt.head (p : Pkt) (n : Nat) (sum : Int) : List Int := numsOf p.first p.tos (p.total n) p.id p.place p.ttl p.proto sum ++ p.rest
/-- .. with its check. -/
def Pkt.sum (p : Pkt) (n : Nat) : Int := check (p.head n 0)
def Pkt.bytes (p : Pkt) (l : List Int) : List Int := p.head l.length (p.sum l.length) ++ l

theorem Pkt.head_len {p : Pkt} (h : Valid p) (n : Nat) (s : Int) : (p.head n s).length = 20 + p.opt.size := by
  simp [Pkt.head, numsOf, Pkt.rest, nums_len, h.s, h.d]; omega
theorem Pkt.head_bytes {p : Pkt} (h : Valid p) {n : Nat} (hn : 20 + p.opt.size + n ≤ 65535) {s : Int} (s0 : 0 ≤ s) (s1 : s ≤ 65535) : Bytes (p.head n s) := by
  have hp := h.place
  have := h.t0; have := h.t1; have := h.l0; have := h.l1; have := h.p0; have := h.p1; have := h.i0; have := h.i1; have := h.z
  refine Bytes.append ?_ ((nums_bytes _).append ((nums_bytes _).append (nums_bytes _)))
  intro z hz
  simp only [numsOf, Pkt.first, Pkt.total, List.mem_cons, List.not_mem_nil, or_false] at hz
  rcases hz with rfl | rfl | rfl | rfl | rfl | rfl | rfl | rfl | rfl | rfl | rfl | rfl <;> omega

end Go.Proofs.YtnpggkpcadefjaaDoor.Pkt

