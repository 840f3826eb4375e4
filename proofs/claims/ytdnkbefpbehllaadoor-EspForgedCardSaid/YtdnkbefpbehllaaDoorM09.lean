/- A block under a key: plain facts about numbers: Box, rounds, keys; unlike blocks stay unlike. No program is named but the kind of its numbers. -/
import Derived.Test.YtdnkbefpbehllaaDoorM08
set_option linter.unusedVariables false
namespace Go.Proofs.YtdnkbefpbehllaaDoor.AesB
open Go.Proofs.YtdnkbefpbehllaaDoor.AesF

/-- Seven rounds toward the power 254. -/
def igo : Nat → Nat → Nat → Nat
  | 0, _, n => n
  | k + 1, p, n => igo k (T p p) (T n (T p p))
def inv (x : Nat) : Nat := if x = 0 then 0 else igo 7 x 1
def rotl (b : Nat) : Nat := b * 2 % 256 + b / 128
/-- k rotations, each one added. -/
def bgo : Nat → Nat → Nat → Nat
  | 0, _, n => n
  | k + 1, b, n => bgo k (rotl b) (n ^^^ rotl b)
def Box (x : Nat) : Nat := bgo 4 (inv x) (inv x ^^^ 99)
/-- All of them. -/
def boxL : List Nat := [99, 124, 119, 123, 242, 107, 111, 197, 48, 1, 103, 43, 254, 215, 171, 118, 202, 130, 201, 125, 250, 89, 71, 240, 173, 212, 162, 175, 156, 164, 114, 192, 183, 253, 147, 38, 54, 63, 247, 204, 52, 165, 229, 241, 113, 216, 49, 21, 4, 199, 35, 195, 24, 150, 5, 154, 7, 18, 128, 226, 235, 39, 178, 117, 9, 131, 44, 26, 27, 110, 90, 160, 82, 59, 214, 179, 41, 227, 47, 132, 83, 209, 0, 237, 32, 252, 177, 91, 106, 203, 190, 57, 74, 76, 88, 207, 208, 239, 170, 251, 67, 77, 51, 133, 69, 249, 2, 127, 80, 60, 159, 168, 81, 163, 64, 143, 146, 157, 56, 245, 188, 182, 218, 33, 16, 255, 243, 210, 205, 12, 19, 236, 95, 151, 68, 23, 196, 167, 126, 61, 100, 93, 25, 115, 96, 129, 79, 220, 34, 42, 144, 136, 70, 238, 184, 20, 222, 94, 11, 219, 224, 50, 58, 10, 73, 6, 36, 92, 194, 211, 172, 98, 145, 149, 228, 121, 231, 200, 55, 109, 141, 213, 78, 169, 108, 86, 244, 234, 101, 122, 174, 8, 186, 120, 37, 46, 28, 166, 180, 198, 232, 221, 116, 31, 75, 189, 139, 138, 112, 62, 181, 102, 72, 3, 246, 14, 97, 53, 87, 185, 134, 193, 29, 158, 225, 248, 152, 17, 105, 217, 142, 148, 155, 30, 135, 233, 206, 85, 40, 223, 140, 161, 137, 13, 191, 230, 66, 104, 65, 153, 45, 15, 176, 84, 187, 22]
def unboxL : List Nat := [82, 9, 106, 213, 48, 54, 165, 56, 191, 64, 163, 158, 129, 243, 215, 251, 124, 227, 57, 130, 155, 47, 255, 135, 52, 142, 67, 68, 196, 222, 233, 203, 84, 123, 148, 50, 166, 194, 35, 61, 238, 76, 149, 11, 66, 250, 195, 78, 8, 46, 161, 102, 40, 217, 36, 178, 118, 91, 162, 73, 109, 139, 209, 37, 114, 248, 246, 100, 134, 104, 152, 22, 212, 164, 92, 204, 93, 101, 182, 146, 108, 112, 72, 80, 253, 237, 185, 218, 94, 21, 70, 87, 167, 141, 157, 132, 144, 216, 171, 0, 140, 188, 211, 10, 247, 228, 88, 5, 184, 179, 69, 6, 208, 44, 30, 143, 202, 63, 15, 2, 193, 175, 189, 3, 1, 19, 138, 107, 58, 145, 17, 65, 79, 103, 220, 234, 151, 242, 207, 206, 240, 180, 230, 115, 150, 172, 116, 34, 231, 173, 53, 133, 226, 249, 55, 232, 28, 117, 223, 110, 71, 241, 26, 113, 29, 41, 197, 137, 111, 183, 98, 14, 170, 24, 190, 27, 252, 86, 62, 75, 198, 210, 121, 32, 154, 219, 192, 254, 120, 205, 90, 244, 31, 221, 168, 51, 136, 7, 199, 49, 177, 18, 16, 89, 39, 128, 236, 95, 96, 81, 127, 169, 25, 181, 74, 13, 45, 229, 122, 159, 147, 201, 156, 239, 160, 224, 59, 77, 174, 42, 245, 176, 200, 235, 187, 60, 131, 83, 153, 97, 23, 43, 4, 126, 186, 119, 214, 38, 225, 105, 20, 99, 85, 33, 12, 125]
theorem boxL_len : boxL.length = 256 := by decide +kernel
theorem box_all : ∀ x : Fin 256, Box x.val = boxL.getD x.val 0 := by decide +kernel
theorem Box_is {x : Nat} (h : x < 256) : Box x = boxL.getD x 0 := box_all ⟨x, h⟩
theorem Box_lt {x : Nat} (h : x < 256) : Box x < 256 := by
  have : ∀ x : Fin 256, boxL.getD x.val 0 < 256 := by decide +kernel
  rw [Box_is h]; exact this ⟨x, h⟩
theorem Box_inj {x y : Nat} (hx : x < 256) (hy : y < 256) (h : Box x = Box y) : x = y := by
  have : ∀ x : Fin 256, unboxL.getD (boxL.getD x.val 0) 0 = x.val := by decide +kernel
  have a := this ⟨x, hx⟩
  have b := this ⟨y, hy⟩
  rw [Box_is hx, Box_is hy] at h
  simp only at a b
  rw [← a, ← b, h]

/-- Rows of bytes. -/
def Byt (l : List Nat) : Prop := ∀ x ∈ l, x < 256
theorem Byt.get {l : List Nat} (h : Byt l) (i : Nat) : l.getD i 0 < 256 := by
  rw [List.getD_eq_getElem?_getD]
  cases e : l[i]? with
  | none => decide
  | some z => exact h z (List.mem_of_getElem? e)
theorem Byt.drop {l : List Nat} (h : Byt l) (k : Nat) : Byt (l.drop k) := fun x hx => h x (List.mem_of_mem_drop hx)
def row (f : Nat → Nat) : List Nat := (List.range 16).map f
theorem row_len (f : Nat → Nat) : (row f).length = 16 := by simp [row]
theorem row_get (f : Nat → Nat) {i : Nat} (h : i < 16) : (row f).getD i 0 = f i := by
  rw [List.getD_eq_getElem?_getD, row, List.getElem?_map, List.getElem?_range h]
  rfl
theorem row_byt {f : Nat → Nat} (h : ∀ i, i < 16 → f i < 256) : Byt (row f) := by
  intro x hx
  obtain ⟨i, hi, rfl⟩ := List.mem_map.1 hx
  exact h i (List.mem_range.1 hi)
theorem row_eq {f g : Nat → Nat} (h : row f = row g) {i : Nat} (hi : i < 16) : f i = g i := by
  rw [← row_get f hi, ← row_get g hi, h]
theorem ext16 {a b : List Nat} (ha : a.length = 16) (hb : b.length = 16) (h : ∀ i, i < 16 → a.getD i 0 = b.getD i 0) : a = b := by
  apply List.ext_getElem (by omega)
  intro i h1 h2
  have := h i (by omega)
  rwa [List.getD_eq_getElem?_getD, List.getD_eq_getElem?_getD, List.getElem?_eq_getElem h1, List.getElem?_eq_getElem h2] at this

/-- A block unlike sixteen bytes of keys. -/
def wth (b ks : List Nat) : List Nat := row fun i => b.getD i 0 ^^^ ks.getD i 0
/-- Where the byte at a place comes from. -/
def src (i : Nat) : Nat := i % 4 + 4 * ((i / 4 + i % 4) % 4)
def sub (b : List Nat) : List Nat := row fun i => Box (b.getD (src i) 0)
def mix4 (a b c d : Nat) : Nat := T a 2 ^^^ T b 3 ^^^ c ^^^ d
def mixl (c : List Nat) : List Nat := row fun i => mix4 (c.getD i 0) (c.getD (i / 4 * 4 + (i + 1) % 4) 0) (c.getD (i / 4 * 4 + (i + 2) % 4) 0) (c.getD (i / 4 * 4 + (i + 3) % 4) 0)
/-- n rounds more. -/
def rounds : Nat → List Nat → List Nat → List Nat
  | 0, b, _ => b
  | n + 1, b, ks => rounds n (wth (if n = 0 then sub b else mixl (sub b)) ks) (ks.drop 16)
def block (ks b : List Nat) : List Nat := rounds (ks.length / 16 - 1) (wth b ks) (ks.drop 16)

theorem wth_byt {b ks : List Nat} (hb : Byt b) (hk : Byt ks) : Byt (wth b ks) := row_byt fun i _ => xor_lt (hb.get i) (hk.get i)
theorem sub_byt {b : List Nat} (hb : Byt b) : Byt (sub b) := row_byt fun i _ => Box_lt (hb.get _)
theorem mix4_lt {a b c d : Nat} (ha : a < 256) (hb : b < 256) (hc : c < 256) (hd : d < 256) : mix4 a b c d < 256 := xor_lt (xor_lt (xor_lt (T_lt ha _) (T_lt hb _)) hc) hd
theorem mixl_byt {b : List Nat} (hb : Byt b) : Byt (mixl b) := row_byt fun i _ => mix4_lt (hb.get _) (hb.get _) (hb.get _) (hb.get _)
theorem rounds_byt : ∀ (n : Nat) (b ks : List Nat), Byt b → Byt ks → Byt (rounds n b ks)
  | 0, _, _, hb, _ => hb
  | n + 1, b, ks, hb, hk => by
    rw [rounds]
    refine rounds_byt n _ _ (wth_byt ?_ hk) (hk.drop 16)
    split
    · exact sub_byt hb
    · exact mixl_byt (sub_byt hb)
theorem rounds_len : ∀ (n : Nat) (b ks : List Nat), b.length = 16 → (rounds n b ks).length = 16
  | 0, _, _, h => h
  | n + 1, b, ks, h => by
    rw [rounds]
    exact rounds_len n _ _ (row_len _)
theorem block_len (ks b : List Nat) : (block ks b).length = 16 := rounds_len _ _ _ (row_len _)
theorem block_byt {ks b : List Nat} (hk : Byt ks) (hb : Byt b) : Byt (block ks b) := rounds_byt _ _ _ (wth_byt hb hk) (hk.drop 16)

theorem wth_inj {a b ks : List Nat} (ha : a.length = 16) (hb : b.length = 16) (h : wth a ks = wth b ks) : a = b := by
  refine ext16 ha hb fun i hi => ?_
  have e := row_eq h hi
  have := congrArg (· ^^^ ks.getD i 0) e
  simpa [Nat.xor_assoc] using this
theorem src_all : ∀ j : Fin 16, ∃ i : Fin 16, src i.val = j.val := by decide
theorem sub_inj {a b : List Nat} (ha : a.length = 16) (hb : b.length = 16) (ba : Byt a) (bb : Byt b) (h : sub a = sub b) : a = b := by
  refine ext16 ha hb fun j hj => ?_
  obtain ⟨i, hi⟩ := src_all ⟨j, hj⟩
  have e := row_eq h i.isLt
  have := Box_inj (ba.get _) (bb.get _) e
  rwa [hi] at this

/-! ### Columns, and back -/
theorem col0 : ∀ a : Fin 256, T (T a.val 2) 14 ^^^ T a.val 11 ^^^ T a.val 13 ^^^ T (T a.val 3) 9 = a.val := by decide +kernel
theorem col1 : ∀ a : Fin 256, T (T a.val 3) 14 ^^^ T (T a.val 2) 11 ^^^ T a.val 13 ^^^ T a.val 9 = 0 := by decide +kernel
theorem col2 : ∀ a : Fin 256, T a.val 14 ^^^ T (T a.val 3) 11 ^^^ T (T a.val 2) 13 ^^^ T a.val 9 = 0 := by decide +kernel
theorem col3 : ∀ a : Fin 256, T a.val 14 ^^^ T a.val 11 ^^^ T (T a.val 3) 13 ^^^ T (T a.val 2) 9 = 0 := by decide +kernel
theorem mix4_T {a b c d : Nat} (ha : a < 256) (hb : b < 256) (hc : c < 256) (hd : d < 256) (k : Nat) : T (mix4 a b c d) k = T (T a 2) k ^^^ T (T b 3) k ^^^ T c k ^^^ T d k := by
  have a2 := T_lt ha 2
  have b3 := T_lt hb 3
  unfold mix4
  rw [T_left (xor_lt (xor_lt a2 b3) hc) hd, T_left (xor_lt a2 b3) hc, T_left a2 b3]
theorem unmix {a b c d : Nat} (ha : a < 256) (hb : b < 256) (hc : c < 256) (hd : d < 256) :
    T (mix4 a b c d) 14 ^^^ T (mix4 b c d a) 11 ^^^ T (mix4 c d a b) 13 ^^^ T (mix4 d a b c) 9 = a := by
  have e0 := col0 ⟨a, ha⟩
  have e1 := col1 ⟨b, hb⟩
  have e2 := col2 ⟨c, hc⟩
  have e3 := col3 ⟨d, hd⟩
  simp only at e0 e1 e2 e3
  rw [mix4_T ha hb hc hd, mix4_T hb hc hd ha, mix4_T hc hd ha hb, mix4_T hd ha hb hc]
  have : (T (T a 2) 14 ^^^ T a 11 ^^^ T a 13 ^^^ T (T a 3) 9) ^^^ ((T (T b 3) 14 ^^^ T (T b 2) 11 ^^^ T b 13 ^^^ T b 9) ^^^ ((T c 14 ^^^ T (T c 3) 11 ^^^ T (T c 2) 13 ^^^ T c 9) ^^^ (T d 14 ^^^ T d 11 ^^^ T (T d 3) 13 ^^^ T (T d 2) 9))) = a := by
    rw [e0, e1, e2, e3, Nat.xor_zero, Nat.xor_zero, Nat.xor_zero]
  refine Eq.trans ?_ this
  generalize T (T a 2) 14 = a0, T a 11 = a1, T a 13 = a2, T (T a 3) 9 = a3
  generalize T (T b 3) 14 = b0, T (T b 2) 11 = b1, T b 13 = b2, T b 9 = b3
  generalize T c 14 = c0, T (T c 3) 11 = c1, T (T c 2) 13 = c2, T c 9 = c3
  generalize T d 14 = d0, T d 11 = d1, T (T d 3) 13 = d2, T (T d 2) 9 = d3
  ac_rfl
theorem mixl_inj {a b : List Nat} (ha : a.length = 16) (hb : b.length = 16) (ba : Byt a) (bb : Byt b) (h : mixl a = mixl b) : a = b := by
  refine ext16 ha hb fun i hi => ?_
  have A := fun j => ba.get j
  have B := fun j => bb.get j
  have key : ∀ (q r : Nat), q < 4 → r < 4 → a.getD (q * 4 + r) 0 = b.getD (q * 4 + r) 0 := by
    intro q r hq hr
    have E := fun (t : Nat) (ht : t < 4) => row_eq h (show q * 4 + t < 16 by omega)
    have u := unmix (A (q * 4 + r)) (A (q * 4 + (r + 1) % 4)) (A (q * 4 + (r + 2) % 4)) (A (q * 4 + (r + 3) % 4))
    have v := unmix (B (q * 4 + r)) (B (q * 4 + (r + 1) % 4)) (B (q * 4 + (r + 2) % 4)) (B (q * 4 + (r + 3) % 4))
    have E0 := E 0 (by decide)
    have E1 := E 1 (by decide)
    have E2 := E 2 (by decide)
    have E3 := E 3 (by decide)
    have d0 : (q * 4 + 0) / 4 * 4 = q * 4 := by omega
    have d1 : (q * 4 + 1) / 4 * 4 = q * 4 := by omega
    have d2 : (q * 4 + 2) / 4 * 4 = q * 4 := by omega
    have d3 : (q * 4 + 3) / 4 * 4 = q * 4 := by omega
    have m : ∀ t x, (q * 4 + t + x) % 4 = (t + x) % 4 := by intro t x; omega
    rw [d0, m, m, m] at E0
    rw [d1, m, m, m] at E1
    rw [d2, m, m, m] at E2
    rw [d3, m, m, m] at E3
    rcases (show r = 0 ∨ r = 1 ∨ r = 2 ∨ r = 3 by omega) with rfl | rfl | rfl | rfl
    all_goals
      simp only [Nat.reduceAdd, Nat.reduceMod] at u v E0 E1 E2 E3 ⊢
      rw [← u, ← v, E0, E1, E2, E3]
  have := key (i / 4) (i % 4) (by omega) (by omega)
  rwa [show i / 4 * 4 + i % 4 = i by omega] at this
theorem rounds_inj : ∀ (n : Nat) (a b ks : List Nat), a.length = 16 → b.length = 16 → Byt a → Byt b → Byt ks → rounds n a ks = rounds n b ks → a = b
  | 0, _, _, _, _, _, _, _, _, h => h
  | n + 1, a, b, ks, ha, hb, ba, bb, hk, h => by
    rw [rounds, rounds] at h
    by_cases q : n = 0
    · rw [if_pos q, if_pos q] at h
      have e := rounds_inj n _ _ _ (row_len _) (row_len _) (wth_byt (sub_byt ba) hk) (wth_byt (sub_byt bb) hk) (hk.drop 16) h
      exact sub_inj ha hb ba bb (wth_inj (row_len _) (row_len _) e)
    · rw [if_neg q, if_neg q] at h
      have e := rounds_inj n _ _ _ (row_len _) (row_len _) (wth_byt (mixl_byt (sub_byt ba)) hk) (wth_byt (mixl_byt (sub_byt bb)) hk) (hk.drop 16) h
      exact sub_inj ha hb ba bb (mixl_inj (row_len _) (row_len _) (sub_byt ba) (sub_byt bb) (wth_inj (row_len _) (row_len _) e))
/-- Unlike blocks have unlike answers under one key. -/
theorem block_inj {ks a b : List Nat} (ha : a.length = 16) (hb : b.length = 16) (ba : Byt a) (bb : Byt b) (hk : Byt ks) (h : block ks a = block ks b) : a = b :=
  wth_inj ha hb (rounds_inj _ _ _ _ (row_len _) (row_len _) (wth_byt ba hk) (wth_byt bb hk) (hk.drop 16) h)
end Go.Proofs.YtdnkbefpbehllaaDoor.AesB

/- The keys of a key: plain facts about numbers. No program is named but the kind of its numbers. -/
set_option linter.unusedVariables false
namespace Go.Proofs.YtdnkbefpbehllaaDoor.AesK
open Go.Proofs.YtdnkbefpbehllaaDoor.AesF Go.Proofs.YtdnkbefpbehllaaDoor.AesB

/-- The word that number i is made from: the four bytes ahead of it, turned or not. -/
def tword (nk i turn : Nat) (o : List Nat) : List Nat :=
  let w := fun k => o.getD (4 * i - 4 + k) 0
  if i % nk = 0 then [Box (w 1) ^^^ turn, Box (w 2), Box (w 3), Box (w 0)]
  else if nk = 8 ∧ i % 8 = 4 then [Box (w 0), Box (w 1), Box (w 2), Box (w 3)]
  else [w 0, w 1, w 2, w 3]
/-- The next constant. -/
def nturn (nk i turn : Nat) : Nat := if i % nk = 0 then T turn 2 else turn
/-- Word number i. -/
def nword (nk i turn : Nat) (o : List Nat) : List Nat := [0, 1, 2, 3].map fun k => (tword nk i turn o).getD k 0 ^^^ o.getD (4 * (i - nk) + k) 0
/-- n words more. -/
def kgo (nk : Nat) : Nat → Nat → Nat → List Nat → List Nat
  | 0, _, _, o => o
  | n + 1, i, turn, o => kgo nk n (i + 1) (nturn nk i turn) (o ++ nword nk i turn o)
def keys (key : List Nat) : List Nat := kgo (key.length / 4) (4 * (key.length / 4 + 7) - key.length / 4) (key.length / 4) 1 key

theorem nword_len (nk i turn : Nat) (o : List Nat) : (nword nk i turn o).length = 4 := rfl
theorem tword_byt {nk i turn : Nat} {o : List Nat} (ho : Byt o) (ht : turn < 256) : Byt (tword nk i turn o) := by
  have B := fun k => Box_lt (ho.get k)
  unfold tword
  intro x hx
  simp only at hx
  repeat' split at hx
  all_goals simp only [List.mem_cons, List.not_mem_nil, or_false] at hx
  · rcases hx with rfl | rfl | rfl | rfl
    · exact xor_lt (B _) ht
    all_goals exact B _
  · rcases hx with rfl | rfl | rfl | rfl
    all_goals exact B _
  · rcases hx with rfl | rfl | rfl | rfl
    all_goals exact ho.get _
theorem nword_byt {nk i turn : Nat} {o : List Nat} (ho : Byt o) (ht : turn < 256) : Byt (nword nk i turn o) := by
  intro x hx
  obtain ⟨k, _, rfl⟩ := List.mem_map.1 hx
  exact xor_lt ((tword_byt ho ht).get k) (ho.get _)
theorem nturn_lt {nk i turn : Nat} (ht : turn < 256) : nturn nk i turn < 256 := by
  unfold nturn
  split
  · exact T_lt ht _
  · exact ht
theorem Byt.app {a b : List Nat} (ha : Byt a) (hb : Byt b) : Byt (a ++ b) := fun x hx => by
  rcases List.mem_append.1 hx with h | h
  · exact ha x h
  · exact hb x h
theorem kgo_byt (nk : Nat) : ∀ (n i turn : Nat) (o : List Nat), turn < 256 → Byt o → Byt (kgo nk n i turn o)
  | 0, _, _, _, _, ho => ho
  | n + 1, i, turn, o, ht, ho => kgo_byt nk n _ _ _ (nturn_lt ht) (Byt.app ho (nword_byt ho ht))
theorem kgo_len (nk : Nat) : ∀ (n i turn : Nat) (o : List Nat), (kgo nk n i turn o).length = o.length + 4 * n
  | 0, _, _, _ => rfl
  | n + 1, i, turn, o => by rw [kgo, kgo_len nk n, List.length_append, nword_len]; omega
theorem kgo_pre (nk : Nat) : ∀ (n i turn : Nat) (o : List Nat), ∃ r, kgo nk n i turn o = o ++ r
  | 0, _, _, o => ⟨[], by rw [kgo, List.append_nil]⟩
  | n + 1, i, turn, o => by
    obtain ⟨r, hr⟩ := kgo_pre nk n (i + 1) (nturn nk i turn) (o ++ nword nk i turn o)
    exact ⟨nword nk i turn o ++ r, by rw [kgo, hr, List.append_assoc]⟩
theorem keys_byt {k : List Nat} (h : Byt k) : Byt (keys k) := kgo_byt _ _ _ _ _ (by decide) h
theorem keys_len {k : List Nat} (h : k.length = 16 ∨ k.length = 32) : (keys k).length = if k.length = 16 then 176 else 240 := by
  unfold keys
  rw [kgo_len]
  rcases h with h | h <;> rw [h] <;> rfl
theorem keys_take (k : List Nat) : (keys k).take k.length = k := by
  obtain ⟨r, hr⟩ := kgo_pre (k.length / 4) (4 * (k.length / 4 + 7) - k.length / 4) (k.length / 4) 1 k
  unfold keys
  rw [hr, List.take_left]
/-- Unlike keys have unlike keys. -/
theorem keys_inj {a b : List Nat} (ha : a.length = 16 ∨ a.length = 32) (hb : b.length = 16 ∨ b.length = 32) (h : keys a = keys b) : a = b := by
  have la := keys_len ha
  have lb := keys_len hb
  have e : a.length = b.length := by
    rw [h, lb] at la
    rcases ha with ha | ha <;> rcases hb with hb | hb <;> rw [ha, hb] at la ⊢ <;> simp at la
  rw [← keys_take a, ← keys_take b, h, e]
/-- The document's examples. -/
theorem times0 : T 87 131 = 193 := by decide +kernel
theorem box0 : Box 83 = 237 := by decide +kernel
theorem block0 : block (keys (row fun i => i)) (row fun i => 17 * i) = [105, 196, 224, 216, 106, 123, 4, 48, 216, 205, 183, 128, 112, 180, 197, 90] := by decide +kernel
end Go.Proofs.YtdnkbefpbehllaaDoor.AesK

