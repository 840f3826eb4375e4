/- A packet of the sixth version as a value: its fields, whether it has an encoding, its bytes. -/
import Derived.Test.YtjfieoleoodfdaaAppend
set_option linter.unusedVariables false
namespace Go.Proofs.Ytjfieoleoodfdaa.P6
open Go.RowKit Go.Proofs.Ytjfieoleoodfdaa.Sums Go.Proofs.Ytjfieoleoodfdaa.Mem

theorem str_nums (s : ByteArray) : strOfNums (nums s) = s := by
  rcases s with ⟨⟨l⟩⟩
  simp only [strOfNums, nums, List.map_map]
  congr 2
  refine (List.map_congr_left fun b _ => ?_).trans (List.map_id l)
  simp
theorem nums_str {l : List Int} (h : Bytes l) : nums (strOfNums l) = l := by
  simp only [strOfNums, nums, List.map_map]
  refine (List.map_congr_left fun b hb => ?_).trans (List.map_id l)
  have := h b hb
  simp only [Function.comp, id]
  rw [UInt8.toNat_ofNat_of_lt' (by show b.toNat < 256; omega)]
  omega
theorem str_size (l : List Int) : (strOfNums l).size = l.length := by simp [strOfNums, ByteArray.size]

abbrev Exts := List (Int × ByteArray)
structure Pkt where
  cls : Int
  lab : Int
  hop : Int
  src : ByteArray
  dst : ByteArray
  exts : Exts
  next : Int

def wi (n m : Int) : Bool := decide (0 ≤ n) && decide (n ≤ m)
theorem wi_true {n m : Int} (h : wi n m = true) : 0 ≤ n ∧ n ≤ m := by unfold wi at h; simpa using h
theorem wi_make {n m : Int} (h : 0 ≤ n) (k : n ≤ m) : wi n m = true := by unfold wi; simp [h, k]
theorem wi_no {n m : Int} (h : wi n m = false) : n < 0 ∨ m < n := by
  unfold wi at h
  by_cases a : 0 ≤ n <;> by_cases b : n ≤ m <;> simp [a, b] at h <;> omega

/-- Is it the kind of an extension header? -/
def btw (k : Int) : Bool := k == 0 || k == 43 || k == 44 || k == 60
theorem btw_true {k : Int} (h : btw k = true) : k = 0 ∨ k = 43 ∨ k = 44 ∨ k = 60 := by
  unfold btw at h
  simp only [Bool.or_eq_true, beq_iff_eq] at h
  omega
theorem btw_false {k : Int} (h : btw k = false) : k ≠ 0 ∧ k ≠ 43 ∧ k ≠ 44 ∧ k ≠ 60 := by
  unfold btw at h
  simp only [Bool.or_eq_false_iff, beq_eq_false_iff_ne] at h
  exact ⟨h.1.1.1, h.1.1.2, h.1.2, h.2⟩

/-- What stands before the data. -/
def opn (k : Int) : Nat := if k = 44 then 1 else 2
def sz (x : Int × ByteArray) : Nat := opn x.1 + x.2.size
theorem opn_le (k : Int) : 1 ≤ opn k ∧ opn k ≤ 2 := by unfold opn; split <;> omega
/-- May it be at a place? -/
def fits (x : Int × ByteArray) (first : Bool) : Bool := btw x.1 && ((first || x.1 != 0) && (if x.1 = 44 then x.2.size == 7 else x.2.size % 8 == 6 && decide (x.2.size ≤ 2046)))
def allFit : Exts → Bool → Bool
  | [], _ => true
  | x :: r, f => fits x f && allFit r false
def behind : Exts → Nat
  | [] => 0
  | x :: r => sz x + behind r
def Pkt.ok (p : Pkt) : Bool :=
  wi p.cls 255 && (wi p.lab 1048575 && (wi p.hop 255 && (wi p.next 255 && (!btw p.next && (decide (p.src.size = 16) && (decide (p.dst.size = 16) && allFit p.exts true))))))
/-- What Check says of a packet with n bytes of data. -/
def Pkt.chk (p : Pkt) (n : Nat) : Int := if p.ok = true then (if 65535 < n + behind p.exts then 2 else 0) else 1

structure Valid (p : Pkt) : Prop where
  c : 0 ≤ p.cls ∧ p.cls ≤ 255
  l : 0 ≤ p.lab ∧ p.lab ≤ 1048575
  h : 0 ≤ p.hop ∧ p.hop ≤ 255
  n : 0 ≤ p.next ∧ p.next ≤ 255
  nb : btw p.next = false
  s : p.src.size = 16
  d : p.dst.size = 16
  e : allFit p.exts true = true
theorem Pkt.ok_valid {p : Pkt} (h : p.ok = true) : Valid p := by
  simp only [Pkt.ok, wi, Bool.and_eq_true, decide_eq_true_eq, Bool.not_eq_true'] at h
  obtain ⟨a, b, c, d, e, f, g, i⟩ := h
  exact ⟨a, b, c, d, e, f, g, i⟩
theorem Valid.ok {p : Pkt} (h : Valid p) : p.ok = true := by
  simp only [Pkt.ok, wi, Bool.and_eq_true, decide_eq_true_eq, Bool.not_eq_true']
  exact ⟨h.c, h.l, h.h, h.n, h.nb, h.s, h.d, h.e⟩
theorem chk_one {p : Pkt} {n : Nat} (h : p.ok = false) : p.chk n = 1 := by unfold Pkt.chk; rw [h]; rfl
theorem chk_two {p : Pkt} {n : Nat} (h : p.ok = true) (k : 65535 < n + behind p.exts) : p.chk n = 2 := by unfold Pkt.chk; rw [if_pos h, if_pos k]
theorem chk_ok {p : Pkt} {n : Nat} (h : p.ok = true) (k : n + behind p.exts ≤ 65535) : p.chk n = 0 := by unfold Pkt.chk; rw [if_pos h, if_neg (by omega)]
theorem chk_zero {p : Pkt} {n : Nat} (h : p.chk n = 0) : Valid p ∧ n + behind p.exts ≤ 65535 := by
  unfold Pkt.chk at h
  split at h
  · rename_i ho
    refine ⟨Pkt.ok_valid ho, ?_⟩
    split at h
    · cases h
    · omega
  · cases h

/-- The first kind of some, or what stands behind. -/
def kindOf : Exts → Int → Int
  | [], nx => nx
  | x :: _, _ => x.1
def encX (x : Int × ByteArray) (nx : Int) : List Int := nx :: ((if x.1 = 44 then [] else [((x.2.size : Int) + 2) / 8 - 1]) ++ nums x.2)
def encs : Exts → Int → List Int
  | [], _ => []
  | x :: r, nx => encX x (kindOf r nx) ++ encs r nx
/-- The first 40 bytes, with n behind them. -/
def Pkt.head (p : Pkt) (n : Nat) : List Int :=
  [96 + p.cls / 16, p.cls % 16 * 16 + p.lab / 65536, p.lab / 256 % 256, p.lab % 256, (n : Int) / 256, (n : Int) % 256, kindOf p.exts p.next, p.hop] ++ (nums p.src ++ nums p.dst)
def Pkt.bytes (p : Pkt) (l : List Int) : List Int := p.head (l.length + behind p.exts) ++ (encs p.exts p.next ++ l)

theorem encX_len (x : Int × ByteArray) (nx : Int) : (encX x nx).length = sz x := by
  unfold encX sz opn
  split <;> simp [nums_len] <;> omega
theorem encs_len : ∀ (l : Exts) (nx : Int), (encs l nx).length = behind l
  | [], _ => rfl
  | x :: r, nx => by rw [encs, List.length_append, encX_len, encs_len r nx, behind]
theorem head_len {p : Pkt} (h : Valid p) (n : Nat) : (p.head n).length = 40 := by
  simp [Pkt.head, nums_len, h.s, h.d]
theorem bytes_len {p : Pkt} (h : Valid p) (l : List Int) : (p.bytes l).length = 40 + (l.length + behind p.exts) := by
  rw [Pkt.bytes, List.length_append, head_len h, List.length_append, encs_len]; omega

theorem fits_spec {x : Int × ByteArray} {f : Bool} (h : fits x f = true) : btw x.1 = true ∧ (f = true ∨ x.1 ≠ 0) ∧ ((x.1 = 44 ∧ x.2.size = 7) ∨ (x.1 ≠ 44 ∧ x.2.size % 8 = 6 ∧ x.2.size ≤ 2046)) := by
  unfold fits at h
  simp only [Bool.and_eq_true, Bool.or_eq_true, bne_iff_ne, ne_eq] at h
  refine ⟨h.1, h.2.1, ?_⟩
  have := h.2.2
  split at this
  · rename_i e; exact .inl ⟨e, by simpa using this⟩
  · rename_i e; exact .inr ⟨e, by simpa using this⟩
theorem fits_make {x : Int × ByteArray} {f : Bool} (a : btw x.1 = true) (b : f = true ∨ x.1 ≠ 0) (c : (x.1 = 44 ∧ x.2.size = 7) ∨ (x.1 ≠ 44 ∧ x.2.size % 8 = 6 ∧ x.2.size ≤ 2046)) : fits x f = true := by
  unfold fits
  simp only [Bool.and_eq_true, Bool.or_eq_true, bne_iff_ne, ne_eq]
  refine ⟨a, b, ?_⟩
  rcases c with ⟨e, c⟩ | ⟨e, c⟩
  · rw [if_pos e]; simpa using c
  · rw [if_neg e]; simpa using c
theorem kind_in {l : Exts} {f : Bool} (h : allFit l f = true) {nx : Int} (n0 : 0 ≤ nx) (n1 : nx ≤ 255) : 0 ≤ kindOf l nx ∧ kindOf l nx ≤ 255 := by
  cases l with
  | nil => exact ⟨n0, n1⟩
  | cons x r =>
    rw [allFit, Bool.and_eq_true] at h
    have := btw_true (fits_spec h.1).1
    show 0 ≤ x.1 ∧ x.1 ≤ 255
    omega
theorem encX_bytes {x : Int × ByteArray} {f : Bool} (h : fits x f = true) {nx : Int} (n0 : 0 ≤ nx) (n1 : nx ≤ 255) : Bytes (encX x nx) := by
  obtain ⟨_, _, c⟩ := fits_spec h
  intro z hz
  unfold encX at hz
  rcases List.mem_cons.1 hz with rfl | hz
  · exact ⟨n0, n1⟩
  · rcases List.mem_append.1 hz with hz | hz
    · split at hz
      · cases hz
      · simp at hz; omega
    · exact nums_bytes _ z hz
theorem encs_bytes : ∀ (l : Exts) (f : Bool) (nx : Int), allFit l f = true → 0 ≤ nx → nx ≤ 255 → Bytes (encs l nx)
  | [], _, _, _, _, _ => fun _ h => (by cases h)
  | x :: r, f, nx, h, n0, n1 => by
    rw [allFit, Bool.and_eq_true] at h
    have k := kind_in h.2 n0 n1
    exact (encX_bytes h.1 k.1 k.2).append (encs_bytes r false nx h.2 n0 n1)
theorem head_bytes {p : Pkt} (h : Valid p) {n : Nat} (hn : n ≤ 65535) : Bytes (p.head n) := by
  have hc := h.c; have hl := h.l; have hh := h.h
  have k := kind_in h.e h.n.1 h.n.2
  refine Bytes.append ?_ ((nums_bytes _).append (nums_bytes _))
  intro z hz
  simp only [List.mem_cons, List.not_mem_nil, or_false] at hz
  rcases hz with rfl | rfl | rfl | rfl | rfl | rfl | rfl | rfl <;> omega
theorem bytes_bytes {p : Pkt} (h : Valid p) {l : List Int} (hn : l.length + behind p.exts ≤ 65535) (hl : Bytes l) : Bytes (p.bytes l) :=
  (head_bytes h hn).append ((encs_bytes _ _ _ h.e h.n.1 h.n.2).append hl)

/-! ### Reading -/
/-- Where the header ends that begins some bytes. -/
def endOf (k : Int) (l : List Int) : Nat := if k = 44 then 8 else 8 + (l.getD 1 0).toNat * 8
/-- The headers that begin some bytes, the kind of what follows them, what follows; none: they are refused. -/
def exts (k : Int) (f : Bool) (l : List Int) : Option (Exts × Int × List Int) :=
  if btw k = false then some ([], k, l)
  else if k = 0 ∧ f = false then none
  else if h : l.length < 8 then none
  else if l.length < endOf k l then none
  else (exts (l.getD 0 0) false (l.drop (endOf k l))).map fun q => ((k, strOfNums ((l.take (endOf k l)).drop (opn k))) :: q.1, q.2)
  termination_by l.length
  decreasing_by
    rw [List.length_drop]
    have : 8 ≤ endOf k l := by unfold endOf; split <;> omega
    omega

theorem two_of {l : List Int} (h : 2 ≤ l.length) : ∃ a c r, l = a :: c :: r := by
  match l, h with
  | a :: c :: r, _ => exact ⟨a, c, r, rfl⟩
theorem eight_of {l : List Int} (h : 8 ≤ l.length) : ∃ a0 a1 a2 a3 a4 a5 a6 a7 r, l = a0 :: a1 :: a2 :: a3 :: a4 :: a5 :: a6 :: a7 :: r := by
  match l, h with
  | a0 :: a1 :: a2 :: a3 :: a4 :: a5 :: a6 :: a7 :: r, _ => exact ⟨a0, a1, a2, a3, a4, a5, a6, a7, r, rfl⟩
theorem end_ge (k : Int) (l : List Int) : 8 ≤ endOf k l := by unfold endOf; split <;> omega

/-- Which error; the packet; its data. -/
def perr (l : List Int) : Int :=
  if l.length < 40 then 8
  else if l.getD 0 0 / 16 ≠ 6 then 4
  else if (l.length : Int) < 40 + (256 * l.getD 4 0 + l.getD 5 0) then 8
  else if 40 + (256 * l.getD 4 0 + l.getD 5 0) < (l.length : Int) then 4
  else if exts (l.getD 6 0) true (l.drop 40) = none then 4
  else 0
def tail (l : List Int) : Exts × Int × List Int := (exts (l.getD 6 0) true (l.drop 40)).getD ([], 0, [])
def pkOf (l : List Int) : Pkt :=
  ⟨l.getD 0 0 % 16 * 16 + l.getD 1 0 / 16, 65536 * (l.getD 1 0 % 16) + 256 * l.getD 2 0 + l.getD 3 0, l.getD 7 0, strOfNums ((l.drop 8).take 16), strOfNums ((l.drop 24).take 16), (tail l).1, (tail l).2.1⟩

theorem exts_enc : ∀ (xs : Exts) (f : Bool) (nx : Int) (l : List Int), allFit xs f = true → btw nx = false → 0 ≤ nx → nx ≤ 255 → exts (kindOf xs nx) f (encs xs nx ++ l) = some (xs, nx, l)
  | [], f, nx, l, _, nb, _, _ => by
    show exts nx f l = _
    rw [exts, if_pos nb]
  | x :: r, f, nx, l, h, nb, n0, n1 => by
    rw [allFit, Bool.and_eq_true] at h
    obtain ⟨hb, hf, hs⟩ := fits_spec h.1
    have kb := kind_in h.2 n0 n1
    have len := encX_len x (kindOf r nx)
    rw [encs, List.append_assoc]
    generalize hR : encs r nx ++ l = R
    have e0 : (encX x (kindOf r nx) ++ R).getD 0 0 = kindOf r nx := rfl
    have en : endOf x.1 (encX x (kindOf r nx) ++ R) = sz x := by
      unfold endOf sz opn
      split
      · omega
      · rename_i e
        have : (encX x (kindOf r nx) ++ R).getD 1 0 = ((x.2.size : Int) + 2) / 8 - 1 := by
          unfold encX
          rw [if_neg e]; rfl
        rw [this]; omega
    have s8 : 8 ≤ sz x := by unfold sz opn; split <;> omega
    show exts x.1 f (encX x (kindOf r nx) ++ R) = _
    rw [exts, if_neg (by rw [hb]; simp), if_neg (fun e => by rcases hf with h | h; · rw [h] at e; cases e.2
                                                             · exact h e.1), dif_neg (by rw [List.length_append, len]; omega), if_neg (by rw [en, List.length_append, len]; omega)]
    rw [e0, en, ← len, List.drop_left, List.take_left, ← hR, exts_enc r false nx l h.2 nb n0 n1]
    have d : (encX x (kindOf r nx)).drop (opn x.1) = nums x.2 := by
      unfold encX opn
      split <;> rfl
    rw [d, str_nums]
    rfl

theorem exts_dec : ∀ (n : Nat) (l : List Int) (k : Int) (f : Bool) (xs : Exts) (nx : Int) (t : List Int), l.length ≤ n → Bytes l → exts k f l = some (xs, nx, t) → l = encs xs nx ++ t ∧ kindOf xs nx = k ∧ allFit xs f = true ∧ btw nx = false ∧ (0 ≤ k → k ≤ 255 → 0 ≤ nx ∧ nx ≤ 255) := by
  intro n
  induction n with
  | zero =>
    intro l k f xs nx t hn hl h
    rw [exts] at h
    split at h
    · rename_i nb
      obtain ⟨rfl, rfl, rfl⟩ : [] = xs ∧ k = nx ∧ l = t := by simpa using h
      exact ⟨rfl, rfl, rfl, nb, fun a b => ⟨a, b⟩⟩
    · split at h
      · cases h
      · rw [dif_pos (by omega)] at h; cases h
  | succ n ih =>
    intro l k f xs nx t hn hl h
    rw [exts] at h
    split at h
    · rename_i nb
      obtain ⟨rfl, rfl, rfl⟩ : [] = xs ∧ k = nx ∧ l = t := by simpa using h
      exact ⟨rfl, rfl, rfl, nb, fun a b => ⟨a, b⟩⟩
    · rename_i kb
      split at h
      · cases h
      · rename_i kf
        split at h
        · cases h
        · rename_i l8
          split at h
          · cases h
          · rename_i le
            obtain ⟨⟨ys, ny, u⟩, hq, he⟩ := Option.map_eq_some_iff.1 h
            simp only [Prod.mk.injEq] at he
            obtain ⟨rfl, rfl, rfl⟩ := he
            have e8 := end_ge k l
            obtain ⟨i1, i2, i3, i4, i5⟩ := ih _ _ _ _ _ _ (by rw [List.length_drop]; omega) (hl.drop _) hq
            have b : ∀ i, 0 ≤ l.getD i 0 ∧ l.getD i 0 ≤ 255 := fun i => by
              rw [List.getD_eq_getElem?_getD]
              cases h : l[i]? with
              | none => simp
              | some z => exact hl z (List.mem_of_getElem? h)
            have b0 := b 0; have b1 := b 1
            have dsz : (strOfNums ((l.take (endOf k l)).drop (opn k))).size = endOf k l - opn k := by
              rw [str_size]; simp; omega
            have split1 : l.take (endOf k l) = encX (k, strOfNums ((l.take (endOf k l)).drop (opn k))) (kindOf ys ny) := by
              rw [i2]
              unfold encX
              simp only [dsz]
              rw [nums_str ((hl.take _).drop _)]
              obtain ⟨a, c, r, rfl⟩ := two_of (l := l) (by omega)
              · by_cases e : k = 44
                · rw [if_pos e]
                  have : endOf k (a :: c :: r) = 8 := by unfold endOf; rw [if_pos e]
                  rw [this]
                  unfold opn
                  rw [if_pos e]
                  rfl
                · rw [if_neg e]
                  obtain ⟨m, hm⟩ : ∃ m, endOf k (a :: c :: r) = m + 2 := ⟨endOf k (a :: c :: r) - 2, by omega⟩
                  have hm2 : endOf k (a :: c :: r) = 8 + c.toNat * 8 := by unfold endOf; rw [if_neg e]; rfl
                  have o : opn k = 2 := by unfold opn; rw [if_neg e]
                  simp only [List.getD_cons_zero, List.getD_cons_succ] at b1
                  rw [o, hm]
                  have : (((m + 2 - 2 : Nat) : Int) + 2) / 8 - 1 = c := by omega
                  rw [this]
                  rfl
            refine ⟨?_, rfl, ?_, i4, fun _ _ => i5 b0.1 b0.2⟩
            · rw [encs, ← split1, List.append_assoc, ← i1, List.take_append_drop]
            · rw [allFit, i3, Bool.and_true]
              refine fits_make (by simpa using kb) ?_ ?_
              · cases f
                · right; intro e; exact kf ⟨e, rfl⟩
                · left; rfl
              · simp only [dsz]
                unfold endOf opn
                by_cases e : k = 44
                · left; rw [if_pos e, if_pos e]; exact ⟨e, rfl⟩
                · right; rw [if_neg e, if_neg e]
                  exact ⟨e, by omega, by omega⟩

theorem bytes_perr {p : Pkt} (h : Valid p) {l : List Int} (hn : l.length + behind p.exts ≤ 65535) : perr (p.bytes l) = 0 ∧ pkOf (p.bytes l) = p ∧ (tail (p.bytes l)).2.2 = l := by
  have len := bytes_len h l
  have hc := h.c; have hl := h.l; have hh := h.h
  have hd : (p.bytes l).drop 40 = encs p.exts p.next ++ l := by
    rw [Pkt.bytes, ← head_len h (l.length + behind p.exts), List.drop_left]
  have e6 : (p.bytes l).getD 6 0 = kindOf p.exts p.next := rfl
  have ex : exts ((p.bytes l).getD 6 0) true ((p.bytes l).drop 40) = some (p.exts, p.next, l) := by
    rw [e6, hd]; exact exts_enc _ _ _ _ h.e h.nb h.n.1 h.n.2
  have tl : tail (p.bytes l) = (p.exts, p.next, l) := by unfold tail; rw [ex]; rfl
  have e0 : (p.bytes l).getD 0 0 = 96 + p.cls / 16 := rfl
  have e1 : (p.bytes l).getD 1 0 = p.cls % 16 * 16 + p.lab / 65536 := rfl
  have e2 : (p.bytes l).getD 2 0 = p.lab / 256 % 256 := rfl
  have e3 : (p.bytes l).getD 3 0 = p.lab % 256 := rfl
  have e4 : (p.bytes l).getD 4 0 = ((l.length + behind p.exts : Nat) : Int) / 256 := rfl
  have e5 : (p.bytes l).getD 5 0 = ((l.length + behind p.exts : Nat) : Int) % 256 := rfl
  have e7 : (p.bytes l).getD 7 0 = p.hop := rfl
  refine ⟨?_, ?_, by rw [tl]⟩
  · unfold perr
    rw [ex, e0, e4, e5, len, if_neg (by omega), if_neg (by omega), if_neg (by omega), if_neg (by omega), if_neg (by simp)]
  · have ls : (nums p.src).length = 16 := by rw [nums_len]; exact h.s
    have ld : (nums p.dst).length = 16 := by rw [nums_len]; exact h.d
    have d8 : (p.bytes l).drop 8 = nums p.src ++ (nums p.dst ++ (encs p.exts p.next ++ l)) := by
      rw [Pkt.bytes, Pkt.head, List.append_assoc, List.append_assoc]; rfl
    have d24 : (p.bytes l).drop 24 = nums p.dst ++ (encs p.exts p.next ++ l) := by
      rw [show 24 = 8 + 16 from rfl, ← List.drop_drop, d8, ← ls, List.drop_left]
    have s1 : ((p.bytes l).drop 8).take 16 = nums p.src := by rw [d8, ← ls, List.take_left]
    have s2 : ((p.bytes l).drop 24).take 16 = nums p.dst := by rw [d24, ← ld, List.take_left]
    unfold pkOf
    rw [tl, s1, s2, str_nums, str_nums, e0, e1, e2, e3, e7]
    obtain ⟨cls, lab, hop, src, dst, exs, next⟩ := p
    simp only at *
    congr 1 <;> omega

theorem read_good {l : List Int} (hl : Bytes l) (hp : perr l = 0) : Valid (pkOf l) ∧ (pkOf l).bytes (tail l).2.2 = l ∧ (tail l).2.2.length + behind (pkOf l).exts ≤ 65535 ∧ 40 ≤ l.length := by
  have b : ∀ i, 0 ≤ l.getD i 0 ∧ l.getD i 0 ≤ 255 := fun i => by
    rw [List.getD_eq_getElem?_getD]
    cases h : l[i]? with
    | none => simp
    | some z => exact hl z (List.mem_of_getElem? h)
  have b0 := b 0; have b1 := b 1; have b2 := b 2; have b3 := b 3; have b4 := b 4; have b5 := b 5; have b6 := b 6; have b7 := b 7
  unfold perr at hp
  split at hp
  · cases hp
  rename_i l40
  split at hp
  · cases hp
  rename_i v6
  split at hp
  · cases hp
  rename_i n1
  split at hp
  · cases hp
  rename_i n2
  split at hp
  · cases hp
  rename_i ne
  obtain ⟨⟨xs, nx, t⟩, ex⟩ := Option.ne_none_iff_exists'.1 ne
  obtain ⟨i1, i2, i3, i4, i5⟩ := exts_dec _ _ _ _ _ _ _ (Nat.le_refl _) (hl.drop 40) ex
  have i5 := i5 b6.1 b6.2
  have tl : tail l = (xs, nx, t) := by unfold tail; rw [ex]; rfl
  have h1 : (pkOf l).exts = xs := by unfold pkOf; rw [tl]
  have h2 : (pkOf l).next = nx := by unfold pkOf; rw [tl]
  have hs : (pkOf l).src.size = 16 := by
    show (strOfNums _).size = 16
    rw [str_size]; simp; omega
  have hd : (pkOf l).dst.size = 16 := by
    show (strOfNums _).size = 16
    rw [str_size]; simp; omega
  have vd : Valid (pkOf l) := by
    refine ⟨?_, ?_, b7, by rw [h2]; exact i5, by rw [h2]; exact i4, hs, hd, by rw [h1]; exact i3⟩
    · show 0 ≤ l.getD 0 0 % 16 * 16 + l.getD 1 0 / 16 ∧ l.getD 0 0 % 16 * 16 + l.getD 1 0 / 16 ≤ 255; omega
    · show 0 ≤ 65536 * (l.getD 1 0 % 16) + 256 * l.getD 2 0 + l.getD 3 0 ∧ 65536 * (l.getD 1 0 % 16) + 256 * l.getD 2 0 + l.getD 3 0 ≤ 1048575; omega
  have cnt : t.length + behind xs = l.length - 40 := by
    have := congrArg List.length i1
    rw [List.length_append, encs_len, List.length_drop] at this
    omega
  rw [tl, h1]
  refine ⟨vd, ?_, by show t.length + behind xs ≤ 65535; omega, by omega⟩
  rw [Pkt.bytes, h1, h2, ← i1, Pkt.head, h1, h2, i2]
  have q1 : nums (pkOf l).src = (l.drop 8).take 16 := nums_str ((hl.drop _).take _)
  have q2 : nums (pkOf l).dst = (l.drop 24).take 16 := nums_str ((hl.drop _).take _)
  rw [q1, q2, cnt]
  have x2 : (l.drop 24).take 16 ++ l.drop 40 = l.drop 24 := by
    conv => rhs; rw [← List.take_append_drop 16 (l.drop 24)]
    rw [List.drop_drop]
  have x1 : (l.drop 8).take 16 ++ l.drop 24 = l.drop 8 := by
    conv => rhs; rw [← List.take_append_drop 16 (l.drop 8)]
    rw [List.drop_drop]
  rw [List.append_assoc, List.append_assoc, x2, x1]
  have c1 : (pkOf l).cls = l.getD 0 0 % 16 * 16 + l.getD 1 0 / 16 := rfl
  have c2 : (pkOf l).lab = 65536 * (l.getD 1 0 % 16) + 256 * l.getD 2 0 + l.getD 3 0 := rfl
  have c3 : (pkOf l).hop = l.getD 7 0 := rfl
  rw [c1, c2, c3]
  have w0 : 96 + (l.getD 0 0 % 16 * 16 + l.getD 1 0 / 16) / 16 = l.getD 0 0 := by omega
  have w1 : (l.getD 0 0 % 16 * 16 + l.getD 1 0 / 16) % 16 * 16 + (65536 * (l.getD 1 0 % 16) + 256 * l.getD 2 0 + l.getD 3 0) / 65536 = l.getD 1 0 := by omega
  have w2 : (65536 * (l.getD 1 0 % 16) + 256 * l.getD 2 0 + l.getD 3 0) / 256 % 256 = l.getD 2 0 := by omega
  have w3 : (65536 * (l.getD 1 0 % 16) + 256 * l.getD 2 0 + l.getD 3 0) % 256 = l.getD 3 0 := by omega
  have w4 : ((l.length - 40 : Nat) : Int) / 256 = l.getD 4 0 := by omega
  have w5 : ((l.length - 40 : Nat) : Int) % 256 = l.getD 5 0 := by omega
  rw [w0, w1, w2, w3, w4, w5]
  clear w0 w1 w2 w3 w4 w5 c1 c2 c3 x1 x2 q1 q2 cnt vd hs hd h1 h2 tl i1 i2 i3 i4 i5 ex ne n1 n2 v6 b0 b1 b2 b3 b4 b5 b6 b7 b
  obtain ⟨a0, a1, a2, a3, a4, a5, a6, a7, r, rfl⟩ := eight_of (l := l) (by omega)
  rfl
end Go.Proofs.Ytjfieoleoodfdaa.P6
