/- A stream under a key: plain facts about numbers. No program is named but the kind of its numbers. -/
import Derived.Test.YtdnkbefpbehllaaDoorM09
import Derived.Test.YtdnkbefpbehllaaDoorM02
set_option linter.unusedVariables false
namespace Go.Proofs.YtdnkbefpbehllaaDoor.CtrD
open Go.Proofs.YtdnkbefpbehllaaDoor.AesF Go.Proofs.YtdnkbefpbehllaaDoor.AesB Go.Proofs.YtdnkbefpbehllaaDoor.AesK Go.Proofs.YtdnkbefpbehllaaDoor.Bits3

def four (n : Nat) : List Nat := [n / 16777216 % 256, n / 65536 % 256, n / 256 % 256, n % 256]
def cnt (sa iv : List Nat) (n : Nat) : List Nat := sa ++ iv ++ four n
/-- Byte number j of the stream. -/
def kb (ks sa iv : List Nat) (j : Nat) : Nat := (block ks (cnt sa iv (j / 16 + 1))).getD (j % 16) 0
def strm (ks sa iv : List Nat) (n : Nat) : List Nat := (List.range n).map (kb ks sa iv)
def trn (ks sa iv b : List Nat) : List Nat := (List.range b.length).map fun j => b.getD j 0 ^^^ kb ks sa iv j

theorem four_byt (n : Nat) : Byt (four n) := fun x hx => by
  simp only [four, List.mem_cons, List.not_mem_nil, or_false] at hx
  omega
theorem cnt_byt {sa iv : List Nat} (hs : Byt sa) (hv : Byt iv) (n : Nat) : Byt (cnt sa iv n) := Byt.app (Byt.app hs hv) (four_byt n)
theorem cnt_len {sa iv : List Nat} (hs : sa.length = 4) (hv : iv.length = 8) (n : Nat) : (cnt sa iv n).length = 16 := by
  simp [cnt, hs, hv, four]
theorem kb_lt {ks sa iv : List Nat} (hk : Byt ks) (hs : Byt sa) (hv : Byt iv) (j : Nat) : kb ks sa iv j < 256 := (block_byt hk (cnt_byt hs hv _)).get _
theorem strm_len (ks sa iv : List Nat) (n : Nat) : (strm ks sa iv n).length = n := by simp [strm]
theorem strm_byt {ks sa iv : List Nat} (hk : Byt ks) (hs : Byt sa) (hv : Byt iv) (n : Nat) : Byt (strm ks sa iv n) := fun x hx => by
  obtain ⟨j, _, rfl⟩ := List.mem_map.1 hx
  exact kb_lt hk hs hv j
theorem range_get (f : Nat → Nat) {n i : Nat} (h : i < n) : ((List.range n).map f).getD i 0 = f i := by
  rw [List.getD_eq_getElem?_getD, List.getElem?_map, List.getElem?_range h]
  rfl
theorem range_take (f : Nat → Nat) {n m : Nat} (h : n ≤ m) : ((List.range m).map f).take n = (List.range n).map f := by
  apply List.ext_getElem
  · simp; omega
  · intro i h1 h2
    simp
theorem strm_get (ks sa iv : List Nat) {n i : Nat} (h : i < n) : (strm ks sa iv n).getD i 0 = kb ks sa iv i := range_get _ h
theorem strm_take (ks sa iv : List Nat) {n m : Nat} (h : n ≤ m) : (strm ks sa iv m).take n = strm ks sa iv n := range_take _ h
theorem ext_getD {a b : List Nat} (hl : a.length = b.length) (h : ∀ i, i < a.length → a.getD i 0 = b.getD i 0) : a = b := by
  apply List.ext_getElem hl
  intro i h1 h2
  have := h i h1
  rwa [List.getD_eq_getElem?_getD, List.getD_eq_getElem?_getD, List.getElem?_eq_getElem h1, List.getElem?_eq_getElem h2] at this
theorem getD_app (a b : List Nat) (i : Nat) : (a ++ b).getD i 0 = if i < a.length then a.getD i 0 else b.getD (i - a.length) 0 := by
  rw [List.getD_eq_getElem?_getD, List.getElem?_append]
  split <;> simp [List.getD_eq_getElem?_getD]
theorem getD_drop (a : List Nat) (k i : Nat) : (a.drop k).getD i 0 = a.getD (k + i) 0 := by
  rw [List.getD_eq_getElem?_getD, List.getElem?_drop, List.getD_eq_getElem?_getD]
/-- A block more. -/
theorem strm_more (ks sa iv : List Nat) (k : Nat) : strm ks sa iv (16 * k) ++ block ks (cnt sa iv (k + 1)) = strm ks sa iv (16 * (k + 1)) := by
  have hb := block_len ks (cnt sa iv (k + 1))
  refine ext_getD (by rw [List.length_append, strm_len, strm_len, hb]; omega) fun i hi => ?_
  rw [List.length_append, strm_len, hb] at hi
  rw [getD_app, strm_len, strm_get _ _ _ (show i < 16 * (k + 1) by omega)]
  split
  · rw [strm_get _ _ _ (by assumption)]
  · unfold kb
    rw [show i / 16 + 1 = k + 1 by omega, show i % 16 = i - 16 * k by omega]
theorem strm_last (ks sa iv : List Nat) (k : Nat) : (strm ks sa iv (16 * k + 16)).drop (16 * k) = block ks (cnt sa iv (k + 1)) := by
  rw [show 16 * k + 16 = 16 * (k + 1) by omega, ← strm_more, List.drop_append_of_le_length (by rw [strm_len]; omega), List.drop_of_length_le (by rw [strm_len]; omega), List.nil_append]

theorem trn_len (ks sa iv b : List Nat) : (trn ks sa iv b).length = b.length := by simp [trn]
theorem trn_get (ks sa iv : List Nat) {b : List Nat} {i : Nat} (h : i < b.length) : (trn ks sa iv b).getD i 0 = b.getD i 0 ^^^ kb ks sa iv i := range_get _ h
theorem trn_byt {ks sa iv b : List Nat} (hk : Byt ks) (hs : Byt sa) (hv : Byt iv) (hb : Byt b) : Byt (trn ks sa iv b) := fun x hx => by
  obtain ⟨j, _, rfl⟩ := List.mem_map.1 hx
  exact xor_lt (hb.get j) (kb_lt hk hs hv j)
theorem trn_twice (ks sa iv b : List Nat) : trn ks sa iv (trn ks sa iv b) = b := by
  refine ext_getD (by rw [trn_len, trn_len]) fun i hi => ?_
  rw [trn_len, trn_len] at hi
  rw [trn_get _ _ _ (by rw [trn_len]; exact hi), trn_get _ _ _ hi, Nat.xor_assoc, Nat.xor_self, Nat.xor_zero]
theorem trn_take (ks sa iv b : List Nat) (n : Nat) : trn ks sa iv (b.take n) = (trn ks sa iv b).take n := by
  refine ext_getD (by rw [trn_len, List.length_take, List.length_take, trn_len]) fun i hi => ?_
  rw [trn_len, List.length_take] at hi
  have e : ∀ l : List Nat, (l.take n).getD i 0 = l.getD i 0 := fun l => by
    rw [List.getD_eq_getElem?_getD, List.getElem?_take, if_pos (by omega), List.getD_eq_getElem?_getD]
  rw [trn_get _ _ _ (by rw [List.length_take]; omega), e, e, trn_get _ _ _ (by omega)]
theorem trn_places (ks sa iv : List Nat) {a b : List Nat} (hl : a.length = b.length) {i : Nat} (h : i < a.length) : (trn ks sa iv a).getD i 0 ^^^ (trn ks sa iv b).getD i 0 = a.getD i 0 ^^^ b.getD i 0 := by
  rw [trn_get _ _ _ h, trn_get _ _ _ (by omega)]
  have : ∀ x y z : Nat, (x ^^^ z) ^^^ (y ^^^ z) = x ^^^ y := fun x y z => by
    rw [Nat.xor_assoc, ← Nat.xor_assoc z, Nat.xor_comm z y, Nat.xor_assoc y, Nat.xor_self, Nat.xor_zero]
  exact this _ _ _
/-- The error of a stream. -/
def errS (kn sn vn : Nat) (n : Int) : Int := if (kn = 16 ∨ kn = 32) ∧ sn = 4 ∧ vn = 8 ∧ 0 ≤ n then (if n ≤ 65536 then 0 else 2) else 1
/-- The document's example. -/
def exK : List Nat := [174, 104, 82, 248, 18, 16, 103, 204, 75, 247, 165, 118, 85, 119, 243, 158]
def exB : List Nat := [83, 105, 110, 103, 108, 101, 32, 98, 108, 111, 99, 107, 32, 109, 115, 103]
def exR : List Nat := [228, 9, 93, 79, 183, 167, 179, 121, 45, 97, 117, 163, 38, 19, 17, 184]
theorem ex_trn : trn (keys exK) [0, 0, 0, 48] (List.replicate 8 0) exB = exR := by decide +kernel
end Go.Proofs.YtdnkbefpbehllaaDoor.CtrD

