/- The document's examples hold. -/
import Derived.Test.YtmlihcillheeaaaDoorDig9
import Derived.Lib.SlBytesConst
set_option linter.unusedVariables false
namespace Go.Proofs.YtmlihcillheeaaaDoor.DigA
open Go.RowKit Go.PlainAid Go.Proofs.YtmlihcillheeaaaDoor.Sums Go.Proofs.YtmlihcillheeaaaDoor.Mem Go.Proofs.YtmlihcillheeaaaDoor.Blk Go.Proofs.YtmlihcillheeaaaDoor.Bits3 Go.Proofs.YtmlihcillheeaaaDoor.Ints Go.Proofs.YtmlihcillheeaaaDoor.Both Go.Proofs.YtmlihcillheeaaaDoor.ShaD Go.Proofs.YtmlihcillheeaaaDoor.ShaC Go.Proofs.YtmlihcillheeaaaDoor.Dig1 Go.Proofs.YtmlihcillheeaaaDoor.Dig9

theorem nums_str {l : List Int} (h : Bytes l) : nums (strOfNums l) = l := by
  simp only [strOfNums, nums, List.map_map]
  refine (List.map_congr_left fun z hz => ?_).trans (List.map_id l)
  have := h z hz
  simp only [Function.comp, id]
  rw [UInt8.toNat_ofNat_of_lt' (by simp [UInt8.size]; omega)]
  omega
theorem str_inj {a b : List Int} (ha : Bytes a) (hb : Bytes b) (h : strOfNums a = strOfNums b) : a = b := by rw [← nums_str ha, ← nums_str hb, h]
theorem abc_str : strOfNums (ints (digest (nats [97, 98, 99]))) = ⟨#[186, 120, 22, 191, 143, 1, 207, 234, 65, 65, 64, 222, 93, 174, 34, 35, 176, 3, 97, 163, 150, 23, 122, 156, 180, 16, 255, 97, 242, 0, 21, 173]⟩ := by
  rw [show nats [97, 98, 99] = [97, 98, 99] from rfl, abc]
  kernel_rfl
theorem Holds.laid (w : World) (l : List Nat) (cs : Array Value) (fz : Nat × Nat) (n g : Nat) (hc : cs = bcells l) (hb : ∀ x ∈ l, x < 256) (hn : l.length = n) (hg : w.heap.size = g) (hm : n ≤ 1048576) : Holds (w.alloc (.cells cs 5 fz)) (g + 1) (some ⟨g, 0, none⟩) n n (ints l) := by
  subst hc hn hg
  refine ⟨by simp [ints], Nat.le_refl _, by simp only [maxLen]; omega, fun z hz => ints_in hb z hz, fun _ => ⟨w.heap.size, 0, rfl, by omega, fun j z hz => ?_⟩⟩
  have hj : j < l.length := by
    rcases Nat.lt_or_ge j l.length with h' | h'
    · exact h'
    · rw [List.getElem?_eq_none (by simpa [ints] using h')] at hz; cases hz
  rw [Nat.zero_add, cell_of_row _ w.heap.size j _ 5 fz (heap_alloc_new w _), bcells_get l j hj, ← ints_getD, List.getD_eq_getElem?_getD, hz]
  rfl
theorem cvt (w : World) (C : Array Value) (n : Nat) : (convert 22 22 (.slice (some ⟨w.heap.size, 0, none⟩) n n)).run Tryd.prog (w.alloc (.cells C 5)) = .ok (.slice (some ⟨w.heap.size, 0, none⟩) n n) (w.alloc (.cells C 5 (C.size, C.size + 1))) :=
  Lib.run_convert_bytes_const w 22 5 C n n Tryd.underlying22 Tryd.underlying5
theorem parts_lit {W : World} {B : Nat} (hB : B ≤ W.heap.size) (rs : List Row) (cs : Array Value) (t : TypeId) (hc : cs.toList = rs.map fun r => Value.slice r.A r.n r.c) (h : ∀ r ∈ rs, Holds W B r.A r.n r.c r.l) (g : Nat) (hg : W.heap.size = g) :
    Parts (W.alloc (.cells cs t)) (g + 1) (some ⟨g, 0, none⟩) rs := by
  subst hg
  exact .inr ⟨_, rfl, All.lit hB rs cs t hc h⟩
theorem flat_len {rs : List Row} (h : ∀ r ∈ rs, r.l.length = r.n) : (flat rs).length = total rs := by
  induction rs with
  | nil => rfl
  | cons r rs ih =>
    have e1 : flat (r :: rs) = r.l ++ flat rs := rfl
    have e2 : total (r :: rs) = r.n + total rs := rfl
    rw [e1, e2, List.length_append, ih fun q hq => h q (by simp [hq]), h r (by simp)]

end Go.Proofs.YtmlihcillheeaaaDoor.DigA
