/- Contracts of the document: with, Full, Tag. -/
import Derived.Test.YtdnkbefpbehllaaDoorM21
import Derived.Test.YtdnkbefpbehllaaDoorM11
import Derived.Test.YtdnkbefpbehllaaDoorM18
import Derived.Test.YtdnkbefpbehllaaDoorM19
import Derived.BigQuiet
set_option linter.unusedVariables false
namespace Go.Proofs.YtdnkbefpbehllaaDoor.MacR
open Go.RowKit Go.Proofs.YtdnkbefpbehllaaDoor.Sums Go.Proofs.YtdnkbefpbehllaaDoor.Mem Go.Proofs.YtdnkbefpbehllaaDoor.Blk Go.Proofs.YtdnkbefpbehllaaDoor.Bits3 Go.Proofs.YtdnkbefpbehllaaDoor.Ints Go.Proofs.YtdnkbefpbehllaaDoor.ShaD Go.Proofs.YtdnkbefpbehllaaDoor.ShaO Go.Proofs.YtdnkbefpbehllaaDoor.MacD

theorem all_range (L : List Nat) (n : Nat) (h : L.length = n) : (List.range n).map (fun i => L.getD i 0) = L := by
  subst h
  apply List.ext_getElem
  · simp
  · intro i h1 h2
    simp only [List.getElem_map, List.getElem_range]
    rw [List.getD_eq_getElem?_getD, List.getElem?_eq_getElem h2]
    rfl
theorem withK_get (key : List Nat) (x : Nat) {i : Nat} (h : i < 64) : (withK key x).getD i 0 = if i < key.length then x ^^^ key.getD i 0 else x := by
  unfold withK
  rw [List.getD_eq_getElem?_getD, List.getElem?_map, List.getElem?_range h]
  rfl
end Go.Proofs.YtdnkbefpbehllaaDoor.MacR

/- The document's four, Peek, tag. -/
set_option linter.unusedVariables false
namespace Go.Proofs.YtdnkbefpbehllaaDoor.EspR2
open Go.RowKit Go.Proofs.YtdnkbefpbehllaaDoor.Sums Go.Proofs.YtdnkbefpbehllaaDoor.Mem Go.Proofs.YtdnkbefpbehllaaDoor.Blk Go.Proofs.YtdnkbefpbehllaaDoor.Free Go.Proofs.YtdnkbefpbehllaaDoor.Steps Go.Proofs.YtdnkbefpbehllaaDoor.Regs Go.Proofs.YtdnkbefpbehllaaDoor.Bits3 Go.Proofs.YtdnkbefpbehllaaDoor.Ints Go.Proofs.YtdnkbefpbehllaaDoor.AesB Go.Proofs.YtdnkbefpbehllaaDoor.PadR Go.Proofs.YtdnkbefpbehllaaDoor.EspD Go.Proofs.YtdnkbefpbehllaaDoor.EspR1
open Go.Proofs.YtdnkbefpbehllaaDoor.CtrD (four four_byt)

theorem nums_str {l : List Int} (h : Bytes l) : nums (strOfNums l) = l := by
  simp only [strOfNums, nums, List.map_map]
  refine (List.map_congr_left fun z hz => ?_).trans (List.map_id l)
  have := h z hz
  simp only [Function.comp, id]
  rw [UInt8.toNat_ofNat_of_lt' (by simp [UInt8.size]; omega)]
  omega
theorem str_inj {a b : List Int} (ha : Bytes a) (hb : Bytes b) (h : strOfNums a = strOfNums b) : a = b := by rw [← nums_str ha, ← nums_str hb, h]
theorem toList_eq (a b : ByteArray) : (a.toList == b.toList) = decide (a = b) := by
  by_cases h : a = b
  · subst h; simp
  · have : a.toList ≠ b.toList := fun e => h (by
      cases a; cases b
      rw [ByteArray.toList_eq, ByteArray.toList_eq] at e
      simp at e
      rw [e])
    simp [h, this]
theorem str_eq {a b : List Int} (ha : Bytes a) (hb : Bytes b) : ((strOfNums a).toList == (strOfNums b).toList) = decide (a = b) := by
  rw [toList_eq, decide_eq_decide]
  exact ⟨fun h => str_inj ha hb h, fun h => by rw [h]⟩
theorem st_extract {o : Oper} {a : Act} {w : World} {K : Act → World → Prop} {Q : Exit → Act → World → Prop} (x : Operand) (k : Nat) (ho : o.op = .extract x k) (vs : Array Value) (v : Value) (hx : a.eval x = .tuple vs) (hv : vs[k]? = some v) (hK : K (a.put o.dst v) w) : Step Tryd.prog o a w K Q :=
  wp_value v (by simp [execOp, ho, hx, Instr.extract, hv]) hK
theorem list2 {f : Operand → Value} {x y : Operand} {u v : Value} (h1 : f x = u) (h2 : f y = v) : [x, y].map f = [u, v] := by simp [h1, h2]
theorem ints_bytes {l : List Nat} (h : Byt l) : Bytes (ints l) := fun z hz => by
  obtain ⟨x, hx, rfl⟩ := List.mem_map.1 hz
  have := h x hx
  omega
theorem fld0 (g : Nat) (w : World) : (Instr.fieldAt 23 (.pointer (some ⟨g, 0, none⟩)) 0).run Tryd.prog w = .ok (.pointer (some ⟨g, 0, none⟩)) w := by kernel_rfl
theorem fld1 (g : Nat) (w : World) : (Instr.fieldAt 23 (.pointer (some ⟨g, 0, none⟩)) 1).run Tryd.prog w = .ok (.pointer (some ⟨g, 1, none⟩)) w := by kernel_rfl
theorem fld2 (g : Nat) (w : World) : (Instr.fieldAt 23 (.pointer (some ⟨g, 0, none⟩)) 2).run Tryd.prog w = .ok (.pointer (some ⟨g, 2, none⟩)) w := by kernel_rfl
theorem fld3 (g : Nat) (w : World) : (Instr.fieldAt 23 (.pointer (some ⟨g, 0, none⟩)) 3).run Tryd.prog w = .ok (.pointer (some ⟨g, 3, none⟩)) w := by kernel_rfl
theorem fld4 (g : Nat) (w : World) : (Instr.fieldAt 23 (.pointer (some ⟨g, 0, none⟩)) 4).run Tryd.prog w = .ok (.pointer (some ⟨g, 4, none⟩)) w := by kernel_rfl
theorem fld5 (g : Nat) (w : World) : (Instr.fieldAt 23 (.pointer (some ⟨g, 0, none⟩)) 5).run Tryd.prog w = .ok (.pointer (some ⟨g, 5, none⟩)) w := by kernel_rfl
theorem ent_both : Enters Tryd.prog 15 := enters_of Tryd.func15 (by kernel_rfl) rfl
theorem num4_drop (l : List Int) (k : Nat) : num4 (l.drop k) 0 = num4 l k := by
  have g : ∀ i, (l.drop k).getD i 0 = l.getD (k + i) 0 := fun i => by rw [List.getD_eq_getElem?_getD, List.getElem?_drop, List.getD_eq_getElem?_getD]
  unfold num4
  rw [g, g, g, g]
  rfl

def peekX (l : List Int) : Int := if l.length < 8 then 0 else num4 l 0
def peekY (l : List Int) : Int := if l.length < 8 then 0 else num4 l 4
def peekE (l : List Int) : Int := if l.length < 8 then 8 else 0
end Go.Proofs.YtdnkbefpbehllaaDoor.EspR2

