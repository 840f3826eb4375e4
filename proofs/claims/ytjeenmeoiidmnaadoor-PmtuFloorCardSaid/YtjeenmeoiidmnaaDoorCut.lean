/- Slices of rows; a row cloned. -/
import Derived.Test.YtjeenmeoiidmnaaDoorSteps
import Derived.Test.YtjeenmeoiidmnaaDoorBlk
import Derived.WalkSpells
import Derived.Lib.SliceRun
set_option linter.unusedVariables false
namespace Go.Proofs.YtjeenmeoiidmnaaDoor.Cut
open Go.RowKit Go.Proofs.YtjeenmeoiidmnaaDoor.Sums Go.Proofs.YtjeenmeoiidmnaaDoor.Mem Go.Proofs.YtjeenmeoiidmnaaDoor.Blk Go.Proofs.YtjeenmeoiidmnaaDoor.Steps

theorem byte_elem (w : World) : (sizeOf (Tryd.prog.elem 60)).run Tryd.prog w = .ok 1 w := by kernel_rfl

theorem cut_lh (b p n c l h : Nat) (w : World) (h1 : l ≤ h) (h2 : h ≤ c) (h3 : l < c) :
    (Instr.sliceAt 60 (.slice (some ⟨b, p, none⟩) n c) (some (.int .i64 (l : Int))) (some (.int .i64 (h : Int))) none).run Tryd.prog w = .ok (.slice (some ⟨b, p + l, none⟩) (h - l) (c - l)) w := by
  have e := run_slice_lh (P := Tryd.prog) (w := w) (t := 60) (a := some ⟨b, p, none⟩) (len := n) (cap := c) (ht := (by kernel_rfl)) .i64 .i64 (l : Int) (h : Int) (by omega) (by omega) (by omega)
  have ne : ¬ c = l := by omega
  rw [run_sliceAt_slice (P := Tryd.prog) (h := (by kernel_rfl)), e, byte_elem]
  simp only [Result.andThen_ok, sliced, Int.toNat_natCast, if_neg ne, Option.map_some, Nat.mul_one, add_plain]

theorem cut_l (b p n c l : Nat) (w : World) (h1 : l ≤ n) (h2 : n ≤ c) (h3 : l < c) :
    (Instr.sliceAt 60 (.slice (some ⟨b, p, none⟩) n c) (some (.int .i64 (l : Int))) none none).run Tryd.prog w = .ok (.slice (some ⟨b, p + l, none⟩) (n - l) (c - l)) w := by
  have e := run_slice_l (P := Tryd.prog) (w := w) (t := 60) (a := some ⟨b, p, none⟩) (len := n) (cap := c) (ht := (by kernel_rfl)) .i64 (l : Int) (by omega) (by omega)
  have ne : ¬ c = l := by omega
  rw [run_sliceAt_slice (P := Tryd.prog) (h := (by kernel_rfl)), e, byte_elem]
  simp only [Result.andThen_ok, sliced, Int.toNat_natCast, if_neg ne, Option.map_some, Nat.mul_one, add_plain]

/-- Where a slice from a place on begins. -/
def adr (b p c lo : Nat) : Addr := if c = lo then ⟨b, p, none⟩ else ⟨b, p + lo, none⟩
theorem cutA_lh (b p n c l h : Nat) (w : World) (h1 : l ≤ h) (h2 : h ≤ c) :
    (Instr.sliceAt 60 (.slice (some ⟨b, p, none⟩) n c) (some (.int .i64 (l : Int))) (some (.int .i64 (h : Int))) none).run Tryd.prog w = .ok (.slice (some (adr b p c l)) (h - l) (c - l)) w := by
  have e := run_slice_lh (P := Tryd.prog) (w := w) (t := 60) (a := some ⟨b, p, none⟩) (len := n) (cap := c) (ht := (by kernel_rfl)) .i64 .i64 (l : Int) (h : Int) (by omega) (by omega) (by omega)
  rw [run_sliceAt_slice (P := Tryd.prog) (h := (by kernel_rfl)), e, byte_elem]
  unfold adr
  by_cases ne : c = l
  · simp only [Result.andThen_ok, sliced, Int.toNat_natCast, if_pos ne]
  · simp only [Result.andThen_ok, sliced, Int.toNat_natCast, if_neg ne, Option.map_some, Nat.mul_one, add_plain]
theorem cutA_l (b p n c l : Nat) (w : World) (h1 : l ≤ n) (h2 : n ≤ c) :
    (Instr.sliceAt 60 (.slice (some ⟨b, p, none⟩) n c) (some (.int .i64 (l : Int))) none none).run Tryd.prog w = .ok (.slice (some (adr b p c l)) (n - l) (c - l)) w := by
  have e := run_slice_l (P := Tryd.prog) (w := w) (t := 60) (a := some ⟨b, p, none⟩) (len := n) (cap := c) (ht := (by kernel_rfl)) .i64 (l : Int) (by omega) (by omega)
  rw [run_sliceAt_slice (P := Tryd.prog) (h := (by kernel_rfl)), e, byte_elem]
  unfold adr
  by_cases ne : c = l
  · simp only [Result.andThen_ok, sliced, Int.toNat_natCast, if_pos ne]
  · simp only [Result.andThen_ok, sliced, Int.toNat_natCast, if_neg ne, Option.map_some, Nat.mul_one, add_plain]
theorem cutA_holds {w : World} {B b p n c lo hi : Nat} {l : List Int} (h : Holds w B (some ⟨b, p, none⟩) n c l) (h1 : lo ≤ hi) (h2 : hi ≤ n) : Holds w B (some (adr b p c lo)) (hi - lo) (c - lo) ((l.drop lo).take (hi - lo)) := by
  have hnc := h.2.1
  by_cases hz : hi = lo
  · subst hz
    have hcm := h.2.2.1
    rw [Nat.sub_self, List.take_zero]
    exact ⟨rfl, Nat.zero_le _, by omega, fun _ h => (by cases h), fun h => absurd h (by omega)⟩
  · obtain ⟨b', o', e, hh⟩ := h.from_ (k := lo) (by omega)
    injection e with e
    injection e with e1 e2
    subst e1 e2
    have ne : ¬ c = lo := by omega
    unfold adr
    rw [if_neg ne]
    exact hh.upto (by omega)
theorem cutA_rest {w : World} {B b p n c lo : Nat} {l : List Int} (h : Holds w B (some ⟨b, p, none⟩) n c l) (h1 : lo ≤ n) : Holds w B (some (adr b p c lo)) (n - lo) (c - lo) (l.drop lo) := by
  have := cutA_holds h h1 (Nat.le_refl n)
  rwa [List.take_of_length_le (by rw [List.length_drop, h.1]; exact Nat.le_refl _)] at this

end Go.Proofs.YtjeenmeoiidmnaaDoor.Cut
