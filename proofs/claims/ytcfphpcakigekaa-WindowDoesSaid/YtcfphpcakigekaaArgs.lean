/- Arguments that are rows of u64 or of bools, opened. -/
import Derived.Test.YtcfphpcakigekaaRngU
import Derived.Test.YtcfphpcakigekaaRows
import Derived.OpenShut
import Derived.ChangeOld
import Derived.SizedLaws
import Derived.Deep.Grids
set_option linter.unusedVariables false
namespace Go.Proofs.Ytcfphpcakigekaa.Args
open Go.ChangeShapes Go.WideShapes Go.ChangeAt Go.RowKit Go.Proofs.Ytcfphpcakigekaa.Mem Go.Proofs.Ytcfphpcakigekaa.Longs Go.Proofs.Ytcfphpcakigekaa.RngU
set_option maxRecDepth 100000

theorem own : ownKnob Try.prog.godebug = none := by kernel_rfl
theorem laidOut : laidOutB Try.prog = true := by kernel_rfl
theorem u64_wf {n : Int} (h : (Lit.int .u64 n).wf = true) : 0 ≤ n ∧ n ≤ 18446744073709551615 := by
  simp [Lit.wf, IntKind.min, IntKind.max, IntKind.signed, IntKind.bits] at h
  omega
theorem spot_none {W : World} {a : Addr} {v : Value} (h : W.cell? (a.add 0) = some v) : ∃ b o, a = ⟨b, o, none⟩ := by
  have q := World.cell?_spot h
  obtain ⟨b, o, sp⟩ := a
  have : sp = none := by simpa [Addr.add] using q
  subst this
  exact ⟨b, o, rfl⟩
theorem longs_of {H : Type} {enc : TypeId × Value → H} {W : World} {cs : List Value} {fuel : Nat} {x : DataW H × List MemPlace}
    (h : DataW.trod enc Try.prog W 0 (fun _ => true) true fuel 22 cs = some x) : ∃ A n c l, cs = [.slice A n c] ∧ QRow W W.heap.size A n c l := by
  rcases open_ints Try.underlying22 Try.underlying31 (by kernel_rfl) h with ⟨hcs, _⟩ | ⟨x, l, c, zs, hcs, _, hl, hm, hz, hxx, hcell, hwz⟩
  · exact ⟨none, 0, 0, [], hcs, rfl, fun _ h => (by cases h), fun h => absurd h (by omega)⟩
  · simp only [if_true] at hz
    refine ⟨some x, l, c, (zs.take l).map Int.toNat, hcs, by simp; omega, fun q hq => ?_, fun h0 => ?_⟩
    · obtain ⟨z, hz', rfl⟩ := List.mem_map.1 hq
      have := u64_wf (hwz z (List.mem_of_mem_take hz'))
      unfold Q64
      omega
    · obtain ⟨b, o, rfl⟩ := spot_none (hcell 0 (by omega))
      refine ⟨b, o, rfl, ?_, fun j hj => ?_⟩
      · have := hcell 0 (by omega)
        rw [Mem.add_plain] at this
        exact World.block_lt_of_cell? W _ this
      · have := hcell j (by omega)
        rw [Mem.add_plain] at this
        rw [this]
        have hj2 : j < zs.length := by omega
        have hw := u64_wf (hwz (zs[j]) (List.getElem_mem hj2))
        rw [List.getD_eq_getElem?_getD, List.getD_eq_getElem?_getD, List.getElem?_map, List.getElem?_take, if_pos hj, List.getElem?_eq_getElem hj2]
        simp only [Option.map_some, Option.getD_some]
        rw [Int.toNat_of_nonneg hw.1]
theorem bools_of {H : Type} {enc : TypeId × Value → H} {W : World} {cs : List Value} {fuel : Nat} {x : DataW H × List MemPlace}
    (h : DataW.trod enc Try.prog W 0 (fun _ => true) true fuel 39 cs = some x) : ∃ A n c l, cs = [.slice A n c] ∧ TRow W W.heap.size A n c l := by
  rcases Deep.open_bools Try.underlying39 Try.underlying4 (by kernel_rfl) h with ⟨hcs, _⟩ | ⟨x, l, c, B, hcs, _, hl, hm, hxx, hcell⟩
  · exact ⟨none, 0, 0, [], hcs, rfl, fun h => absurd h (by omega)⟩
  · refine ⟨some x, l, c, (List.range l).map B, hcs, by simp, fun h0 => ?_⟩
    obtain ⟨b, o, rfl⟩ := spot_none (hcell 0 (by omega))
    refine ⟨b, o, rfl, ?_, fun j hj => ?_⟩
    · have := hcell 0 (by omega)
      rw [Mem.add_plain] at this
      exact World.block_lt_of_cell? W _ this
    · have := hcell j (by omega)
      rw [Mem.add_plain] at this
      rw [this, List.getD_eq_getElem?_getD, List.getElem?_map, List.getElem?_range hj]
      rfl
end Go.Proofs.Ytcfphpcakigekaa.Args
