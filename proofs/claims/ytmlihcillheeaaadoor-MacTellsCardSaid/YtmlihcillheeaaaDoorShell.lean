/- What the four rows' proofs share: the table as the row lists it, a witness world. -/
import Derived.Test.YtmlihcillheeaaaDoorDig1
import Derived.Test.YtmlihcillheeaaaDoorArgs
import Derived.Test.YtmlihcillheeaaaDoorCards
import Derived.Test.YtmlihcillheeaaaDoorTie
import Derived.Deep.DeepHandedRow
import Derived.WalkKit
import Derived.ProofKit
import Derived.OpenShut
import Derived.ShutString
import Derived.ChangeOld
import Derived.Below
import Derived.SizedLaws
import Derived.Lay
import Derived.LaidMore
import Derived.LaidLaws
import Derived.Lib.LaidTab
import Derived.SevenTiedAt
import Derived.Lib.SmallJoins
set_option linter.unusedVariables false
namespace Go.Proofs.YtmlihcillheeaaaDoor.Shell
open Go.ChangeShapes Go.WideShapes Go.ChangeAt Go.RowKit Go.Proofs.YtmlihcillheeaaaDoor.ShaD Go.Proofs.YtmlihcillheeaaaDoor.Dig1
set_option maxRecDepth 100000

theorem shaped (os : Os) (args : Array Value) : ((World.laidAll Tryd.prog os Rows.macTellsRow.laid).forCall (fun _ _ => 0) ⟨#[], args, []⟩).Shaped Tryd.prog := World.shaped_of_ZipB (by kernel_rfl) (by kernel_rfl)
theorem met (os : Os) (args : Array Value) : laidMetH Tryd.prog Rows.macTellsRow.laid ((World.laidAll Tryd.prog os Rows.macTellsRow.laid).forCall (fun _ _ => 0) ⟨#[], args, []⟩).memory := by
  rw [MakeChecks.laidMetH_plain _ _ _ (by kernel_rfl)]
  exact laidMet_laidAll _ (by kernel_rfl) (by kernel_rfl)

section
variable {H : Type} {enc : TypeId × Value → H} {W : World} {base : Nat} {sp : Nat → Bool} {held : Bool} {fuel : Nat} {cs : List Value} {p : List MemPlace}
theorem zu : Tryd.prog.cellsOf 40 = 1 := by kernel_rfl
theorem za : Tryd.prog.cellsOf 54 = 72 := by kernel_rfl
theorem tab_of (h : DataW.trod enc Tryd.prog W base sp held fuel 54 cs = some (.agg (K.map fun k : Nat => (.lit (.int .u32 (k : Int)) : DataW H)), p)) : cs = K.map fun n : Nat => Value.int .u32 (n : Int) := by
  obtain ⟨xs, m, _, hx, hsz, hlen, hg⟩ := DataW.trod_array Tryd.underlying54 h
  rw [za] at hsz
  rw [zu] at hg
  have hd : xs.map (·.1) = K.map fun k : Nat => (.lit (.int .u32 (k : Int)) : DataW H) := by
    have := congrArg Prod.fst hx
    simpa using this.symm
  have hl : cs.length = (K.map fun n : Nat => Value.int .u32 (n : Int)).length := by rw [List.length_map, K_len]; exact hsz
  apply List.ext_getElem hl
  intro i h1 h2
  have hi : i < 72 := by rw [hsz] at h1; exact h1
  have e := hg i hi
  have hxl : i < xs.length := by omega
  rw [List.getElem?_eq_getElem hxl] at e
  have pc : (cs.drop (i * 1)).take 1 = [cs[i]] := by
    rw [Nat.mul_one, List.drop_eq_getElem_cons h1]; rfl
  rw [pc] at e
  have h3 : (xs.map (·.1))[i]? = some (.lit (.int .u32 ((K[i]'(by rw [K_len]; exact hi) : Nat) : Int))) := by
    rw [hd, List.getElem?_map, List.getElem?_eq_getElem (by rw [K_len]; exact hi)]; rfl
  rw [List.getElem?_map, List.getElem?_eq_getElem hxl] at h3
  have h4 : (xs[i]).1 = .lit (.int .u32 ((K[i]'(by rw [K_len]; exact hi) : Nat) : Int)) := Option.some.inj h3
  obtain ⟨n, e1, e2, _⟩ := DataW.trod_int Tryd.underlying40 e
  rw [e2] at h4
  injection e1 with e1
  rw [e1, List.getElem_map]
  simp only [DataW.lit.injEq, Lit.int.injEq, true_and] at h4
  rw [h4]
end

theorem gN : Tryd.prog.globalNamed "redoubt/digest.constants" = some (0 : Nat) := by kernel_rfl
theorem gT : (Tryd.prog.globals[(0 : Nat)]?).map (·.type) = some 54 := by kernel_rfl
theorem laid_is : (Rows.laid_redoubt_digest_constants : DataW Unit) = .agg (K.map fun k : Nat => (.lit (.int .u32 (k : Int)) : DataW Unit)) := rfl
theorem tab_at {W : World} (h : laidMetH Tryd.prog Rows.macTellsRow.laid W) : Tab W := by
  rw [MakeChecks.laidMetH_plain _ _ _ (by kernel_rfl)] at h
  obtain ⟨ps, ⟨g', t', cs, fuel, p, q, hg', ht', hvar, hd, _, _⟩, _⟩ := h
  obtain rfl := Option.some.inj (gN.symm.trans hg')
  obtain rfl := Option.some.inj (gT.symm.trans ht')
  rw [laid_is] at hd
  have hc := tab_of hd
  unfold World.var? at hvar
  rw [gN] at hvar
  simp only [Option.bind_some] at hvar
  split at hvar
  · next cs' t fr hh =>
    have hcs := Option.some.inj hvar
    have e : cs' = ucells K := by
      rw [hcs]
      apply Array.toList_inj.1
      rw [ucells, ← hc]
    rw [e] at hh
    exact ⟨t, fr, hh⟩
  · cases hvar
end Go.Proofs.YtmlihcillheeaaaDoor.Shell
