/- What the four rows' proofs share: the table as the row lists it, a witness world. -/
import Derived.Test.YtjeenmeoiidmnaaDoorPmt1
import Derived.Test.YtjeenmeoiidmnaaDoorArgs
import Derived.Test.YtjeenmeoiidmnaaDoorCards
import Derived.Test.YtjeenmeoiidmnaaDoorTie
import Derived.Deep.DeepHandedRow
import Derived.WalkKit
import Derived.ProofKit
import Derived.OpenShut
import Derived.ShutString
import Derived.ChangeOld
import Derived.Below
import Derived.SizedLaws
import Derived.Lay
import Derived.LaidMore
import Derived.LaidLaws
import Derived.Lib.LaidTab
import Derived.SevenTiedAt
import Derived.Lib.SmallJoins
set_option linter.unusedVariables false
namespace Go.Proofs.YtjeenmeoiidmnaaDoor.Shell
open Go.ChangeShapes Go.WideShapes Go.ChangeAt Go.RowKit Go.Proofs.YtjeenmeoiidmnaaDoor.Pmt1
set_option maxRecDepth 100000

theorem shaped (os : Os) (args : Array Value) : ((World.laidAll Tryd.prog os Rows.pmtuDoesRow.laid).forCall (fun _ _ => 0) ⟨#[], args, []⟩).Shaped Tryd.prog := World.shaped_of_ZipB (by kernel_rfl) (by kernel_rfl)
theorem met (os : Os) (args : Array Value) : laidMetH Tryd.prog Rows.pmtuDoesRow.laid ((World.laidAll Tryd.prog os Rows.pmtuDoesRow.laid).forCall (fun _ _ => 0) ⟨#[], args, []⟩).memory := by
  rw [MakeChecks.laidMetH_plain _ _ _ (by kernel_rfl)]
  exact laidMet_laidAll _ (by kernel_rfl) (by kernel_rfl)

section
variable {H : Type} {enc : TypeId × Value → H} {W : World} {base : Nat} {sp : Nat → Bool} {held : Bool} {fuel : Nat} {cs : List Value} {p : List MemPlace}
theorem zu : Tryd.prog.cellsOf 3 = 1 := by kernel_rfl
theorem za : Tryd.prog.cellsOf 58 = 2 := by kernel_rfl
abbrev K : List Int := [20, 40]
theorem tab_of (h : DataW.trod enc Tryd.prog W base sp held fuel 58 cs = some (.agg (K.map fun k : Int => (.lit (.int .i64 k) : DataW H)), p)) : cs = K.map fun n : Int => Value.int .i64 n := by
  obtain ⟨xs, m, _, hx, hsz, hlen, hg⟩ := DataW.trod_array Tryd.underlying58 h
  rw [za] at hsz
  rw [zu] at hg
  have hd : xs.map (·.1) = K.map fun k : Int => (.lit (.int .i64 k) : DataW H) := by
    have := congrArg Prod.fst hx
    simpa using this.symm
  have hl : cs.length = (K.map fun n : Int => Value.int .i64 n).length := by rw [List.length_map]; exact hsz
  apply List.ext_getElem hl
  intro i h1 h2
  have hi : i < 2 := by rw [hsz] at h1; exact h1
  have e := hg i hi
  have hxl : i < xs.length := by omega
  rw [List.getElem?_eq_getElem hxl] at e
  have pc : (cs.drop (i * 1)).take 1 = [cs[i]] := by
    rw [Nat.mul_one, List.drop_eq_getElem_cons h1]; rfl
  rw [pc] at e
  have h3 : (xs.map (·.1))[i]? = some (.lit (.int .i64 (K[i]'(by exact hi)))) := by
    rw [hd, List.getElem?_map, List.getElem?_eq_getElem (by exact hi)]; rfl
  rw [List.getElem?_map, List.getElem?_eq_getElem hxl] at h3
  have h4 : (xs[i]).1 = .lit (.int .i64 (K[i]'(by exact hi))) := Option.some.inj h3
  obtain ⟨n, e1, e2, _⟩ := DataW.trod_int Tryd.underlying3 e
  rw [e2] at h4
  injection e1 with e1
  rw [e1, List.getElem_map]
  simp only [DataW.lit.injEq, Lit.int.injEq, true_and] at h4
  rw [h4]
end

theorem gN : Tryd.prog.globalNamed "redoubt/pmtu.headers" = some (0 : Nat) := by kernel_rfl
theorem gT : (Tryd.prog.globals[(0 : Nat)]?).map (·.type) = some 58 := by kernel_rfl
theorem laid_is : (Rows.laid_redoubt_pmtu_headers : DataW Unit) = .agg (K.map fun k : Int => (.lit (.int .i64 k) : DataW Unit)) := rfl
theorem tab_at {W : World} (h : laidMetH Tryd.prog Rows.pmtuDoesRow.laid W) : Tab W := by
  rw [MakeChecks.laidMetH_plain _ _ _ (by kernel_rfl)] at h
  obtain ⟨ps, ⟨g', t', cs, fuel, p, q, hg', ht', hvar, hd, _, _⟩, _⟩ := h
  obtain rfl := Option.some.inj (gN.symm.trans hg')
  obtain rfl := Option.some.inj (gT.symm.trans ht')
  rw [laid_is] at hd
  have hc := tab_of hd
  unfold World.var? at hvar
  rw [gN] at hvar
  simp only [Option.bind_some] at hvar
  split at hvar
  · next cs' t fr hh =>
    have hcs := Option.some.inj hvar
    have e : cs' = #[.int .i64 20, .int .i64 40] := by
      rw [hcs]
      apply Array.toList_inj.1
      rw [hc]
      rfl
    rw [e] at hh
    exact ⟨t, fr, hh⟩
  · cases hvar
end Go.Proofs.YtjeenmeoiidmnaaDoor.Shell
