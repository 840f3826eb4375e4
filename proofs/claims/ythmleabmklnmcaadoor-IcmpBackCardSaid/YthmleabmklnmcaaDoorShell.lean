/- What the five rows' proofs share: the table as the row lists it, a witness world. -/
import Derived.Test.YthmleabmklnmcaaDoorFam
import Derived.Test.YthmleabmklnmcaaDoorArgs
import Derived.Test.YthmleabmklnmcaaDoorCards
import Derived.Test.YthmleabmklnmcaaDoorTie
import Derived.Deep.DeepHandedRow
import Derived.WalkKit
import Derived.ProofKit
import Derived.OpenShut
import Derived.ShutString
import Derived.ChangeOld
import Derived.Below
import Derived.SizedLaws
import Derived.Lay
import Derived.LaidMore
import Derived.LaidLaws
import Derived.Lib.LaidTab
import Derived.SevenTiedAt
import Derived.Lib.SmallJoins
set_option linter.unusedVariables false
namespace Go.Proofs.YthmleabmklnmcaaDoor.Shell
open Go.ChangeShapes Go.WideShapes Go.ChangeAt Go.RowKit Go.Proofs.YthmleabmklnmcaaDoor.Fam
set_option maxRecDepth 100000

theorem shaped (os : Os) (args : Array Value) : ((World.laidAll Tryd.prog os Rows.icmpLaysRow.laid).forCall (fun _ _ => 0) ⟨#[], args, []⟩).Shaped Tryd.prog := World.shaped_of_ZipB (by kernel_rfl) (by kernel_rfl)
theorem met (os : Os) (args : Array Value) : laidMetH Tryd.prog Rows.icmpLaysRow.laid ((World.laidAll Tryd.prog os Rows.icmpLaysRow.laid).forCall (fun _ _ => 0) ⟨#[], args, []⟩).memory := by
  rw [MakeChecks.laidMetH_plain _ _ _ (by kernel_rfl)]
  exact laidMet_laidAll _ (by kernel_rfl) (by kernel_rfl)

section
variable {H : Type} {enc : TypeId × Value → H} {W : World} {base : Nat} {sp : Nat → Bool} {held : Bool} {fuel : Nat} {cs : List Value} {p : List MemPlace}
theorem zi : Tryd.prog.cellsOf 3 = 1 := by kernel_rfl
theorem zb : Tryd.prog.cellsOf 4 = 1 := by kernel_rfl
theorem zl : Tryd.prog.cellsOf 54 = 3 := by kernel_rfl
theorem zf : Tryd.prog.cellsOf 61 = 7 := by kernel_rfl
theorem za : Tryd.prog.cellsOf 62 = 42 := by kernel_rfl
def lkD (x : Lk) : DataW H := .agg [.lit (.int .i64 x.t), .lit (.int .i64 x.c), .lit (.bool x.o)]
def fmD (x : Fm) : DataW H := .agg [.lit (.int .i64 x.k), lkD x.four, lkD x.six]
theorem lk_of {x : Lk} (h : DataW.trod enc Tryd.prog W base sp held fuel 54 cs = some (lkD x, p)) : cs = x.cells := by
  obtain ⟨xs, m, _, hx, hsz, hlen, hg⟩ := DataW.trod_struct Tryd.underlying54 h
  match cs, hsz.trans zl, xs, hlen with
  | [g0, g1, g2], _, [y0, y1, y2], _ =>
    have t0 : DataW.trod enc Tryd.prog W base sp held m 3 [g0] = some y0 := by simpa [Value.cells, zb, zi] using hg 0 _ rfl
    obtain ⟨a0, e0, w0, _⟩ := DataW.trod_int Tryd.underlying3 t0
    have t1 : DataW.trod enc Tryd.prog W base sp held m 3 [g1] = some y1 := by simpa [Value.cells, zb, zi] using hg 1 _ rfl
    obtain ⟨a1, e1, w1, _⟩ := DataW.trod_int Tryd.underlying3 t1
    have t2 : DataW.trod enc Tryd.prog W base sp held m 4 [g2] = some y2 := by simpa [Value.cells, zb, zi] using hg 2 _ rfl
    obtain ⟨a2, e2, w2⟩ := DataW.trod_bool Tryd.underlying4 t2
    simp at e0 e1 e2
    subst e0 e1 e2
    have := congrArg Prod.fst hx
    simp [lkD, w0, w1, w2] at this
    obtain ⟨h0, h1, h2⟩ := this
    simp [Lk.cells, h0, h1, h2]
theorem fm_of {x : Fm} (h : DataW.trod enc Tryd.prog W base sp held fuel 61 cs = some (fmD x, p)) : cs = x.cells := by
  obtain ⟨xs, m, _, hx, hsz, hlen, hg⟩ := DataW.trod_struct Tryd.underlying61 h
  match cs, hsz.trans zf, xs, hlen with
  | [g0, g1, g2, g3, g4, g5, g6], _, [y0, (d1, p1), (d2, p2)], _ =>
    have t0 : DataW.trod enc Tryd.prog W base sp held m 3 [g0] = some y0 := by simpa [Value.cells, zb, zi, zl] using hg 0 _ rfl
    obtain ⟨a0, e0, w0, _⟩ := DataW.trod_int Tryd.underlying3 t0
    have t1 : DataW.trod enc Tryd.prog W base sp held m 54 [g1, g2, g3] = some (d1, p1) := by simpa [Value.cells, zb, zi, zl] using hg 1 _ rfl
    have t2 : DataW.trod enc Tryd.prog W base sp held m 54 [g4, g5, g6] = some (d2, p2) := by simpa [Value.cells, zb, zi, zl] using hg 2 _ rfl
    simp at e0
    subst e0
    have := congrArg Prod.fst hx
    simp [fmD, w0] at this
    obtain ⟨h0, h1, h2⟩ := this
    subst h0 h1 h2
    have u1 := lk_of t1
    have u2 := lk_of t2
    simp only [Fm.cells, ← u1, ← u2]
    rfl
theorem piece (k : Nat) (l : List Value) : l.drop (k * 7) = (l.drop (k * 7)).take 7 ++ l.drop ((k + 1) * 7) := by
  rw [show (k + 1) * 7 = 7 + k * 7 by omega, Nat.add_comm 7, ← List.drop_drop, List.take_append_drop]
theorem fams_of (h : DataW.trod enc Tryd.prog W base sp held fuel 62 cs = some (.agg (fams.map fmD), p)) : cs = fams.flatMap Fm.cells := by
  obtain ⟨xs, m, _, hx, hsz, hlen, hg⟩ := DataW.trod_array Tryd.underlying62 h
  rw [za] at hsz
  rw [zf] at hg
  have hd : xs.map (·.1) = fams.map fmD := by
    have := congrArg Prod.fst hx
    simpa using this.symm
  have at_ : ∀ i (hi : i < 6) (x : Fm), fams[i]? = some x → (cs.drop (i * 7)).take 7 = x.cells := by
    intro i hi x hxi
    have h1 := hg i hi
    have hl : i < xs.length := by omega
    rw [List.getElem?_eq_getElem hl] at h1
    have h2 : (xs.map (·.1))[i]? = some (fmD x) := by rw [hd, List.getElem?_map, hxi]; rfl
    rw [List.getElem?_map, List.getElem?_eq_getElem hl] at h2
    have h3 : (xs[i]).1 = fmD x := Option.some.inj h2
    generalize xs[i] = y at *
    obtain ⟨yd, yp⟩ := y
    simp only at h3
    subst h3
    exact fm_of h1
  have p0 := piece 0 cs
  have p1 := piece 1 cs
  have p2 := piece 2 cs
  have p3 := piece 3 cs
  have p4 := piece 4 cs
  have p5 := piece 5 cs
  rw [at_ 0 (by omega) _ rfl] at p0
  rw [at_ 1 (by omega) _ rfl] at p1
  rw [at_ 2 (by omega) _ rfl] at p2
  rw [at_ 3 (by omega) _ rfl] at p3
  rw [at_ 4 (by omega) _ rfl] at p4
  rw [at_ 5 (by omega) _ rfl] at p5
  have e : cs.drop ((5 + 1) * 7) = [] := List.drop_eq_nil_of_le (by omega)
  rw [e] at p5
  have z : cs.drop (0 * 7) = cs := rfl
  rw [← z, p0, p1, p2, p3, p4, p5]
  rfl
end

theorem gN : Tryd.prog.globalNamed "redoubt/icmp.families" = some (0 : Nat) := by kernel_rfl
theorem gT : (Tryd.prog.globals[(0 : Nat)]?).map (·.type) = some 62 := by kernel_rfl
theorem laid_is : (Rows.laid_redoubt_icmp_families : DataW Unit) = .agg (fams.map fmD) := rfl
theorem fam_of {W : World} (h : laidMetH Tryd.prog Rows.icmpLaysRow.laid W) : Fam W := by
  rw [MakeChecks.laidMetH_plain _ _ _ (by kernel_rfl)] at h
  obtain ⟨ps, ⟨g', t', cs, fuel, p, q, hg', ht', hvar, hd, _, _⟩, _⟩ := h
  obtain rfl := Option.some.inj (gN.symm.trans hg')
  obtain rfl := Option.some.inj (gT.symm.trans ht')
  rw [laid_is] at hd
  have hc := fams_of hd
  unfold World.var? at hvar
  rw [gN] at hvar
  simp only [Option.bind_some] at hvar
  split at hvar
  · next cs' t fr hh =>
    have hcs := Option.some.inj hvar
    have e : cs' = famCells := by
      rw [hcs]
      apply Array.toList_inj.1
      rw [famCells_is, ← hc]
    rw [e] at hh
    exact ⟨t, fr, hh⟩
  · cases hvar
end Go.Proofs.YthmleabmklnmcaaDoor.Shell
