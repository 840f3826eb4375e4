/- Arguments that are structs, opened: their fields; how long they are. -/
import Derived.Test.YtdnkbefpbehllaaDoorM01
import Derived.Test.YtdnkbefpbehllaaDoorRows
import Derived.Test.YtdnkbefpbehllaaDoorM05
import Derived.Test.YtdnkbefpbehllaaDoorCards
import Derived.Test.YtdnkbefpbehllaaDoorTie
import Derived.OpenShut
import Derived.ShutString
import Derived.ChangeOld
import Derived.SizedLaws
import Derived.Lib.SmallJoins
import Derived.Deep.DeepHandedRow
import Derived.WalkKit
import Derived.ProofKit
import Derived.Below
import Derived.Lay
import Derived.LaidMore
import Derived.LaidLaws
import Derived.Lib.LaidTab
import Derived.SevenTiedAt
set_option linter.unusedVariables false
namespace Go.Proofs.YtdnkbefpbehllaaDoor.Args
open Go.ChangeShapes Go.WideShapes Go.ChangeAt Go.RowKit Go.Proofs.YtdnkbefpbehllaaDoor.Mem
open Go.ChangeMaps (open_string shut_string)
set_option maxRecDepth 100000

theorem own : ownKnob Tryd.prog.godebug = none := by kernel_rfl
theorem laidOut : laidOutB Tryd.prog = true := by kernel_rfl
theorem reach_lt : reachBytes ≤ 140737488355328 := by decide
theorem bytes_of {H : Type} {enc : TypeId × Value → H} {W : World} {cs : List Value} {fuel : Nat} {x : DataW H × List MemPlace}
    (h : DataW.trod enc Tryd.prog W 0 (fun _ => true) true fuel 25 cs = some x) : ∃ A n c l, cs = [.slice A n c] ∧ Holds W W.heap.size A n c l ∧ (n = 0 ∨ ∃ es sp, x.1 = .slice es sp ∧ es.length = n) := by
  rcases open_ints Tryd.underlying25 Tryd.underlying5 (by kernel_rfl) h with ⟨hcs, _⟩ | ⟨x, l, c, zs, hcs, _, hl, hm, hz, hxx, hcell, hwz⟩
  · exact ⟨none, 0, 0, [], hcs, Holds.nil W _ none, .inl rfl⟩
  · exact ⟨some x, l, c, zs.take l, hcs, Holds.of_row (.inr ⟨x, rfl, hl, hm, by simpa using hz, hcell, hwz⟩), .inr ⟨_, _, by rw [hxx], by simp at hz; simp [lits, hz]; omega⟩⟩
theorem size_of {H : Type} {ts : List TypeId} {ds : List (DataW H)} (h : (DataW.weightsEach Tryd.prog ts ds).all (· ≤ reachBytes) = true) (j : Nat) (t : TypeId) (s : ByteArray) (ht : ts[j]? = some t) (hd : ds[j]? = some (.lit (.string s.data.toList))) : s.size ≤ 140737488355328 := by
  have := Nat.le_trans (sized_string h ht hd) reach_lt
  rw [Lib.size_eq]
  exact this
theorem bytes_size {H : Type} {ts : List TypeId} {ds : List (DataW H)} {n : Nat} {d : DataW H} (h : (DataW.weightsEach Tryd.prog ts ds).all (· ≤ reachBytes) = true) (j : Nat) (ht : ts[j]? = some 25) (hd : ds[j]? = some d) (hD : n = 0 ∨ ∃ es sp, d = .slice es sp ∧ es.length = n) : n ≤ 140737488355328 := by
  have hv := Tryd.underlying25
  have hb : Tryd.prog.bytesOf 5 = 1 := by kernel_rfl
  have g : ∀ q, q ∈ DataW.weights Tryd.prog 25 d → q ≤ 140737488355328 := fun q hq => by
    have h1 := List.all_eq_true.1 h q (DataW.weights_mem_each ht hd q hq)
    exact Nat.le_trans (by simpa using h1) reach_lt
  rcases hD with rfl | ⟨es, sp, rfl, rfl⟩
  · exact Nat.zero_le _
  · exact Nat.le_trans (Nat.le_add_right es.length sp.length) (g _ (by simp [DataW.weights, hv, hb]))

set_option maxHeartbeats 1000000 in
theorem sa_of {H : Type} {enc : TypeId × Value → H} {W : World} {r : Reach} {b0 : Nat} {v : Value} {dd : DataW H} {pp : List MemPlace}
    (hv : Value.okWide Tryd.prog W r b0 23 v) (h : DataW.Trod enc Tryd.prog W 0 (fun _ => true) true 23 v dd pp) :
    ∃ (x0 : Int) (x1 : ByteArray) (x2 : ByteArray) (x3 : ByteArray) (x4 : Bool) (x5 : Int), v = .agg #[.int .i64 x0, .string x1, .string x2, .string x3, .bool x4, .int .i64 x5] ∧ dd = .agg [.lit (.int .i64 x0), .lit (.string x1.data.toList), .lit (.string x2.data.toList), .lit (.string x3.data.toList), .lit (.bool x4), .lit (.int .i64 x5)] := by
  have zi : Tryd.prog.cellsOf 3 = 1 := by kernel_rfl
  have zs : Tryd.prog.cellsOf 9 = 1 := by kernel_rfl
  have zt : Tryd.prog.cellsOf 4 = 1 := by kernel_rfl
  have hs := Tryd.underlying23
  obtain ⟨⟨cs⟩, rfl, hsz⟩ := okWide_struct hs hv
  obtain ⟨fuel, hf⟩ := h
  obtain ⟨xs, m, _, hx, _, hlen, hg⟩ := DataW.trod_struct hs hf
  match cs, hsz.trans (show Tryd.prog.cellsOf 23 = 6 by kernel_rfl), xs, hlen with
  | [g0, g1, g2, g3, g4, g5], _, [y0, y1, y2, y3, y4, y5], _ =>
    have t0 : DataW.trod enc Tryd.prog W 0 (fun _ => true) true m 3 [g0] = some y0 := by simpa [Value.cells, zi, zs, zt] using hg 0 _ rfl
    obtain ⟨a0, e0, w0, _⟩ := DataW.trod_int Tryd.underlying3 t0
    simp at e0
    subst e0
    have t1 : DataW.trod enc Tryd.prog W 0 (fun _ => true) true m 9 [g1] = some y1 := by simpa [Value.cells, zi, zs, zt] using hg 1 _ rfl
    obtain ⟨a1, e1, w1, _⟩ := DataW.trod_string Tryd.underlying9 t1
    simp at e1
    subst e1
    have t2 : DataW.trod enc Tryd.prog W 0 (fun _ => true) true m 9 [g2] = some y2 := by simpa [Value.cells, zi, zs, zt] using hg 2 _ rfl
    obtain ⟨a2, e2, w2, _⟩ := DataW.trod_string Tryd.underlying9 t2
    simp at e2
    subst e2
    have t3 : DataW.trod enc Tryd.prog W 0 (fun _ => true) true m 9 [g3] = some y3 := by simpa [Value.cells, zi, zs, zt] using hg 3 _ rfl
    obtain ⟨a3, e3, w3, _⟩ := DataW.trod_string Tryd.underlying9 t3
    simp at e3
    subst e3
    have t4 : DataW.trod enc Tryd.prog W 0 (fun _ => true) true m 4 [g4] = some y4 := by simpa [Value.cells, zi, zs, zt] using hg 4 _ rfl
    obtain ⟨a4, e4, w4⟩ := DataW.trod_bool Tryd.underlying4 t4
    simp at e4
    subst e4
    have t5 : DataW.trod enc Tryd.prog W 0 (fun _ => true) true m 3 [g5] = some y5 := by simpa [Value.cells, zi, zs, zt] using hg 5 _ rfl
    obtain ⟨a5, e5, w5, _⟩ := DataW.trod_int Tryd.underlying3 t5
    simp at e5
    subst e5
    exact ⟨a0, a1, a2, a3, a4, a5, rfl, by
      simp only [Prod.mk.injEq] at hx
      rw [hx.1]
      simp [w0, w1, w2, w3, w4, w5]⟩
theorem sa_sizes {H : Type} {ts : List TypeId} {ds : List (DataW H)} {x0 : Int} {x1 : ByteArray} {x2 : ByteArray} {x3 : ByteArray} {x4 : Bool} {x5 : Int} {d : DataW H} (h : (DataW.weightsEach Tryd.prog ts ds).all (· ≤ reachBytes) = true) (j : Nat) (ht : ts[j]? = some 23) (hd : ds[j]? = some d)
    (e : d = .agg [.lit (.int .i64 x0), .lit (.string x1.data.toList), .lit (.string x2.data.toList), .lit (.string x3.data.toList), .lit (.bool x4), .lit (.int .i64 x5)])  : x1.size ≤ 140737488355328 ∧ x2.size ≤ 140737488355328 ∧ x3.size ≤ 140737488355328 := by
  subst e
  have hu := Tryd.underlying23
  have hv := Tryd.underlying25
  have hb : Tryd.prog.bytesOf 5 = 1 := by kernel_rfl
  have g : ∀ q, q ∈ DataW.weights Tryd.prog 23 (.agg [.lit (.int .i64 x0), .lit (.string x1.data.toList), .lit (.string x2.data.toList), .lit (.string x3.data.toList), .lit (.bool x4), .lit (.int .i64 x5)]) → q ≤ 140737488355328 := fun q hq => by
    have h1 := List.all_eq_true.1 h q (DataW.weights_mem_each ht hd q hq)
    exact Nat.le_trans (by simpa using h1) reach_lt
  refine ⟨?_, ?_, ?_⟩
  · rw [Lib.size_eq]; exact g _ (by simp [DataW.weights, DataW.weightsEach, hu])
  · rw [Lib.size_eq]; exact g _ (by simp [DataW.weights, DataW.weightsEach, hu])
  · rw [Lib.size_eq]; exact g _ (by simp [DataW.weights, DataW.weightsEach, hu])
end Go.Proofs.YtdnkbefpbehllaaDoor.Args

/- What the four rows' proofs share: the table as the row lists it, a witness world. -/
set_option linter.unusedVariables false
namespace Go.Proofs.YtdnkbefpbehllaaDoor.Shell
open Go.ChangeShapes Go.WideShapes Go.ChangeAt Go.RowKit Go.Proofs.YtdnkbefpbehllaaDoor.ShaD Go.Proofs.YtdnkbefpbehllaaDoor.Dig1
set_option maxRecDepth 100000

theorem shaped (os : Os) (args : Array Value) : ((World.laidAll Tryd.prog os Rows.espBackRow.laid).forCall (fun _ _ => 0) ⟨#[], args, []⟩).Shaped Tryd.prog := World.shaped_of_ZipB (by kernel_rfl) (by kernel_rfl)
theorem met (os : Os) (args : Array Value) : laidMetH Tryd.prog Rows.espBackRow.laid ((World.laidAll Tryd.prog os Rows.espBackRow.laid).forCall (fun _ _ => 0) ⟨#[], args, []⟩).memory := by
  rw [MakeChecks.laidMetH_plain _ _ _ (by kernel_rfl)]
  exact laidMet_laidAll _ (by kernel_rfl) (by kernel_rfl)

section
variable {H : Type} {enc : TypeId × Value → H} {W : World} {base : Nat} {sp : Nat → Bool} {held : Bool} {fuel : Nat} {cs : List Value} {p : List MemPlace}
theorem zu : Tryd.prog.cellsOf 94 = 1 := by kernel_rfl
theorem za : Tryd.prog.cellsOf 110 = 72 := by kernel_rfl
theorem tab_of (h : DataW.trod enc Tryd.prog W base sp held fuel 110 cs = some (.agg (K.map fun k : Nat => (.lit (.int .u32 (k : Int)) : DataW H)), p)) : cs = K.map fun n : Nat => Value.int .u32 (n : Int) := by
  obtain ⟨xs, m, _, hx, hsz, hlen, hg⟩ := DataW.trod_array Tryd.underlying110 h
  rw [za] at hsz
  rw [zu] at hg
  have hd : xs.map (·.1) = K.map fun k : Nat => (.lit (.int .u32 (k : Int)) : DataW H) := by
    have := congrArg Prod.fst hx
    simpa using this.symm
  have hl : cs.length = (K.map fun n : Nat => Value.int .u32 (n : Int)).length := by rw [List.length_map, K_len]; exact hsz
  apply List.ext_getElem hl
  intro i h1 h2
  have hi : i < 72 := by rw [hsz] at h1; exact h1
  have e := hg i hi
  have hxl : i < xs.length := by omega
  rw [List.getElem?_eq_getElem hxl] at e
  have pc : (cs.drop (i * 1)).take 1 = [cs[i]] := by
    rw [Nat.mul_one, List.drop_eq_getElem_cons h1]; rfl
  rw [pc] at e
  have h3 : (xs.map (·.1))[i]? = some (.lit (.int .u32 ((K[i]'(by rw [K_len]; exact hi) : Nat) : Int))) := by
    rw [hd, List.getElem?_map, List.getElem?_eq_getElem (by rw [K_len]; exact hi)]; rfl
  rw [List.getElem?_map, List.getElem?_eq_getElem hxl] at h3
  have h4 : (xs[i]).1 = .lit (.int .u32 ((K[i]'(by rw [K_len]; exact hi) : Nat) : Int)) := Option.some.inj h3
  obtain ⟨n, e1, e2, _⟩ := DataW.trod_int Tryd.underlying94 e
  rw [e2] at h4
  injection e1 with e1
  rw [e1, List.getElem_map]
  simp only [DataW.lit.injEq, Lit.int.injEq, true_and] at h4
  rw [h4]
end

theorem gN : Tryd.prog.globalNamed "redoubt/digest.constants" = some (0 : Nat) := by kernel_rfl
theorem gT : (Tryd.prog.globals[(0 : Nat)]?).map (·.type) = some 110 := by kernel_rfl
theorem laid_is : (Rows.laid_redoubt_digest_constants : DataW Unit) = .agg (K.map fun k : Nat => (.lit (.int .u32 (k : Int)) : DataW Unit)) := rfl
theorem tab_at {W : World} (h : laidMetH Tryd.prog Rows.espBackRow.laid W) : Tab W := by
  rw [MakeChecks.laidMetH_plain _ _ _ (by kernel_rfl)] at h
  obtain ⟨ps, ⟨g', t', cs, fuel, p, q, hg', ht', hvar, hd, _, _⟩, _⟩ := h
  obtain rfl := Option.some.inj (gN.symm.trans hg')
  obtain rfl := Option.some.inj (gT.symm.trans ht')
  rw [laid_is] at hd
  have hc := tab_of hd
  unfold World.var? at hvar
  rw [gN] at hvar
  simp only [Option.bind_some] at hvar
  split at hvar
  · next cs' t fr hh =>
    have hcs := Option.some.inj hvar
    have e : cs' = ucells K := by
      rw [hcs]
      apply Array.toList_inj.1
      rw [ucells, ← hc]
    rw [e] at hh
    exact ⟨t, fr, hh⟩
  · cases hvar
end Go.Proofs.YtdnkbefpbehllaaDoor.Shell

