/- Arguments that are structs, opened: their fields; how long they are. -/
import Derived.Test.YthmleabmklnmcaaDoorAppend
import Derived.Test.YthmleabmklnmcaaDoorRows
import Derived.OpenShut
import Derived.ShutString
import Derived.ChangeOld
import Derived.SizedLaws
import Derived.Lib.SmallJoins
set_option linter.unusedVariables false
namespace Go.Proofs.YthmleabmklnmcaaDoor.Args
open Go.ChangeShapes Go.WideShapes Go.ChangeAt Go.RowKit Go.Proofs.YthmleabmklnmcaaDoor.Mem
open Go.ChangeMaps (open_string shut_string)
set_option maxRecDepth 100000

theorem own : ownKnob Tryd.prog.godebug = none := by kernel_rfl
theorem laidOut : laidOutB Tryd.prog = true := by kernel_rfl
theorem reach_lt : reachBytes ≤ 140737488355328 := by decide
theorem bytes_of {H : Type} {enc : TypeId × Value → H} {W : World} {cs : List Value} {fuel : Nat} {x : DataW H × List MemPlace}
    (h : DataW.trod enc Tryd.prog W 0 (fun _ => true) true fuel 22 cs = some x) : ∃ A n c l, cs = [.slice A n c] ∧ Holds W W.heap.size A n c l ∧ (n = 0 ∨ ∃ es sp, x.1 = .slice es sp ∧ es.length = n) := by
  rcases open_ints Tryd.underlying22 Tryd.underlying5 (by kernel_rfl) h with ⟨hcs, _⟩ | ⟨x, l, c, zs, hcs, _, hl, hm, hz, hxx, hcell, hwz⟩
  · exact ⟨none, 0, 0, [], hcs, Holds.nil W _ none, .inl rfl⟩
  · exact ⟨some x, l, c, zs.take l, hcs, Holds.of_row (.inr ⟨x, rfl, hl, hm, by simpa using hz, hcell, hwz⟩), .inr ⟨_, _, by rw [hxx], by simp at hz; simp [lits, hz]; omega⟩⟩
theorem size_of {H : Type} {ts : List TypeId} {ds : List (DataW H)} (h : (DataW.weightsEach Tryd.prog ts ds).all (· ≤ reachBytes) = true) (j : Nat) (t : TypeId) (s : ByteArray) (ht : ts[j]? = some t) (hd : ds[j]? = some (.lit (.string s.data.toList))) : s.size ≤ 140737488355328 := by
  have := Nat.le_trans (sized_string h ht hd) reach_lt
  rw [Lib.size_eq]
  exact this

set_option maxHeartbeats 1000000 in
theorem icmp_of {H : Type} {enc : TypeId × Value → H} {W : World} {r : Reach} {b0 : Nat} {v : Value} {dd : DataW H} {pp : List MemPlace}
    (hv : Value.okWide Tryd.prog W r b0 24 v) (h : DataW.Trod enc Tryd.prog W 0 (fun _ => true) true 24 v dd pp) :
    ∃ (x0 : Int) (x1 : Int) (x2 : Int) (A3 : Option Addr) (n3 c3 : Nat) (l3 : List Int), v = .agg #[.int .i64 x0, .int .i64 x1, .int .i64 x2, .slice A3 n3 c3] ∧ Holds W W.heap.size A3 n3 c3 l3 ∧ ∃ D3, dd = .agg [.lit (.int .i64 x0), .lit (.int .i64 x1), .lit (.int .i64 x2), D3] ∧ (n3 = 0 ∨ ∃ es sp, D3 = .slice es sp ∧ es.length = n3) := by
  have zb : Tryd.prog.cellsOf 22 = 1 := by kernel_rfl
  have zi : Tryd.prog.cellsOf 3 = 1 := by kernel_rfl
  have hs := Tryd.underlying24
  obtain ⟨⟨cs⟩, rfl, hsz⟩ := okWide_struct hs hv
  obtain ⟨fuel, hf⟩ := h
  obtain ⟨xs, m, _, hx, _, hlen, hg⟩ := DataW.trod_struct hs hf
  match cs, hsz.trans (show Tryd.prog.cellsOf 24 = 4 by kernel_rfl), xs, hlen with
  | [g0, g1, g2, g3], _, [y0, y1, y2, y3], _ =>
    have t0 : DataW.trod enc Tryd.prog W 0 (fun _ => true) true m 3 [g0] = some y0 := by simpa [Value.cells, zb, zi] using hg 0 _ rfl
    obtain ⟨a0, e0, w0, _⟩ := DataW.trod_int Tryd.underlying3 t0
    simp at e0
    subst e0
    have t1 : DataW.trod enc Tryd.prog W 0 (fun _ => true) true m 3 [g1] = some y1 := by simpa [Value.cells, zb, zi] using hg 1 _ rfl
    obtain ⟨a1, e1, w1, _⟩ := DataW.trod_int Tryd.underlying3 t1
    simp at e1
    subst e1
    have t2 : DataW.trod enc Tryd.prog W 0 (fun _ => true) true m 3 [g2] = some y2 := by simpa [Value.cells, zb, zi] using hg 2 _ rfl
    obtain ⟨a2, e2, w2, _⟩ := DataW.trod_int Tryd.underlying3 t2
    simp at e2
    subst e2
    have t3 : DataW.trod enc Tryd.prog W 0 (fun _ => true) true m 22 [g3] = some y3 := by simpa [Value.cells, zb, zi] using hg 3 _ rfl
    obtain ⟨A3, n3, c3, l3, e3, hh3, hD3⟩ := bytes_of t3
    simp at e3
    subst e3
    exact ⟨a0, a1, a2, A3, n3, c3, l3, rfl, hh3, y3.1, by
      simp only [Prod.mk.injEq] at hx
      rw [hx.1]
      simp [w0, w1, w2], hD3⟩
theorem icmp_sizes {H : Type} {ts : List TypeId} {ds : List (DataW H)} {x0 : Int} {x1 : Int} {x2 : Int} {n3 : Nat} {D3 : DataW H} {d : DataW H} (h : (DataW.weightsEach Tryd.prog ts ds).all (· ≤ reachBytes) = true) (j : Nat) (ht : ts[j]? = some 24) (hd : ds[j]? = some d)
    (e : d = .agg [.lit (.int .i64 x0), .lit (.int .i64 x1), .lit (.int .i64 x2), D3]) (hD3 : n3 = 0 ∨ ∃ es sp, D3 = .slice es sp ∧ es.length = n3) : n3 ≤ 140737488355328 := by
  subst e
  have hu := Tryd.underlying24
  have hv := Tryd.underlying22
  have hb : Tryd.prog.bytesOf 5 = 1 := by kernel_rfl
  have g : ∀ q, q ∈ DataW.weights Tryd.prog 24 (.agg [.lit (.int .i64 x0), .lit (.int .i64 x1), .lit (.int .i64 x2), D3]) → q ≤ 140737488355328 := fun q hq => by
    have h1 := List.all_eq_true.1 h q (DataW.weights_mem_each ht hd q hq)
    exact Nat.le_trans (by simpa using h1) reach_lt
  · rcases hD3 with rfl | ⟨es, sp, rfl, rfl⟩
    · exact Nat.zero_le _
    · exact Nat.le_trans (Nat.le_add_right es.length sp.length) (g _ (by simp [DataW.weights, DataW.weightsEach, hu, hv, hb]))
end Go.Proofs.YthmleabmklnmcaaDoor.Args
