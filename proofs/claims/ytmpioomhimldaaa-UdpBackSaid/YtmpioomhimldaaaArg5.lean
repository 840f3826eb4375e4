/- An argument api.Udp, opened: its ports, its data; how long it is. -/
import Derived.Test.YtmpioomhimldaaaAppend
import Derived.Test.YtmpioomhimldaaaRows
import Derived.OpenShut
import Derived.ShutString
import Derived.ChangeOld
import Derived.SizedLaws
import Derived.Lib.SmallJoins
set_option linter.unusedVariables false
namespace Go.Proofs.Ytmpioomhimldaaa.Arg5
open Go.ChangeShapes Go.WideShapes Go.ChangeAt Go.RowKit Go.Proofs.Ytmpioomhimldaaa.Mem
open Go.ChangeMaps (open_string shut_string)
set_option maxRecDepth 100000

theorem own : ownKnob Try.prog.godebug = none := by kernel_rfl
theorem laidOut : laidOutB Try.prog = true := by kernel_rfl
theorem reach_lt : reachBytes ≤ 140737488355328 := by decide

theorem bytes_of {H : Type} {enc : TypeId × Value → H} {W : World} {cs : List Value} {fuel : Nat} {x : DataW H × List MemPlace}
    (h : DataW.trod enc Try.prog W 0 (fun _ => true) true fuel 22 cs = some x) : ∃ A n c l, cs = [.slice A n c] ∧ Holds W W.heap.size A n c l ∧ (n = 0 ∨ ∃ es sp, x.1 = .slice es sp ∧ es.length = n) := by
  rcases open_ints Try.underlying22 Try.underlying5 (by kernel_rfl) h with ⟨hcs, _⟩ | ⟨x, l, c, zs, hcs, _, hl, hm, hz, hxx, hcell, hwz⟩
  · exact ⟨none, 0, 0, [], hcs, Holds.nil W _ none, .inl rfl⟩
  · exact ⟨some x, l, c, zs.take l, hcs, Holds.of_row (.inr ⟨x, rfl, hl, hm, by simpa using hz, hcell, hwz⟩), .inr ⟨_, _, by rw [hxx], by simp at hz; simp [lits, hz]; omega⟩⟩

set_option maxHeartbeats 1000000 in
theorem dat_of {H : Type} {enc : TypeId × Value → H} {W : World} {r : Reach} {b0 : Nat} {v : Value} {dd : DataW H} {pp : List MemPlace}
    (hv : Value.okWide Try.prog W r b0 24 v) (h : DataW.Trod enc Try.prog W 0 (fun _ => true) true 24 v dd pp) :
    ∃ (a b : Int) (A : Option Addr) (n c : Nat) (l : List Int), v = .agg #[.int .i64 a, .int .i64 b, .slice A n c] ∧ Holds W W.heap.size A n c l ∧
      ∃ D, dd = .agg [.lit (.int .i64 a), .lit (.int .i64 b), D] ∧ (n = 0 ∨ ∃ es sp, D = .slice es sp ∧ es.length = n) := by
  have ci : Try.prog.cellsOf 3 = 1 := by kernel_rfl
  have cd : Try.prog.cellsOf 22 = 1 := by kernel_rfl
  have hs := Try.underlying24
  obtain ⟨⟨cs⟩, rfl, hsz⟩ := okWide_struct hs hv
  obtain ⟨fuel, hf⟩ := h
  obtain ⟨xs, m, _, hx, _, hlen, hg⟩ := DataW.trod_struct hs hf
  match cs, hsz.trans (show Try.prog.cellsOf 24 = 3 by kernel_rfl), xs, hlen with
  | [c0, c1, c2], _, [y0, y1, y2], _ =>
    have t0 : DataW.trod enc Try.prog W 0 (fun _ => true) true m 3 [c0] = some y0 := by simpa [Value.cells, ci] using hg 0 _ rfl
    obtain ⟨a0, e0, z0, _⟩ := DataW.trod_int Try.underlying3 t0
    simp at e0
    subst e0
    have t1 : DataW.trod enc Try.prog W 0 (fun _ => true) true m 3 [c1] = some y1 := by simpa [Value.cells, ci] using hg 1 _ rfl
    obtain ⟨a1, e1, z1, _⟩ := DataW.trod_int Try.underlying3 t1
    simp at e1
    subst e1
    have t2 : DataW.trod enc Try.prog W 0 (fun _ => true) true m 22 [c2] = some y2 := by simpa [Value.cells, ci, cd] using hg 2 _ rfl
    obtain ⟨A, n, c, l, e2, hh, hD⟩ := bytes_of t2
    simp at e2
    subst e2
    exact ⟨a0, a1, A, n, c, l, rfl, hh, y2.1, by
      simp only [Prod.mk.injEq] at hx
      rw [hx.1]
      simp [z0, z1], hD⟩

/-- How long an argument's bytes are. -/
theorem sizes_of {H : Type} {ts : List TypeId} {ds : List (DataW H)} {a b : Int} {n : Nat} {d D : DataW H} (h : (DataW.weightsEach Try.prog ts ds).all (· ≤ reachBytes) = true) (j : Nat) (ht : ts[j]? = some 24) (hd : ds[j]? = some d)
    (e : d = .agg [.lit (.int .i64 a), .lit (.int .i64 b), D]) (hD : n = 0 ∨ ∃ es sp, D = .slice es sp ∧ es.length = n) : n ≤ 140737488355328 := by
  subst e
  have hu := Try.underlying24
  have hv := Try.underlying22
  have hb : Try.prog.bytesOf 5 = 1 := by kernel_rfl
  have g : ∀ q, q ∈ DataW.weights Try.prog 24 (.agg [.lit (.int .i64 a), .lit (.int .i64 b), D]) → q ≤ 140737488355328 := fun q hq => by
    have h1 := List.all_eq_true.1 h q (DataW.weights_mem_each ht hd q hq)
    exact Nat.le_trans (by simpa using h1) reach_lt
  rcases hD with rfl | ⟨es, sp, rfl, rfl⟩
  · exact Nat.zero_le _
  · refine Nat.le_trans (Nat.le_add_right es.length sp.length) (g _ ?_)
    simp [DataW.weights, DataW.weightsEach, hu, hv, hb]
/-- How long an argument's text is. -/
theorem size_of {H : Type} {ts : List TypeId} {ds : List (DataW H)} (h : (DataW.weightsEach Try.prog ts ds).all (· ≤ reachBytes) = true) (j : Nat) (t : TypeId) (s : ByteArray) (ht : ts[j]? = some t) (hd : ds[j]? = some (.lit (.string s.data.toList))) : s.size ≤ 140737488355328 := by
  have := Nat.le_trans (sized_string h ht hd) reach_lt
  rw [Lib.size_eq]
  exact this
end Go.Proofs.Ytmpioomhimldaaa.Arg5
