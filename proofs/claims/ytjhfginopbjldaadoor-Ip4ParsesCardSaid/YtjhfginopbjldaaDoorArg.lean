/- An argument api.Ip4, opened. -/
import Derived.Test.YtjhfginopbjldaaDoorShell
import Derived.Test.YtjhfginopbjldaaDoorSame
import Derived.Test.YtjhfginopbjldaaDoorAppend
namespace Go.Proofs.YtjhfginopbjldaaDoor.Arg
open Go.ChangeShapes Go.WideShapes Go.ChangeAt Go.RowKit Go.Proofs.YtjhfginopbjldaaDoor.Mem Go.Proofs.YtjhfginopbjldaaDoor.Pkt Go.Proofs.YtjhfginopbjldaaDoor.Check Go.Proofs.YtjhfginopbjldaaDoor.Shell
set_option linter.unusedVariables false

theorem bytes_of {H : Type} {enc : TypeId × Value → H} {W : World} {cs : List Value} {fuel : Nat} {x : DataW H × List MemPlace}
    (h : DataW.trod enc Tryd.prog W 0 (fun _ => true) true fuel 22 cs = some x) : ∃ A n c l, cs = [.slice A n c] ∧ Holds W W.heap.size A n c l ∧ (n = 0 ∨ ∃ es sp, x.1 = .slice es sp ∧ es.length = n) := by
  rcases open_ints Tryd.underlying22 Tryd.underlying5 (by kernel_rfl) h with ⟨hcs, _⟩ | ⟨x, l, c, zs, hcs, _, hl, hm, hz, hxx, hcell, hwz⟩
  · exact ⟨none, 0, 0, [], hcs, Holds.nil W _ none, .inl rfl⟩
  · exact ⟨some x, l, c, zs.take l, hcs, Holds.of_row (.inr ⟨x, rfl, hl, hm, by simpa using hz, hcell, hwz⟩), .inr ⟨_, _, by rw [hxx], by simp at hz; simp [lits, hz]; omega⟩⟩

set_option maxRecDepth 100000 in
set_option maxHeartbeats 1000000 in
theorem pkt_of {H : Type} {enc : TypeId × Value → H} {W : World} {r : Reach} {b0 : Nat} {v : Value} {d : DataW H} {p : List MemPlace}
    (hv : Value.okWide Tryd.prog W r b0 24 v) (h : DataW.Trod enc Tryd.prog W 0 (fun _ => true) true 24 v d p) :
    ∃ (k : Pkt) (A : Option Addr) (n c : Nat) (l : List Int), v = val k (.slice A n c) ∧ Holds W W.heap.size A n c l ∧ ∃ D, d = .agg [.lit (.int .i64 k.tos), .lit (.int .i64 k.id), .lit (.int .i64 k.ttl), .lit (.int .i64 k.proto), .lit (.bool k.df), .lit (.bool k.mf), .lit (.int .i64 k.off), .lit (.string k.src.data.toList), .lit (.string k.dst.data.toList), .lit (.string k.opt.data.toList), D] ∧ (n = 0 ∨ ∃ es sp, D = .slice es sp ∧ es.length = n) := by
  have ci : Tryd.prog.cellsOf 3 = 1 := by kernel_rfl
  have cb : Tryd.prog.cellsOf 4 = 1 := by kernel_rfl
  have ct : Tryd.prog.cellsOf 9 = 1 := by kernel_rfl
  have cd : Tryd.prog.cellsOf 22 = 1 := by kernel_rfl
  have hs := Tryd.underlying24
  obtain ⟨⟨cs⟩, rfl, hsz⟩ := okWide_struct hs hv
  obtain ⟨fuel, hf⟩ := h
  obtain ⟨xs, m, _, hx, _, hlen, hg⟩ := DataW.trod_struct hs hf
  match cs, hsz.trans (show Tryd.prog.cellsOf 24 = 11 by kernel_rfl), xs, hlen with
  | [c0, c1, c2, c3, c4, c5, c6, c7, c8, c9, c10], _, [y0, y1, y2, y3, y4, y5, y6, y7, y8, y9, y10], _ =>
    have t0 : DataW.trod enc Tryd.prog W 0 (fun _ => true) true m 3 [c0] = some y0 := by simpa [Value.cells, ci] using hg 0 _ rfl
    obtain ⟨a0, e0, z0, _⟩ := DataW.trod_int Tryd.underlying3 t0
    simp at e0
    subst e0
    have t1 : DataW.trod enc Tryd.prog W 0 (fun _ => true) true m 3 [c1] = some y1 := by simpa [Value.cells, ci] using hg 1 _ rfl
    obtain ⟨a1, e1, z1, _⟩ := DataW.trod_int Tryd.underlying3 t1
    simp at e1
    subst e1
    have t2 : DataW.trod enc Tryd.prog W 0 (fun _ => true) true m 3 [c2] = some y2 := by simpa [Value.cells, ci] using hg 2 _ rfl
    obtain ⟨a2, e2, z2, _⟩ := DataW.trod_int Tryd.underlying3 t2
    simp at e2
    subst e2
    have t3 : DataW.trod enc Tryd.prog W 0 (fun _ => true) true m 3 [c3] = some y3 := by simpa [Value.cells, ci] using hg 3 _ rfl
    obtain ⟨a3, e3, z3, _⟩ := DataW.trod_int Tryd.underlying3 t3
    simp at e3
    subst e3
    have t4 : DataW.trod enc Tryd.prog W 0 (fun _ => true) true m 4 [c4] = some y4 := by simpa [Value.cells, cb] using hg 4 _ rfl
    obtain ⟨a4, e4, z4⟩ := DataW.trod_bool Tryd.underlying4 t4
    simp at e4
    subst e4
    have t5 : DataW.trod enc Tryd.prog W 0 (fun _ => true) true m 4 [c5] = some y5 := by simpa [Value.cells, cb] using hg 5 _ rfl
    obtain ⟨a5, e5, z5⟩ := DataW.trod_bool Tryd.underlying4 t5
    simp at e5
    subst e5
    have t6 : DataW.trod enc Tryd.prog W 0 (fun _ => true) true m 3 [c6] = some y6 := by simpa [Value.cells, ci] using hg 6 _ rfl
    obtain ⟨a6, e6, z6, _⟩ := DataW.trod_int Tryd.underlying3 t6
    simp at e6
    subst e6
    have t7 : DataW.trod enc Tryd.prog W 0 (fun _ => true) true m 9 [c7] = some y7 := by simpa [Value.cells, ct] using hg 7 _ rfl
    obtain ⟨a7, e7, z7, _⟩ := DataW.trod_string Tryd.underlying9 t7
    simp at e7
    subst e7
    have t8 : DataW.trod enc Tryd.prog W 0 (fun _ => true) true m 9 [c8] = some y8 := by simpa [Value.cells, ct] using hg 8 _ rfl
    obtain ⟨a8, e8, z8, _⟩ := DataW.trod_string Tryd.underlying9 t8
    simp at e8
    subst e8
    have t9 : DataW.trod enc Tryd.prog W 0 (fun _ => true) true m 9 [c9] = some y9 := by simpa [Value.cells, ct] using hg 9 _ rfl
    obtain ⟨a9, e9, z9, _⟩ := DataW.trod_string Tryd.underlying9 t9
    simp at e9
    subst e9
    have t10 : DataW.trod enc Tryd.prog W 0 (fun _ => true) true m 22 [c10] = some y10 := by simpa [Value.cells, cd] using hg 10 _ rfl
    obtain ⟨A, n, c, l, e10, hh, hD⟩ := bytes_of t10
    simp at e10
    subst e10
    exact ⟨⟨a0, a1, a2, a3, a4, a5, a6, a7, a8, a9⟩, A, n, c, l, rfl, hh, y10.1, by
      simp only [Prod.mk.injEq] at hx
      rw [hx.1]
      simp [z0, z1, z2, z3, z4, z5, z6, z7, z8, z9], hD⟩

/-- How long an argument's texts and bytes are. -/
theorem sizes_of {H : Type} {ts : List TypeId} {ds : List (DataW H)} {k : Pkt} {n : Nat} {d D : DataW H} (h : (DataW.weightsEach Tryd.prog ts ds).all (· ≤ reachBytes) = true) (j : Nat) (ht : ts[j]? = some 24) (hd : ds[j]? = some d)
    (e : d = .agg [.lit (.int .i64 k.tos), .lit (.int .i64 k.id), .lit (.int .i64 k.ttl), .lit (.int .i64 k.proto), .lit (.bool k.df), .lit (.bool k.mf), .lit (.int .i64 k.off), .lit (.string k.src.data.toList), .lit (.string k.dst.data.toList), .lit (.string k.opt.data.toList), D]) (hD : n = 0 ∨ ∃ es sp, D = .slice es sp ∧ es.length = n) :
    k.src.size ≤ 140737488355328 ∧ k.dst.size ≤ 140737488355328 ∧ k.opt.size ≤ 140737488355328 ∧ n ≤ 140737488355328 := by
  subst e
  have hu := Tryd.underlying24
  have hv := Tryd.underlying22
  have hb : Tryd.prog.bytesOf 5 = 1 := by kernel_rfl
  have g : ∀ q, q ∈ DataW.weights Tryd.prog 24 (.agg [.lit (.int .i64 k.tos), .lit (.int .i64 k.id), .lit (.int .i64 k.ttl), .lit (.int .i64 k.proto), .lit (.bool k.df), .lit (.bool k.mf), .lit (.int .i64 k.off), .lit (.string k.src.data.toList), .lit (.string k.dst.data.toList), .lit (.string k.opt.data.toList), D]) → q ≤ 140737488355328 := fun q hq => by
    have h1 := List.all_eq_true.1 h q (DataW.weights_mem_each ht hd q hq)
    exact Nat.le_trans (by simpa using h1) reach_lt
  refine ⟨g _ ?_, g _ ?_, g _ ?_, ?_⟩
  · rw [Lib.size_eq]; simp [DataW.weights, DataW.weightsEach, hu]
  · rw [Lib.size_eq]; simp [DataW.weights, DataW.weightsEach, hu]
  · rw [Lib.size_eq]; simp [DataW.weights, DataW.weightsEach, hu]
  · rcases hD with rfl | ⟨es, sp, rfl, rfl⟩
    · exact Nat.zero_le _
    · refine Nat.le_trans (Nat.le_add_right es.length sp.length) (g _ ?_)
      simp [DataW.weights, DataW.weightsEach, hu, hv, hb]
end Go.Proofs.YtjhfginopbjldaaDoor.Arg
