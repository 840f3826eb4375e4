/- An argument api.Ip6, opened: its fields, its headers, its data; how long they are. -/
import Derived.Test.YtjfieoleoodfdaaLawFields
import Derived.Test.YtjfieoleoodfdaaRows
import Derived.Deep.SlicePairs
import Derived.OpenShut
import Derived.ShutString
import Derived.ChangeOld
import Derived.SizedLaws
import Derived.Lib.SmallJoins
set_option linter.unusedVariables false
namespace Go.Proofs.Ytjfieoleoodfdaa.Arg6
open Go.ChangeShapes Go.WideShapes Go.ChangeAt Go.RowKit Go.Proofs.Ytjfieoleoodfdaa.Mem Go.Proofs.Ytjfieoleoodfdaa.P6 Go.Proofs.Ytjfieoleoodfdaa.Exts Go.Proofs.Ytjfieoleoodfdaa.Same6 Go.Proofs.Ytjfieoleoodfdaa.LawFields
open Go.ChangeMaps (open_string shut_string)
set_option maxRecDepth 100000

theorem own : ownKnob Try.prog.godebug = none := by kernel_rfl
theorem laidOut : laidOutB Try.prog = true := by kernel_rfl
theorem reach_lt : reachBytes ≤ 140737488355328 := by decide

theorem bytes_of {H : Type} {enc : TypeId × Value → H} {W : World} {cs : List Value} {fuel : Nat} {x : DataW H × List MemPlace}
    (h : DataW.trod enc Try.prog W 0 (fun _ => true) true fuel 23 cs = some x) : ∃ A n c l, cs = [.slice A n c] ∧ Holds W W.heap.size A n c l ∧ (n = 0 ∨ ∃ es sp, x.1 = .slice es sp ∧ es.length = n) := by
  rcases open_ints Try.underlying23 Try.underlying5 (by kernel_rfl) h with ⟨hcs, _⟩ | ⟨x, l, c, zs, hcs, _, hl, hm, hz, hxx, hcell, hwz⟩
  · exact ⟨none, 0, 0, [], hcs, Holds.nil W _ none, .inl rfl⟩
  · exact ⟨some x, l, c, zs.take l, hcs, Holds.of_row (.inr ⟨x, rfl, hl, hm, by simpa using hz, hcell, hwz⟩), .inr ⟨_, _, by rw [hxx], by simp at hz; simp [lits, hz]; omega⟩⟩
def strOf : Value → ByteArray
  | .string s => s
  | _ => ⟨#[]⟩

/-- What a row of headers reads as: enough for how long it and its texts are. -/
def XD {H : Type} (m : Nat) (xs : P6.Exts) (X : DataW H) : Prop := m = 0 ∨ ∃ es sp, X = .slice es sp ∧ es.length = m ∧ ∀ q d, (q, d) ∈ xs → ∃ D0, .agg [D0, .lit (.string d.data.toList)] ∈ es

theorem row_of {H : Type} {enc : TypeId × Value → H} {W : World} {cs : List Value} {fuel : Nat} {x : DataW H × List MemPlace}
    (h : DataW.trod enc Try.prog W 0 (fun _ => true) true fuel 22 cs = some x) : ∃ E m c xs, cs = [.slice E m c] ∧ Row W (.slice E m c) xs ∧ XD m xs x.1 := by
  rcases Go.Deep.open_slice_pairs Try.underlying22 Try.underlying43 (by kernel_rfl) rfl rfl (by kernel_rfl) (by kernel_rfl) h with ⟨hc, _⟩ | ⟨a, len, cap, m, n, V0, V1, D0, D1, P0, P1, hc, _, hlc, hcm, hm, hx, hat⟩
  · exact ⟨none, 0, 0, [], hc, Row.nil W, .inl rfl⟩
  · have hm' : m = cap := by simpa using hm
    subst hm'
    refine ⟨some a, len, m, (List.range len).map fun i => (intOf (V0 i), strOf (V1 i)), hc, ⟨some a, m, by simp, fun i k d hi => ?_⟩, .inr ⟨_, _, by rw [hx], by simp, fun q d hq => ?_⟩⟩
    · have hil : i < len := by
        have := (List.getElem?_eq_some_iff.1 hi).1
        simpa using this
      obtain ⟨g0, g1, t0, t1⟩ := hat i (by omega)
      obtain ⟨k0, e0, _⟩ := DataW.trod_int Try.underlying3 t0
      obtain ⟨d0, e1, _⟩ := DataW.trod_string Try.underlying9 t1
      simp at e0 e1
      rw [List.getElem?_map, List.getElem?_range hil] at hi
      simp [e0, e1, intOf, strOf] at hi
      obtain ⟨rfl, rfl⟩ := hi
      rw [e0] at g0
      rw [e1] at g1
      refine ⟨a, rfl, ?_, g0, g1⟩
      have := World.block_lt_of_cell? W _ g0
      rwa [add_block] at this
    · obtain ⟨i, hi, he⟩ := List.mem_map.1 hq
      have hil : i < len := List.mem_range.1 hi
      obtain ⟨g0, g1, t0, t1⟩ := hat i (by omega)
      obtain ⟨d0, e1, z1, _⟩ := DataW.trod_string Try.underlying9 t1
      simp at e1
      simp [e1, strOf] at he
      refine ⟨D0 i, List.mem_map.2 ⟨i, hi, ?_⟩⟩
      have : D1 i = .lit (.string d0.data.toList) := congrArg Prod.fst z1
      rw [this, he.2]

set_option maxHeartbeats 1000000 in
theorem pkt_of {H : Type} {enc : TypeId × Value → H} {W : World} {r : Reach} {b0 : Nat} {v : Value} {dd : DataW H} {pp : List MemPlace}
    (hv : Value.okWide Try.prog W r b0 25 v) (h : DataW.Trod enc Try.prog W 0 (fun _ => true) true 25 v dd pp) :
    ∃ (k : Pkt) (E : Option Addr) (m ce : Nat) (A : Option Addr) (n c : Nat) (l : List Int), v = .agg #[.int .i64 k.cls, .int .i64 k.lab, .int .i64 k.hop, .string k.src, .string k.dst, .slice E m ce, .int .i64 k.next, .slice A n c] ∧ Row W (.slice E m ce) k.exts ∧ Holds W W.heap.size A n c l ∧
      ∃ X D, dd = .agg [.lit (.int .i64 k.cls), .lit (.int .i64 k.lab), .lit (.int .i64 k.hop), .lit (.string k.src.data.toList), .lit (.string k.dst.data.toList), X, .lit (.int .i64 k.next), D] ∧ XD m k.exts X ∧ (n = 0 ∨ ∃ es sp, D = .slice es sp ∧ es.length = n) := by
  have ci : Try.prog.cellsOf 3 = 1 := by kernel_rfl
  have ct : Try.prog.cellsOf 9 = 1 := by kernel_rfl
  have cd : Try.prog.cellsOf 23 = 1 := by kernel_rfl
  have ce : Try.prog.cellsOf 22 = 1 := by kernel_rfl
  have hs := Try.underlying25
  obtain ⟨⟨cs⟩, rfl, hsz⟩ := okWide_struct hs hv
  obtain ⟨fuel, hf⟩ := h
  obtain ⟨xs, m, _, hx, _, hlen, hg⟩ := DataW.trod_struct hs hf
  match cs, hsz.trans (show Try.prog.cellsOf 25 = 8 by kernel_rfl), xs, hlen with
  | [c0, c1, c2, c3, c4, c5, c6, c7], _, [y0, y1, y2, y3, y4, y5, y6, y7], _ =>
    have t0 : DataW.trod enc Try.prog W 0 (fun _ => true) true m 3 [c0] = some y0 := by simpa [Value.cells, ci] using hg 0 _ rfl
    obtain ⟨a0, e0, z0, _⟩ := DataW.trod_int Try.underlying3 t0
    simp at e0
    subst e0
    have t1 : DataW.trod enc Try.prog W 0 (fun _ => true) true m 3 [c1] = some y1 := by simpa [Value.cells, ci] using hg 1 _ rfl
    obtain ⟨a1, e1, z1, _⟩ := DataW.trod_int Try.underlying3 t1
    simp at e1
    subst e1
    have t2 : DataW.trod enc Try.prog W 0 (fun _ => true) true m 3 [c2] = some y2 := by simpa [Value.cells, ci] using hg 2 _ rfl
    obtain ⟨a2, e2, z2, _⟩ := DataW.trod_int Try.underlying3 t2
    simp at e2
    subst e2
    have t3 : DataW.trod enc Try.prog W 0 (fun _ => true) true m 9 [c3] = some y3 := by simpa [Value.cells, ct] using hg 3 _ rfl
    obtain ⟨a3, e3, z3, _⟩ := DataW.trod_string Try.underlying9 t3
    simp at e3
    subst e3
    have t4 : DataW.trod enc Try.prog W 0 (fun _ => true) true m 9 [c4] = some y4 := by simpa [Value.cells, ct] using hg 4 _ rfl
    obtain ⟨a4, e4, z4, _⟩ := DataW.trod_string Try.underlying9 t4
    simp at e4
    subst e4
    have t5 : DataW.trod enc Try.prog W 0 (fun _ => true) true m 22 [c5] = some y5 := by simpa [Value.cells, ce] using hg 5 _ rfl
    obtain ⟨E, mm, cc, xs, e5, hrow, hX⟩ := row_of t5
    simp at e5
    subst e5
    have t6 : DataW.trod enc Try.prog W 0 (fun _ => true) true m 3 [c6] = some y6 := by simpa [Value.cells, ci] using hg 6 _ rfl
    obtain ⟨a6, e6, z6, _⟩ := DataW.trod_int Try.underlying3 t6
    simp at e6
    subst e6
    have t7 : DataW.trod enc Try.prog W 0 (fun _ => true) true m 23 [c7] = some y7 := by simpa [Value.cells, cd] using hg 7 _ rfl
    obtain ⟨A, n, c, l, e7, hh, hD⟩ := bytes_of t7
    simp at e7
    subst e7
    exact ⟨⟨a0, a1, a2, a3, a4, xs, a6⟩, E, mm, cc, A, n, c, l, rfl, hrow, hh, y5.1, y7.1, by
      simp only [Prod.mk.injEq] at hx
      rw [hx.1]
      simp [z0, z1, z2, z3, z4, z6], hX, hD⟩

theorem weights_all {H : Type} {e : TypeId} {d : DataW H} {z : Nat} (hz : z ∈ DataW.weights Try.prog e d) : ∀ {ds : List (DataW H)}, d ∈ ds → z ∈ DataW.weightsAll Try.prog e ds
  | [], h => by cases h
  | x :: r, h => by
    rw [DataW.weightsAll, List.mem_append]
    rcases List.mem_cons.1 h with rfl | h
    · exact .inl hz
    · exact .inr (weights_all hz h)

/-- How long an argument's texts, headers and bytes are. -/
theorem sizes_of {H : Type} {ts : List TypeId} {ds : List (DataW H)} {k : Pkt} {m n : Nat} {d X D : DataW H} (h : (DataW.weightsEach Try.prog ts ds).all (· ≤ reachBytes) = true) (j : Nat) (ht : ts[j]? = some 25) (hd : ds[j]? = some d)
    (e : d = .agg [.lit (.int .i64 k.cls), .lit (.int .i64 k.lab), .lit (.int .i64 k.hop), .lit (.string k.src.data.toList), .lit (.string k.dst.data.toList), X, .lit (.int .i64 k.next), D]) (hX : XD m k.exts X) (hm : k.exts.length = m) (hD : n = 0 ∨ ∃ es sp, D = .slice es sp ∧ es.length = n) :
    k.src.size ≤ 140737488355328 ∧ k.dst.size ≤ 140737488355328 ∧ m ≤ 140737488355328 ∧ n ≤ 140737488355328 ∧ Big k.exts := by
  subst e
  have hu := Try.underlying25
  have hv := Try.underlying23
  have hw := Try.underlying22
  have hy := Try.underlying43
  have hb : Try.prog.bytesOf 5 = 1 := by kernel_rfl
  have hb2 : Try.prog.bytesOf 43 = 24 := by kernel_rfl
  have g : ∀ q, q ∈ DataW.weights Try.prog 25 (.agg [.lit (.int .i64 k.cls), .lit (.int .i64 k.lab), .lit (.int .i64 k.hop), .lit (.string k.src.data.toList), .lit (.string k.dst.data.toList), X, .lit (.int .i64 k.next), D]) → q ≤ 140737488355328 := fun q hq => by
    have h1 := List.all_eq_true.1 h q (DataW.weights_mem_each ht hd q hq)
    exact Nat.le_trans (by simpa using h1) reach_lt
  refine ⟨g _ ?_, g _ ?_, ?_, ?_, ?_⟩
  · rw [Lib.size_eq]; simp [DataW.weights, DataW.weightsEach, hu]
  · rw [Lib.size_eq]; simp [DataW.weights, DataW.weightsEach, hu]
  · rcases hX with rfl | ⟨es, sp, rfl, rfl, _⟩
    · exact Nat.zero_le _
    · have := g ((es.length + sp.length) * 24) (by simp [DataW.weights, DataW.weightsEach, hu, hw, hb2])
      omega
  · rcases hD with rfl | ⟨es, sp, rfl, rfl⟩
    · exact Nat.zero_le _
    · refine Nat.le_trans (Nat.le_add_right es.length sp.length) (g _ ?_)
      simp [DataW.weights, DataW.weightsEach, hu, hv, hb]
  · intro x hx
    rcases hX with h0 | ⟨es, sp, rfl, he, hin⟩
    · have : k.exts = [] := List.eq_nil_of_length_eq_zero (by omega)
      rw [this] at hx
      cases hx
    · obtain ⟨D0, hD0⟩ := hin x.1 x.2 hx
      have h1 : x.2.size ∈ DataW.weights Try.prog 43 (.agg [D0, .lit (.string x.2.data.toList)]) := by
        rw [Lib.size_eq]; simp [DataW.weights, DataW.weightsEach, hy]
      have h2 := weights_all h1 hD0
      refine g _ ?_
      simp [DataW.weights, DataW.weightsEach, hu, hw, h2]
end Go.Proofs.Ytjfieoleoodfdaa.Arg6
