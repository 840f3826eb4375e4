/- The document's Open. -/
import Derived.Test.YtdnkbefpbehllaaDoorM37
set_option linter.unusedVariables false
namespace Go.Proofs.YtdnkbefpbehllaaDoor.EspR4
open Go.RowKit Go.Proofs.YtdnkbefpbehllaaDoor.Sums Go.Proofs.YtdnkbefpbehllaaDoor.Mem Go.Proofs.YtdnkbefpbehllaaDoor.Blk Go.Proofs.YtdnkbefpbehllaaDoor.Free Go.Proofs.YtdnkbefpbehllaaDoor.Steps Go.Proofs.YtdnkbefpbehllaaDoor.Regs Go.Proofs.YtdnkbefpbehllaaDoor.Bits3 Go.Proofs.YtdnkbefpbehllaaDoor.Ints Go.Proofs.YtdnkbefpbehllaaDoor.AesB Go.Proofs.YtdnkbefpbehllaaDoor.PadR Go.Proofs.YtdnkbefpbehllaaDoor.EspD Go.Proofs.YtdnkbefpbehllaaDoor.EspR1
open Go.Proofs.YtdnkbefpbehllaaDoor.CtrD (four four_byt)
open Go.Proofs.YtdnkbefpbehllaaDoor.EspR2 Go.Proofs.YtdnkbefpbehllaaDoor.EspR3 Go.Proofs.YtdnkbefpbehllaaDoor.AesK Go.Proofs.YtdnkbefpbehllaaDoor.Cut Go.Proofs.YtdnkbefpbehllaaDoor.PadO
open Go.Proofs.YtdnkbefpbehllaaDoor.AesR3 (nats_byt)

def opX (sp : Int) (ky sl mc : ByteArray) (es : Bool) (wn : Int) (q : Nat) (l : List Int) : List Int := if openE sp ky sl mc es wn q l = 0 then openO ky sl l else []
def opY (sp : Int) (ky sl mc : ByteArray) (es : Bool) (wn : Int) (q : Nat) (l : List Int) : Int := if openE sp ky sl mc es wn q l = 0 then openY ky sl l else 0
def Ans3 (w : World) (X : List Int) (y : Int) (er : Nat) (e : Ending) (w' : World) : Prop := ∃ v, e = .returned (.tuple #[v, .int .i64 y, .int .i64 (er : Int)]) ∧ Lies w' v X.length X ∧ Below w.heap.size w w'
theorem lies_nil (w : World) : Lies w (.slice none 0 0) ([] : List Int).length [] := ⟨none, 0, rfl, Holds.nil _ _ _⟩
theorem ans_err (sp : Int) (ky sl mc : ByteArray) (es : Bool) (wn : Int) (q : Nat) (l : List Int) {w w' : World} {e : Ending} {k : Nat} (hk : openE sp ky sl mc es wn q l = k) (h0 : k ≠ 0) (he : e = .returned (.tuple #[.slice none 0 0, .int .i64 0, .int .i64 (k : Int)])) (hb : Below w.heap.size w w') : Ans3 w (opX sp ky sl mc es wn q l) (opY sp ky sl mc es wn q l) (openE sp ky sl mc es wn q l) e w' := by
  have x : opX sp ky sl mc es wn q l = [] := by unfold opX; rw [hk, if_neg h0]
  have y : opY sp ky sl mc es wn q l = 0 := by unfold opY; rw [hk, if_neg h0]
  rw [x, y, hk]
  exact ⟨_, he, lies_nil _, hb⟩
theorem ans_ok (sp : Int) (ky sl mc : ByteArray) (es : Bool) (wn : Int) (q : Nat) (l : List Int) {w w' : World} {e : Ending} (h0 : openE sp ky sl mc es wn q l = 0) (A : Option Addr) (c : Nat) {N : Nat} (hN : (openO ky sl l).length = N) (hh : Holds w' w'.heap.size A N c (openO ky sl l)) {y : Int} (hy : openY ky sl l = y)
    (he : e = .returned (.tuple #[.slice A N c, .int .i64 y, .int .i64 0])) (hb : Below w.heap.size w w') : Ans3 w (opX sp ky sl mc es wn q l) (opY sp ky sl mc es wn q l) (openE sp ky sl mc es wn q l) e w' := by
  subst hN hy
  have x : opX sp ky sl mc es wn q l = openO ky sl l := by unfold opX; rw [h0, if_pos rfl]
  have z : opY sp ky sl mc es wn q l = openY ky sl l := by unfold opY; rw [h0, if_pos rfl]
  rw [x, z, h0]
  exact ⟨_, he, ⟨A, c, rfl, hh⟩, hb⟩
theorem num4_in {l : List Int} (h : Bytes l) (k : Nat) : 0 ≤ num4 l k ∧ num4 l k ≤ 4294967295 := by
  have d0 := getD_in h k
  have d1 := getD_in h (k + 1)
  have d2 := getD_in h (k + 2)
  have d3 := getD_in h (k + 3)
  unfold num4
  omega
theorem b_nes (s t : ByteArray) (r : Bool) (h : (s.toList == t.toList) = r) (x y : Operand) (w : World) : (do eqGuard .neq 9 x y (.string s) (.string t); binOp .neq 9 (.string s) (.string t) : Sem Value).run Tryd.prog w = .ok (.bool (!r)) w := by
  subst h
  simp [go_sem, eqGuard]
theorem list3 {f : Operand → Value} {x y z : Operand} {u v t : Value} (h1 : f x = u) (h2 : f y = v) (h3 : f z = t) : [x, y, z].map f = [u, v, t] := by simp [h1, h2, h3]
theorem list4 {f : Operand → Value} {x y z a : Operand} {u v t b : Value} (h1 : f x = u) (h2 : f y = v) (h3 : f z = t) (h4 : f a = b) : [x, y, z, a].map f = [u, v, t, b] := by simp [h1, h2, h3, h4]
attribute [local irreducible] wpQuiet
end Go.Proofs.YtdnkbefpbehllaaDoor.EspR4

