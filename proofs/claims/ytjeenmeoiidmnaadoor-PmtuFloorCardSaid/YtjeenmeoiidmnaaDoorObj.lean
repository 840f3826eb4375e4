/- An object in memory, beside what is foreign to it; two objects side by side. No function is named. -/
import Derived.Test.YtjeenmeoiidmnaaDoorRowN
set_option linter.unusedVariables false
namespace Go.Proofs.YtjeenmeoiidmnaaDoor.Obj
open Go.RowKit Go.Proofs.YtjeenmeoiidmnaaDoor.Mem Go.Proofs.YtjeenmeoiidmnaaDoor.Blk Go.Proofs.YtjeenmeoiidmnaaDoor.RowN

/-- What an object in memory is: it lies in blocks that are none of F, and hangs on these alone. -/
structure IsObj (X : (Nat → Prop) → World → Prop) : Prop where
  mono : ∀ {F G : Nat → Prop} {w : World}, X F w → (∀ k, k < w.heap.size → G k → F k) → X G w
  keep : ∀ {F : Nat → Prop} {w w' : World}, X F w → (∀ k, k < w.heap.size → ¬ F k → w'.heap[k]? = w.heap[k]?) → X F w'
/-- An object, and what is foreign to it, P at least. -/
def Solo (X : (Nat → Prop) → World → Prop) (P : Nat → Prop) (w : World) : Prop := ∃ F : Nat → Prop, X F w ∧ (∀ k, F k → k < w.heap.size) ∧ (∀ k, P k → F k)
section
variable {X X' Y Y' : (Nat → Prop) → World → Prop} {P P' : Nat → Prop} {w w' : World}
theorem Solo.below (o : IsObj X) (h : Solo X P w) (hb : Below w.heap.size w w') (hp : ∀ k, P' k → P k ∨ (w.heap.size ≤ k ∧ k < w'.heap.size)) : Solo X P' w' := by
  obtain ⟨F, h1, h2, h3⟩ := h
  refine ⟨fun k => F k ∨ (w.heap.size ≤ k ∧ k < w'.heap.size), o.keep (o.mono h1 fun k hk z => ?_) (fun k hk _ => hb.block k hk), fun k z => ?_, fun k z => (hp k z).imp (h3 k) id⟩
  · rcases z with z | z
    · exact z
    · omega
  · rcases z with z | z
    · have := h2 k z; have := hb.size; omega
    · exact z.2
theorem Solo.up (o : IsObj X) (h : Solo X P w) (hb : Below w.heap.size w w') : Solo X P w' := h.below o hb fun k z => .inl z
/-- A call of it. -/
theorem Solo.call {f : FuncId} {args : Array Value} {R : Ending → World → Prop} (h : Solo X P w)
    (hc : ∀ F : Nat → Prop, X F w → (∀ k, F k → k < w.heap.size) → Calls Tryd.prog f args w fun e w' => (R e w' ∧ X' F w') ∧ Keep F w w') :
    Calls Tryd.prog f args w fun e w' => R e w' ∧ Solo X' P w' ∧ Keep P w w' := by
  obtain ⟨F, h1, h2, h3⟩ := h
  exact (hc F h1 h2).mono fun e w' ⟨⟨q1, q2⟩, q3⟩ => ⟨q1, ⟨F, q2, fun k z => Nat.lt_of_lt_of_le (h2 k z) q3.size, h3⟩, q3.mono fun k z _ => h3 k z⟩
/-- Two objects side by side: each block is foreign to one of them at least; P to both. -/
def Two (X Y : (Nat → Prop) → World → Prop) (P : Nat → Prop) (w : World) : Prop := ∃ F G : Nat → Prop, X F w ∧ Y G w ∧ (∀ k, F k → k < w.heap.size) ∧ (∀ k, G k → k < w.heap.size) ∧ (∀ k, k < w.heap.size → F k ∨ G k) ∧ (∀ k, P k → F k ∧ G k)
theorem Two.swap (h : Two X Y P w) : Two Y X P w := by
  obtain ⟨F, G, h1, h2, h3, h4, h5, h6⟩ := h
  exact ⟨G, F, h2, h1, h4, h3, fun k hk => (h5 k hk).symm, fun k z => ⟨(h6 k z).2, (h6 k z).1⟩⟩
theorem Two.below (o : IsObj X) (o' : IsObj Y) (h : Two X Y P w) (hb : Below w.heap.size w w') (hp : ∀ k, P' k → P k ∨ (w.heap.size ≤ k ∧ k < w'.heap.size)) : Two X Y P' w' := by
  obtain ⟨F, G, h1, h2, h3, h4, h5, h6⟩ := h
  have sz := hb.size
  refine ⟨fun k => F k ∨ (w.heap.size ≤ k ∧ k < w'.heap.size), fun k => G k ∨ (w.heap.size ≤ k ∧ k < w'.heap.size), o.keep (o.mono h1 fun k hk z => ?_) (fun k hk _ => hb.block k hk), o'.keep (o'.mono h2 fun k hk z => ?_) (fun k hk _ => hb.block k hk), fun k z => ?_, fun k z => ?_, fun k hk => ?_, fun k z => ?_⟩
  · rcases z with z | z
    · exact z
    · omega
  · rcases z with z | z
    · exact z
    · omega
  · rcases z with z | z
    · have := h3 k z; omega
    · exact z.2
  · rcases z with z | z
    · have := h4 k z; omega
    · exact z.2
  · rcases Nat.lt_or_ge k w.heap.size with q | q
    · exact (h5 k q).imp .inl .inl
    · exact .inl (.inr ⟨q, hk⟩)
  · rcases hp k z with z | z
    · exact ⟨.inl (h6 k z).1, .inl (h6 k z).2⟩
    · exact ⟨.inr z, .inr z⟩
theorem Two.up (o : IsObj X) (o' : IsObj Y) (h : Two X Y P w) (hb : Below w.heap.size w w') : Two X Y P w' := h.below o o' hb fun k z => .inl z
/-- A call of the first one. -/
theorem Two.call {f : FuncId} {args : Array Value} {R : Ending → World → Prop} (o' : IsObj Y) (h : Two X Y P w)
    (hc : ∀ F : Nat → Prop, X F w → (∀ k, F k → k < w.heap.size) → Calls Tryd.prog f args w fun e w' => (R e w' ∧ X' F w') ∧ Keep F w w') :
    Calls Tryd.prog f args w fun e w' => R e w' ∧ Two X' Y P w' ∧ Keep P w w' := by
  obtain ⟨F, G, h1, h2, h3, h4, h5, h6⟩ := h
  refine (hc F h1 h3).mono fun e w' ⟨⟨q1, q2⟩, q3⟩ => ⟨q1, ⟨F, fun k => G k ∨ (w.heap.size ≤ k ∧ k < w'.heap.size), q2, o'.keep (o'.mono h2 fun k hk z => ?_) (fun k hk z => ?_), fun k z => Nat.lt_of_lt_of_le (h3 k z) q3.size, fun k z => ?_, fun k hk => ?_, fun k z => ⟨(h6 k z).1, .inl (h6 k z).2⟩⟩, q3.mono fun k z _ => (h6 k z).1⟩
  · rcases z with z | z
    · exact z
    · omega
  · rcases h5 k hk with f | g
    · exact q3.block k f hk
    · exact absurd (.inl g) z
  · have := q3.size
    rcases z with z | z
    · have := h4 k z; omega
    · exact z.2
  · rcases Nat.lt_or_ge k w.heap.size with q | q
    · exact (h5 k q).imp id .inl
    · exact .inr (.inr ⟨q, hk⟩)
theorem Two.fst (h : Two X Y P w) : Solo X P w := by
  obtain ⟨F, G, h1, h2, h3, h4, h5, h6⟩ := h
  exact ⟨F, h1, h3, fun k z => (h6 k z).1⟩
theorem Two.snd (h : Two X Y P w) : Solo Y P w := h.swap.fst
/-- A second object that is new. -/
theorem Solo.two (o : IsObj X) (h : Solo X P w) (hb : Below w.heap.size w w') (hy : Y (fun k => k < w.heap.size) w') (hP : ∀ k, P k → k < w.heap.size) : Two X Y P w' := by
  obtain ⟨F, h1, h2, h3⟩ := h
  refine ⟨fun k => F k ∨ (w.heap.size ≤ k ∧ k < w'.heap.size), fun k => k < w.heap.size, o.keep (o.mono h1 fun k hk z => ?_) (fun k hk _ => hb.block k hk), hy, fun k z => ?_, fun k z => Nat.lt_of_lt_of_le z hb.size, fun k hk => ?_, fun k z => ⟨.inl (h3 k z), hP k z⟩⟩
  · rcases z with z | z
    · exact z
    · omega
  · have := hb.size
    rcases z with z | z
    · have := h2 k z; omega
    · exact z.2
  · rcases Nat.lt_or_ge k w.heap.size with q | q
    · exact .inr q
    · exact .inl (.inr ⟨q, hk⟩)
end
end Go.Proofs.YtjeenmeoiidmnaaDoor.Obj
