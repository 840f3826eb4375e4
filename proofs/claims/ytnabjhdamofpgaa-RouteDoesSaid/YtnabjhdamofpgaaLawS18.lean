/- A table within a law; two objects side by side. -/
import Derived.Test.YtnabjhdamofpgaaRtA
set_option linter.unusedVariables false
namespace Go.Proofs.Ytnabjhdamofpgaa.LawS18
open Go.RowKit Go.PlainAid Go.Proofs.Ytnabjhdamofpgaa.Sums Go.Proofs.Ytnabjhdamofpgaa.Mem Go.Proofs.Ytnabjhdamofpgaa.Blk Go.Proofs.Ytnabjhdamofpgaa.Grp Go.Proofs.Ytnabjhdamofpgaa.AdrD Go.Proofs.Ytnabjhdamofpgaa.AdrR Go.Proofs.Ytnabjhdamofpgaa.Steps Go.Proofs.Ytnabjhdamofpgaa.Com Go.Proofs.Ytnabjhdamofpgaa.RowN Go.Proofs.Ytnabjhdamofpgaa.RowA Go.Proofs.Ytnabjhdamofpgaa.ArgT Go.Proofs.Ytnabjhdamofpgaa.TabD Go.Proofs.Ytnabjhdamofpgaa.TabOps Go.Proofs.Ytnabjhdamofpgaa.TabM Go.Proofs.Ytnabjhdamofpgaa.Free Go.Proofs.Ytnabjhdamofpgaa.RtD Go.Proofs.Ytnabjhdamofpgaa.Rt1 Go.Proofs.Ytnabjhdamofpgaa.Rt4 Go.Proofs.Ytnabjhdamofpgaa.Rt6 Go.Proofs.Ytnabjhdamofpgaa.Rt7 Go.Proofs.Ytnabjhdamofpgaa.Rt9 Go.Proofs.Ytnabjhdamofpgaa.RtA Go.Proofs.Ytnabjhdamofpgaa.TabR3

/-- What an object in memory is: it lies in blocks that are none of F, and hangs on these alone. -/
structure IsObj (X : (Nat → Prop) → World → Prop) : Prop where
  mono : ∀ {F G : Nat → Prop} {w : World}, X F w → (∀ k, k < w.heap.size → G k → F k) → X G w
  keep : ∀ {F : Nat → Prop} {w w' : World}, X F w → (∀ k, k < w.heap.size → ¬ F k → w'.heap[k]? = w.heap[k]?) → X F w'
theorem rt_obj (g : Nat) (rs : List RouteR) : IsObj fun F w => RtAt F w g rs where
  mono := fun h k => h.mono k
  keep := fun {F w w'} h k => by
    obtain ⟨⟨A, c, h1, h2, h3, h4, h5⟩, ok, few⟩ := h
    exact ⟨⟨A, c, (k g h1.lt h3).trans h1, h2.keep fun j hj hlt => k j hlt (h4 j hj), h3, h4, h5⟩, ok, few⟩
theorem tab_obj (g : Nat) (rs : List RouteR) : IsObj fun F w => TabAt F w g rs where
  mono := fun h k => h.mono k
  keep := fun {F w w'} h k => by
    obtain ⟨⟨A, c, h1, h2, h3, h4, h5⟩, ok, few⟩ := h
    exact ⟨⟨A, c, (k g h1.lt h3).trans h1, h2.keep fun j hj hlt => k j hlt (h4 j hj), h3, h4, h5⟩, ok, few⟩
/-- An object, and what is foreign to it, P at least. -/
def Solo (X : (Nat → Prop) → World → Prop) (P : Nat → Prop) (w : World) : Prop := ∃ F : Nat → Prop, X F w ∧ (∀ k, F k → k < w.heap.size) ∧ (∀ k, P k → F k)
section
variable {X X' Y Y' : (Nat → Prop) → World → Prop} {P P' : Nat → Prop} {w w' : World}
theorem Solo.below (o : IsObj X) (h : Solo X P w) (hb : Below w.heap.size w w') (hp : ∀ k, P' k → P k ∨ (w.heap.size ≤ k ∧ k < w'.heap.size)) : Solo X P' w' := by
  obtain ⟨F, h1, h2, h3⟩ := h
  refine ⟨fun k => F k ∨ (w.heap.size ≤ k ∧ k < w'.heap.size), o.keep (o.mono h1 fun k hk z => ?_) (fun k hk _ => hb.block k hk), fun k z => ?_, fun k z => (hp k z).imp (h3 k) id⟩
  · rcases z with z | z
    · exact z
    · omega
  · rcases z with z | z
    · have := h2 k z; have := hb.size; omega
    · exact z.2
theorem Solo.up (o : IsObj X) (h : Solo X P w) (hb : Below w.heap.size w w') : Solo X P w' := h.below o hb fun k z => .inl z
/-- A call of it. -/
theorem Solo.call {f : FuncId} {args : Array Value} {R : Ending → World → Prop} (h : Solo X P w)
    (hc : ∀ F : Nat → Prop, X F w → (∀ k, F k → k < w.heap.size) → Calls Try.prog f args w fun e w' => (R e w' ∧ X' F w') ∧ Keep F w w') :
    Calls Try.prog f args w fun e w' => R e w' ∧ Solo X' P w' ∧ Keep P w w' := by
  obtain ⟨F, h1, h2, h3⟩ := h
  exact (hc F h1 h2).mono fun e w' ⟨⟨q1, q2⟩, q3⟩ => ⟨q1, ⟨F, q2, fun k z => Nat.lt_of_lt_of_le (h2 k z) q3.size, h3⟩, q3.mono fun k z _ => h3 k z⟩
/-- Two objects side by side: each block is foreign to one of them at least; P to both. -/
def Two (X Y : (Nat → Prop) → World → Prop) (P : Nat → Prop) (w : World) : Prop := ∃ F G : Nat → Prop, X F w ∧ Y G w ∧ (∀ k, F k → k < w.heap.size) ∧ (∀ k, G k → k < w.heap.size) ∧ (∀ k, k < w.heap.size → F k ∨ G k) ∧ (∀ k, P k → F k ∧ G k)
theorem Two.swap (h : Two X Y P w) : Two Y X P w := by
  obtain ⟨F, G, h1, h2, h3, h4, h5, h6⟩ := h
  exact ⟨G, F, h2, h1, h4, h3, fun k hk => (h5 k hk).symm, fun k z => ⟨(h6 k z).2, (h6 k z).1⟩⟩
theorem Two.below (o : IsObj X) (o' : IsObj Y) (h : Two X Y P w) (hb : Below w.heap.size w w') (hp : ∀ k, P' k → P k ∨ (w.heap.size ≤ k ∧ k < w'.heap.size)) : Two X Y P' w' := by
  obtain ⟨F, G, h1, h2, h3, h4, h5, h6⟩ := h
  have sz := hb.size
  refine ⟨fun k => F k ∨ (w.heap.size ≤ k ∧ k < w'.heap.size), fun k => G k ∨ (w.heap.size ≤ k ∧ k < w'.heap.size), o.keep (o.mono h1 fun k hk z => ?_) (fun k hk _ => hb.block k hk), o'.keep (o'.mono h2 fun k hk z => ?_) (fun k hk _ => hb.block k hk), fun k z => ?_, fun k z => ?_, fun k hk => ?_, fun k z => ?_⟩
  · rcases z with z | z
    · exact z
    · omega
  · rcases z with z | z
    · exact z
    · omega
  · rcases z with z | z
    · have := h3 k z; omega
    · exact z.2
  · rcases z with z | z
    · have := h4 k z; omega
    · exact z.2
  · rcases Nat.lt_or_ge k w.heap.size with q | q
    · exact (h5 k q).imp .inl .inl
    · exact .inl (.inr ⟨q, hk⟩)
  · rcases hp k z with z | z
    · exact ⟨.inl (h6 k z).1, .inl (h6 k z).2⟩
    · exact ⟨.inr z, .inr z⟩
theorem Two.up (o : IsObj X) (o' : IsObj Y) (h : Two X Y P w) (hb : Below w.heap.size w w') : Two X Y P w' := h.below o o' hb fun k z => .inl z
/-- A call of the first one. -/
theorem Two.call {f : FuncId} {args : Array Value} {R : Ending → World → Prop} (o' : IsObj Y) (h : Two X Y P w)
    (hc : ∀ F : Nat → Prop, X F w → (∀ k, F k → k < w.heap.size) → Calls Try.prog f args w fun e w' => (R e w' ∧ X' F w') ∧ Keep F w w') :
    Calls Try.prog f args w fun e w' => R e w' ∧ Two X' Y P w' ∧ Keep P w w' := by
  obtain ⟨F, G, h1, h2, h3, h4, h5, h6⟩ := h
  refine (hc F h1 h3).mono fun e w' ⟨⟨q1, q2⟩, q3⟩ => ⟨q1, ⟨F, fun k => G k ∨ (w.heap.size ≤ k ∧ k < w'.heap.size), q2, o'.keep (o'.mono h2 fun k hk z => ?_) (fun k hk z => ?_), fun k z => Nat.lt_of_lt_of_le (h3 k z) q3.size, fun k z => ?_, fun k hk => ?_, fun k z => ⟨(h6 k z).1, .inl (h6 k z).2⟩⟩, q3.mono fun k z _ => (h6 k z).1⟩
  · rcases z with z | z
    · exact z
    · omega
  · rcases h5 k hk with f | g
    · exact q3.block k f hk
    · exact absurd (.inl g) z
  · have := q3.size
    rcases z with z | z
    · have := h4 k z; omega
    · exact z.2
  · rcases Nat.lt_or_ge k w.heap.size with q | q
    · exact (h5 k q).imp id .inl
    · exact .inr (.inr ⟨q, hk⟩)
theorem Two.fst (h : Two X Y P w) : Solo X P w := by
  obtain ⟨F, G, h1, h2, h3, h4, h5, h6⟩ := h
  exact ⟨F, h1, h3, fun k z => (h6 k z).1⟩
theorem Two.snd (h : Two X Y P w) : Solo Y P w := h.swap.fst
/-- A second object that is new. -/
theorem Solo.two (o : IsObj X) (h : Solo X P w) (hb : Below w.heap.size w w') (hy : Y (fun k => k < w.heap.size) w') (hP : ∀ k, P k → k < w.heap.size) : Two X Y P w' := by
  obtain ⟨F, h1, h2, h3⟩ := h
  refine ⟨fun k => F k ∨ (w.heap.size ≤ k ∧ k < w'.heap.size), fun k => k < w.heap.size, o.keep (o.mono h1 fun k hk z => ?_) (fun k hk _ => hb.block k hk), hy, fun k z => ?_, fun k z => Nat.lt_of_lt_of_le z hb.size, fun k hk => ?_, fun k z => ⟨.inl (h3 k z), hP k z⟩⟩
  · rcases z with z | z
    · exact z
    · omega
  · have := hb.size
    rcases z with z | z
    · have := h2 k z; omega
    · exact z.2
  · rcases Nat.lt_or_ge k w.heap.size with q | q
    · exact .inr q
    · exact .inl (.inr ⟨q, hk⟩)
end
/-! The code's table, one call each. -/
section
variable {P : Nat → Prop} {w : World} {g : Nat} {rs : List RouteR}
abbrev RtX (g : Nat) (rs : List RouteR) : (Nat → Prop) → World → Prop := fun F w => RtAt F w g rs
abbrev TbX (g : Nat) (rs : List RouteR) : (Nat → Prop) → World → Prop := fun F w => TabAt F w g rs
theorem solo_add (r : RouteR) (h : Solo (RtX g rs) P w) (ha : r.x0.size ≤ maxLen) (hv : r.x2.size ≤ maxLen) : Calls Try.prog 10 #[.pointer (some ⟨g, 0, none⟩), .agg (RA r)] w fun e w' => e = .returned (.int .i64 (addE rs r.x0 r.x1 r.x2 r.x3)) ∧ Solo (RtX g (addL rs r.x0 r.x1 r.x2 r.x3)) P w' ∧ Keep P w w' :=
  Solo.call (R := fun e _ => e = .returned (.int .i64 (addE rs r.x0 r.x1 r.x2 r.x3))) h fun F hx hF => (add_c F g rs r w hx hF ha hv).mono fun e w' ⟨a, b, c⟩ => ⟨⟨a, b⟩, c⟩
theorem solo_rem (a : ByteArray) (m : Int) (h : Solo (RtX g rs) P w) (ha : a.size ≤ maxLen) : Calls Try.prog 12 #[.pointer (some ⟨g, 0, none⟩), .agg #[.string a, .int .i64 m]] w fun e w' => e = .returned (.int .i64 (remE rs a m)) ∧ Solo (RtX g (remL rs a m)) P w' ∧ Keep P w w' :=
  Solo.call (R := fun e _ => e = .returned (.int .i64 (remE rs a m))) h fun F hx hF => (remove_c F g rs a m w hx hF ha).mono fun e w' ⟨a, b, c⟩ => ⟨⟨a, b⟩, c⟩
theorem solo_find (d : ByteArray) (h : Solo (RtX g rs) P w) (hd : d.size ≤ maxLen) : Calls Try.prog 14 #[.pointer (some ⟨g, 0, none⟩), .string d] w fun e w' => e = .returned (.tuple #[.agg (RA (findR rs d)), .int .i64 (findE rs d)]) ∧ Below w.heap.size w w' := by
  obtain ⟨F, h1, _⟩ := h
  exact find_c F g rs d w h1 hd
theorem solo_list (h : Solo (RtX g rs) P w) : Calls Try.prog 17 #[.pointer (some ⟨g, 0, none⟩)] w fun e w' => (∃ A, e = .returned (.slice A rs.length rs.length) ∧ ListAt w' A rs ∧ ∀ k, own A k → w.heap.size ≤ k) ∧ Below w.heap.size w w' := by
  obtain ⟨F, h1, _⟩ := h
  exact list_c F g rs w h1
theorem solo_tab (h : Solo (RtX g rs) P w) : Tab rs ∧ rs.length ≤ 64 := by
  obtain ⟨F, h1, _⟩ := h
  exact ⟨h1.tab, h1.few⟩
theorem solo_new (w : World) : Calls Try.prog 9 #[] w fun e w' => e = .returned (.pointer (some ⟨w.heap.size, 0, none⟩)) ∧ Below w.heap.size w w' ∧ w.heap.size < w'.heap.size ∧ Solo (RtX w.heap.size []) (fun k => k < w.heap.size) w' :=
  (new_c w).mono fun e w' ⟨h1, h2, h3, h4⟩ => ⟨h1, h2, h3, ⟨_, h4, fun k z => Nat.lt_of_lt_of_le z h2.size, fun k z => z⟩⟩
end
/-- A row of routes that was passed in. -/
theorem rows_at {w w' : World} {A : Option Addr} {n : Nat} {rs : List RouteR} (h : RouteRows w A n rs) (hb : Below w.heap.size w w') {i : Nat} {r : RouteR} (hr : rs[i]? = some r) : r.x0.size ≤ 140737488355328 ∧ r.x2.size ≤ 140737488355328 ∧ ∃ b o, A = some ⟨b, o, none⟩ ∧ b < w.heap.size ∧ Part.At w' b (o + i * 4) r.cells := by
  have hi : i < n := by rw [← h.1]; exact (List.getElem?_eq_some_iff.1 hr).1
  obtain ⟨b, o, e, hlt, hall⟩ := h.2 (by omega)
  obtain ⟨ok, hc⟩ := hall i r hr
  exact ⟨ok.1, ok.2, b, o, e, hlt, fun j v hj => (hb.cell (p := ⟨b, o + i * 4 + j, none⟩) hlt).trans (hc j v hj)⟩
end Go.Proofs.Ytnabjhdamofpgaa.LawS18
