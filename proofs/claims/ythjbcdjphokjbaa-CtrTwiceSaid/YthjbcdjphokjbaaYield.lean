/- A range over a function whose elements lie in memory, and whose body goes through to its end in every round: the iterator tells, with each element that it hands on, what holds of it in the world of that round ('Pr'). No program is named. My own law; the library's have no place for such a word. -/
import Derived.RangeFuncWrites
set_option linter.unusedVariables false
namespace Go.Proofs.Ythjbcdjphokjbaa.Yield
open Go.RowKit Go
variable {n : Nat} {P : Program} {α : Type}

/-- What an iterator promises: for whatever J its rounds carry on. -/
def SeqTold (n : Nat) (P : Program) (g : Nat) (lb : Array Value) (enc : α → Value) (Pr : List α → α → World → Prop) (Kp : World → World → Prop) (S : List α → Prop) (w : World) : Prop :=
  ∀ (l : Nat) (J : List α → World → Prop) (W : World), Below w.heap.size w W → AbidesFrom W.heap.size J →
    (∀ pre x V, J pre V → Pr pre x V → YieldAt Fence.wide (n - 1) P l #[enc x] V fun e V' => e = .returned (.bool true) ∧ J (pre ++ [x]) V' ∧ Kp V V') →
    J [] W → CallsIn Fence.wide n P g (#[.func (.yield l) #[] #[]] ++ lb) W fun e W' => ∃ v xs, e = .returned v ∧ S xs ∧ J xs W'

/-- The two blocks that the loop lays for itself: its record at d + 1, the rounds' deferred calls at d. -/
structure Book (d : Nat) (L : Loop) (W : World) : Prop where
  loop : W.heap[d + 1]? = some (.loop L)
  dfr : W.heap[d]? = some (.deferred (some []))
theorem Book.lt {d : Nat} {L : Loop} {W : World} (h : Book d L W) : d + 1 < W.heap.size := (Array.getElem?_eq_some_iff.1 h.loop).1
theorem Book.put {d : Nat} {L : Loop} {W : World} (h : Book d L W) (L' : Loop) : Book d L' (W.putObj (d + 1) (.loop L')) :=
  ⟨World.putObj_heap_same h.lt, (World.putObj_heap_other (by omega)).trans h.dfr⟩
theorem Book.kept {d : Nat} {L : Loop} {V W : World} (h : Book d L V) (k : KeepsFrom d V W) : Book d L W :=
  ⟨k.same _ _ (by omega) h.loop rfl, k.same _ _ (Nat.le_refl _) h.dfr rfl⟩

theorem wpIn_rangeFunc_told {g : Operand} {ps : Array Tmp} {assign body : Code} {Q : Exit → Act → World → Prop} {a : Act} {w : World} {gf : Nat} {lb : Array Value} {enc : α → Value} {Pr : List α → α → World → Prop} {Kp : World → World → Prop} {S : List α → Prop} {w0 : World}
    (h1 : 1 ≤ n) (hg : a.eval g = .func (.func gf) #[] lb) (eg : ∀ args w, (callFunc gf args).run P w = .ok (.enter gf args) w)
    (seq : SeqTold (n - 1) P gf lb enc Pr Kp S w0) (hb0 : Below w0.heap.size w0 w) (hps : ps.size = 1)
    (prK : ∀ (pre : List α) (x : α) (W : World) (l : Nat) (o o' : Obj), w.heap.size ≤ l → W.heap[l]? = some o → o.isCells = false → Pr pre x W → Pr pre x (W.putObj l o'))
    (kpT : ∀ {A B C : World}, Kp A B → Kp B C → Kp A C) (kpB : ∀ (W : World) (l : Nat) (o o' : Obj), w.heap.size ≤ l → W.heap[l]? = some o → Kp W (W.putObj l o'))
    (I : List α → World → Prop) (hI : OwnFrom w.heap.size I) (h0 : I [] w) (a₁ : α → Act)
    (hassign : ∀ (l : Nat) (x : α) (W : World) (K : Act → World → Prop), K (a₁ x) W →
      assign.wpIn (Fence.wide.inRound l) (n - 1 - 1) P (Exit.then K (fun _ _ _ => False)) { tmps := (ps.zip #[enc x]).foldl (fun t (p, v) => t.setIfInBounds p v) a.tmps, defers := [] } W)
    (hbody : ∀ (l : Nat) (pre : List α) (x : α) (W : World), I pre W → Pr pre x W →
      body.wpIn (Fence.wide.inRound l) (n - 1 - 1) P (fun e _ W' => e = .normal ∧ KeepsFrom w.heap.size W W' ∧ Kp W W' ∧ I (pre ++ [x]) W') (a₁ x) W)
    (hdone : ∀ (D : Nat) (xs : List α) (W : World), w.heap.size ≤ D → S xs → I xs W → W.heap[D]? = some (.deferred (some [])) → Q .normal { a with defers := { target := .collected D, args := #[] } :: a.defers } W) :
    (Code.rangeFunc g ps assign body).wpIn Fence.wide n P Q a w := by
  refine wpIn_rangeFunc fun fn hfn => ?_
  rw [show Fence.wide.round = none from rfl]
  obtain ⟨d, hd⟩ : ∃ d, d = w.heap.size := ⟨_, rfl⟩
  obtain ⟨L, hL⟩ : ∃ L : LoopState → Loop, L = fun st => { state := st, pending := none, fn, tmps := a.tmps, params := ps, assign, body, defers := w.heap.size } := ⟨_, rfl⟩
  obtain ⟨V, hV⟩ : ∃ V, (w.alloc (.deferred (some []))).alloc (.loop (L .ready)) = V := ⟨_, rfl⟩
  have bV : Book d (L .ready) V := by
    subst hd hV
    exact ⟨by simpa using World.alloc_heap_new (w.alloc (.deferred (some []))) (.loop (L .ready)), (Below.heap_alloc _ _ _ (by simp)).trans (World.alloc_heap_new w _)⟩
  have iV : I [] V := by rw [← hV]; exact hI.alloc _ (hI.alloc _ h0)
  have gV : Below w0.heap.size w0 V := by
    rw [← hV]; exact hb0.trans ((((Below.refl _ w).alloc (Nat.le_refl _) _).alloc (by simp) _).mono hb0.size)
  have sV : V.heap.size = d + 2 := by rw [← hV, hd]; simp
  refine ⟨d + 1, [{ target := .collected d, args := #[] }], V, { target := .fn (.func gf) lb, args := #[.func (.yield (d + 1)) #[] #[]] }, V, gf, #[.func (.yield (d + 1)) #[] #[]] ++ lb, V, ?_, ?_, ?_, ?_, fun _ => h1, ?_⟩
  · rw [← hV, hL, hd]; exact run_enterLoop_outer _ _ _ _ _
  · simp only [resolve, hg]
    simp [go_sem]
  · intro f hf
    simp [Target.leads] at hf
    subst hf
    trivial
  · simp [invoke, go_sem, eg]
  have far : ∀ {A B : World} {row : Option Nat}, (∀ r, row = some r → V.heap.size ≤ r ∧ ∃ o : Obj, A.heap[r]? = some o ∧ o.isWalk = true) → ∀ r, row = some r → w.heap.size ≤ r ∧ ∃ o : Obj, A.heap[r]? = some o ∧ o.isCells = false := fun {A B row} hr r e => by
    obtain ⟨hB, o, ho, hw⟩ := hr r e
    exact ⟨by omega, o, ho, Obj.not_cells_of_walk hw⟩
  refine (seq (d + 1) (fun pre W => I pre W ∧ Book d (L .ready) W) V gV ?_ ?_ ⟨iV, bV⟩).mono ?_
  · rintro s A B row ⟨hi, hb⟩ hg' hr
    have keep : ∀ {k : Nat} {o : Obj}, A.heap[k]? = some o → o.isWalk = false → B.heap[k]? = some o := fun ho hw => (grownBy_keeps hg' (fun r e => (hr r e).2) ho hw).trans ho
    exact ⟨hI s A B row hi hg' (far (B := B) hr), keep hb.loop rfl, keep hb.dfr rfl⟩
  · rintro pre x W ⟨hi, hb⟩ hp
    have hy := run_yield (P := P) (args := #[enc x]) hb.loop (by rw [hL]; exact hps.symm)
    have hl := hb.loop
    have hf : (L .ready).fn = fn := by rw [hL]
    have ht : (L .ready).tmps = a.tmps := by rw [hL]
    have hq : (L .ready).params = ps := by rw [hL]
    have ha : (L .ready).assign = assign := by rw [hL]
    have hc : (L .ready).body = body := by rw [hL]
    have hbz : { L .ready with state := .busy } = L .busy := by rw [hL]
    rw [hf, ht, hq, ha, hc] at hy
    have rb := run_beginRound (P := P) hl (by rw [hL])
    rw [hbz] at rb
    refine ⟨fn, _, assign, body, hy, roundIn_of_wpIn hfn (hassign _ x W _ ⟨_, rb, ?_⟩)⟩
    have b2 := hb.put (L .busy)
    refine wpIn_mono (hbody _ pre x _ (hI.putObj _ hi (by omega) hl rfl) (prK _ _ _ _ _ _ (by omega) hl rfl hp)) ?_
    rintro e a3 U ⟨rfl, hk, hkp, hiU⟩
    have b3 := b2.kept (by rw [← hd] at hk; exact hk)
    have hbk : { L .busy with state := .ready } = L .ready := by rw [hL]
    have re := run_endRound (P := P) none b3.loop
    have hp0 : ({ L .busy with state := (if (none : Option Code).isNone then .ready else .done), pending := none } : Loop) = L .ready := by rw [hL]; rfl
    rw [hp0] at re
    exact ⟨_, _, re, rfl, ⟨hI.putObj _ hiU (by omega) b3.loop rfl, b3.put _⟩, kpT (kpT (kpB _ _ _ _ (by omega) hl) hkp) (kpB _ _ _ _ (by omega) b3.loop)⟩
  · rintro e U ⟨v, xs, rfl, hS, hi, hb⟩
    have re := run_endLoop (P := P) hb.loop (by rw [hL]; simp)
    rw [show (L .ready).pending = none by rw [hL]] at re
    exact ⟨none, _, re, hdone _ xs _ (by omega) hS (hI.putObj _ hi (by omega) hb.loop rfl) ((World.putObj_heap_other (by omega)).trans hb.dfr)⟩
end Go.Proofs.Ythjbcdjphokjbaa.Yield
