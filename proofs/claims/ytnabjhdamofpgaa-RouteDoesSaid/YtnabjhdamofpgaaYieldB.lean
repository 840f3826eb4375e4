/- A range over a function whose loop variable lies in a box (the assignment of a round makes memory), and whose body may be left by a return. No program is named. My own law; the library's have no place for an assignment that makes memory. -/
import Derived.RangeFuncWrites
set_option linter.unusedVariables false
namespace Go.Proofs.Ytnabjhdamofpgaa.YieldB
open Go.RowKit Go
variable {n : Nat} {P : Program} {α : Type}

/-- The two blocks that the loop lays for itself: its record at d + 1, the rounds' deferred calls at d. -/
structure Book (d : Nat) (L : Loop) (W : World) : Prop where
  loop : W.heap[d + 1]? = some (.loop L)
  dfr : W.heap[d]? = some (.deferred (some []))
theorem Book.lt {d : Nat} {L : Loop} {W : World} (h : Book d L W) : d + 1 < W.heap.size := (Array.getElem?_eq_some_iff.1 h.loop).1
theorem Book.put {d : Nat} {L : Loop} {W : World} (h : Book d L W) (L' : Loop) : Book d L' (W.putObj (d + 1) (.loop L')) :=
  ⟨World.putObj_heap_same h.lt, (World.putObj_heap_other (by omega)).trans h.dfr⟩
theorem Book.kept {d : Nat} {L : Loop} {V W : World} (h : Book d L V) (k : KeepsFrom d V W) : Book d L W :=
  ⟨k.same _ _ (by omega) h.loop rfl, k.same _ _ (Nat.le_refl _) h.dfr rfl⟩

theorem wpIn_rangeFunc_box {g : Operand} {ps : Array Tmp} {assign body : Code} {Q : Exit → Act → World → Prop} {a : Act} {w : World} {gf : Nat} {lb : Array Value} {encs : α → Array Value} {Kp : World → World → Prop} {S Sp : List α → Prop} {N : Nat} {w0 : World}
    (h1 : 1 ≤ n) (hg : a.eval g = .func (.func gf) #[] lb) (eg : ∀ args w, (callFunc gf args).run P w = .ok (.enter gf args) w)
    (seq : SeqStopsK Fence.wide (n - 1) P gf lb encs Kp S Sp N w0) (hb0 : Below w0.heap.size w0 w) (hps : ∀ x, (encs x).size = ps.size)
    (kpT : ∀ {A B C : World}, Kp A B → Kp B C → Kp A C) (kpB : ∀ (W : World) (l : Nat) (o o' : Obj), w.heap.size ≤ l → W.heap[l]? = some o → Kp W (W.putObj l o'))
    (I Ix : List α → World → Prop) (M : List α → α → Act → World → Prop) (hI : OwnFrom w.heap.size I) (hIx : OwnFrom w.heap.size Ix) (hM : ∀ x a1, OwnFrom w.heap.size (fun pre => M pre x a1)) (h0 : I [] w)
    (hassign : ∀ (l : Nat) (pre : List α) (x : α) (W : World) (K : Act → World → Prop), I pre W → pre.length < N → (∀ a1 W1, KeepsFrom w.heap.size W W1 → Kp W W1 → M pre x a1 W1 → K a1 W1) →
      assign.wpIn (Fence.wide.inRound l) (n - 1 - 1) P (Exit.then K (fun _ _ _ => False)) { tmps := (ps.zip (encs x)).foldl (fun t (p, v) => t.setIfInBounds p v) a.tmps, defers := [] } W)
    (hbody : ∀ (l : Nat) (pre : List α) (x : α) (a1 : Act) (W : World), M pre x a1 W → pre.length < N →
      body.wpIn (Fence.wide.inRound l) (n - 1 - 1) P (fun e _ W' => KeepsFrom w.heap.size W W' ∧ ((e = .normal ∧ Kp W W' ∧ I (pre ++ [x]) W') ∨ (e = .ret ∧ Ix (pre ++ [x]) W'))) a1 W)
    (hdone : ∀ (D : Nat) (xs : List α) (W : World), w.heap.size ≤ D → S xs → I xs W → W.heap[D]? = some (.deferred (some [])) → Q .normal { a with defers := { target := .collected D, args := #[] } :: a.defers } W)
    (hstop : ∀ (D : Nat) (pre : List α) (W : World), w.heap.size ≤ D → Sp pre → Ix pre W → W.heap[D]? = some (.deferred (some [])) → Code.ret.wpIn Fence.wide n P Q { a with defers := { target := .collected D, args := #[] } :: a.defers } W) :
    (Code.rangeFunc g ps assign body).wpIn Fence.wide n P Q a w := by
  refine wpIn_rangeFunc fun fn hfn => ?_
  rw [show Fence.wide.round = none from rfl]
  obtain ⟨d, hd⟩ : ∃ d, d = w.heap.size := ⟨_, rfl⟩
  obtain ⟨L, hL⟩ : ∃ L : LoopState → Option Code → Loop, L = fun st pe => { state := st, pending := pe, fn, tmps := a.tmps, params := ps, assign, body, defers := w.heap.size } := ⟨_, rfl⟩
  obtain ⟨V, hV⟩ : ∃ V, (w.alloc (.deferred (some []))).alloc (.loop (L .ready none)) = V := ⟨_, rfl⟩
  have bV : Book d (L .ready none) V := by
    subst hd hV
    exact ⟨by simpa using World.alloc_heap_new (w.alloc (.deferred (some []))) (.loop (L .ready none)), (Below.heap_alloc _ _ _ (by simp)).trans (World.alloc_heap_new w _)⟩
  have iV : I [] V := by rw [← hV]; exact hI.alloc _ (hI.alloc _ h0)
  have gV : Below w0.heap.size w0 V := by
    rw [← hV]; exact hb0.trans ((((Below.refl _ w).alloc (Nat.le_refl _) _).alloc (by simp) _).mono hb0.size)
  have sV : V.heap.size = d + 2 := by rw [← hV, hd]; simp
  refine ⟨d + 1, [{ target := .collected d, args := #[] }], V, { target := .fn (.func gf) lb, args := #[.func (.yield (d + 1)) #[] #[]] }, V, gf, #[.func (.yield (d + 1)) #[] #[]] ++ lb, V, ?_, ?_, ?_, ?_, fun _ => h1, ?_⟩
  · rw [← hV, hL, hd]; exact run_enterLoop_outer _ _ _ _ _
  · simp only [resolve, hg]
    simp [go_sem]
  · intro f hf
    simp [Target.leads] at hf
    subst hf
    trivial
  · simp [invoke, go_sem, eg]
  have far : ∀ {A B : World} {row : Option Nat}, (∀ r, row = some r → V.heap.size ≤ r ∧ ∃ o : Obj, A.heap[r]? = some o ∧ o.isWalk = true) → ∀ r, row = some r → w.heap.size ≤ r ∧ ∃ o : Obj, A.heap[r]? = some o ∧ o.isCells = false := fun {A B row} hr r e => by
    obtain ⟨hB, o, ho, hw⟩ := hr r e
    exact ⟨by omega, o, ho, Obj.not_cells_of_walk hw⟩
  have stay : ∀ {A B : World} {row : Option Nat} {L' : Loop}, A.grownBy B row → (∀ r, row = some r → V.heap.size ≤ r ∧ ∃ o : Obj, A.heap[r]? = some o ∧ o.isWalk = true) → Book d L' A → Book d L' B := fun {A B row L'} hg' hr hb => by
    have keep : ∀ {k : Nat} {o : Obj}, A.heap[k]? = some o → o.isWalk = false → B.heap[k]? = some o := fun ho hw => (grownBy_keeps hg' (fun r e => (hr r e).2) ho hw).trans ho
    exact ⟨keep hb.loop rfl, keep hb.dfr rfl⟩
  refine (seq (d + 1) (fun pre W => I pre W ∧ Book d (L .ready none) W) (fun pre W => Ix pre W ∧ Book d (L .done (some .ret)) W) V gV ?_ ?_ ?_ ⟨iV, bV⟩).mono ?_
  · rintro s A B row ⟨hi, hb⟩ hg' hr
    exact ⟨hI s A B row hi hg' (far (B := B) hr), stay hg' hr hb⟩
  · rintro s A B row ⟨hi, hb⟩ hg' hr
    exact ⟨hIx s A B row hi hg' (far (B := B) hr), stay hg' hr hb⟩
  · rintro pre x W ⟨hi, hb⟩ hlen
    have hy := run_yield (P := P) (args := encs x) hb.loop (by rw [hL]; exact hps x)
    have hf : (L .ready none).fn = fn := by rw [hL]
    have ht : (L .ready none).tmps = a.tmps := by rw [hL]
    have hq : (L .ready none).params = ps := by rw [hL]
    have ha : (L .ready none).assign = assign := by rw [hL]
    have hc : (L .ready none).body = body := by rw [hL]
    have hbz : { L .ready none with state := .busy } = L .busy none := by rw [hL]
    rw [hf, ht, hq, ha, hc] at hy
    refine ⟨fn, _, assign, body, hy, roundIn_of_wpIn hfn (hassign _ pre x W _ hi hlen fun a1 W1 hk1 kp1 m1 => ?_)⟩
    have b1 := hb.kept (by rw [← hd] at hk1; exact hk1)
    have rb := run_beginRound (P := P) b1.loop (by rw [hL])
    rw [hbz] at rb
    refine ⟨_, rb, ?_⟩
    have b2 := b1.put (L .busy none)
    refine wpIn_mono (hbody _ pre x a1 _ ((hM x a1).putObj _ m1 (by omega) b1.loop rfl) hlen) ?_
    rintro e a3 U ⟨hk, hU⟩
    have b3 := b2.kept (by rw [← hd] at hk; exact hk)
    rcases hU with ⟨rfl, hkp, hiU⟩ | ⟨rfl, hiU⟩
    · have re := run_endRound (P := P) none b3.loop
      have hp0 : ({ L .busy none with state := (if (none : Option Code).isNone then .ready else .done), pending := none } : Loop) = L .ready none := by rw [hL]; rfl
      rw [hp0] at re
      exact ⟨_, _, re, .inl ⟨rfl, ⟨hI.putObj _ hiU (by omega) b3.loop rfl, b3.put _⟩, kpT kp1 (kpT (kpT (kpB _ _ _ _ (by omega) b1.loop) hkp) (kpB _ _ _ _ (by omega) b3.loop))⟩⟩
    · have re := run_endRound (P := P) (some .ret) b3.loop
      have hp0 : ({ L .busy none with state := (if (some Code.ret).isNone then .ready else .done), pending := some .ret } : Loop) = L .done (some .ret) := by rw [hL]; rfl
      rw [hp0] at re
      exact ⟨_, _, re, .inr ⟨rfl, hIx.putObj _ hiU (by omega) b3.loop rfl, b3.put _⟩⟩
  · rintro e U ⟨⟨v, rfl⟩, (⟨xs, hS, hi, hb⟩ | ⟨pre, hSp, hi, hb⟩)⟩
    · have re := run_endLoop (P := P) hb.loop (by rw [hL]; simp)
      rw [show (L .ready none).pending = none by rw [hL]] at re
      exact ⟨none, _, re, hdone _ xs _ (by omega) hS (hI.putObj _ hi (by omega) hb.loop rfl) ((World.putObj_heap_other (by omega)).trans hb.dfr)⟩
    · have re := run_endLoop (P := P) hb.loop (by rw [hL]; simp)
      rw [show (L .done (some .ret)).pending = some .ret by rw [hL]] at re
      exact ⟨some .ret, _, re, hstop _ pre _ (by omega) hSp (hIx.putObj _ hi (by omega) hb.loop rfl) ((World.putObj_heap_other (by omega)).trans hb.dfr)⟩
end Go.Proofs.Ytnabjhdamofpgaa.YieldB
