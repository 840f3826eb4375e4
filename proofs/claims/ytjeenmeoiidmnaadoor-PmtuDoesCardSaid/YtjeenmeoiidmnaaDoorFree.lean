/- A region that draws its order, of whose operations many make memory: WHATEVER ORDER, what is known of each operation's value is kept. One obligation for each operation (not for each order): in every world that has grown from the first one, where what is known of those operations' values that it waits for holds, it yields a value of which what is to be known holds. No program is named here. -/
import Derived.OrdersHeld
import Derived.Deep.RegionHeld
namespace Go.Proofs.YtjeenmeoiidmnaaDoor.Free
open Go

section
variable {P : Program} {ops : Array Oper} {md : Region.Mode} {Q : Exit → Act → World → Prop} {S : World → Prop}

def dstAt (ops : Array Oper) (k : Nat) : Option Tmp := (ops.toList[k]?).bind (·.dst)
def waits (md : Region.Mode) (ops : Array Oper) (i k : Nat) : Bool := match ops[i]? with
  | some o => o.after.any fun e => Region.binds md e && e.on == k
  | none => false

/-- The frame, all of R's values filled in. -/
def fill (ops : Array Oper) (vals : Nat → Value) : List Nat → Act → Act
  | [], a => a
  | k :: r, a => fill ops vals r (a.put (dstAt ops k) (vals k))

/-- The check: R's operations are no 'select'; a guard is one of R, and waited for; each waits for earlier ones alone; whoever looks at what another one writes waits for it; no two write the same slot; and of each, one later waits, t the last. U: what comes behind t. -/
def freeB (md : Region.Mode) (ops : Array Oper) (R : List Nat) (t : Nat) (U : List Nat) : Bool :=
  Region.noSelect ops && decide ((t :: R).Nodup) &&
  ((t :: R).all fun i => match ops[i]? with
    | some o => (match o.guard with | none => true | some (g, _) => R.contains g && waits md ops i g) && (o.after.all fun e => !Region.binds md e || (decide (e.on < i) && !U.contains e.on)) &&
        ((t :: R).all fun k => match dstAt ops k with
          | some d => (k == t || (!(o.looksAt ops).contains d || waits md ops i k)) && (i == k || dstAt ops i != some d)
          | none => true)
    | none => false) &&
  (R.all fun i => (t :: R).any fun j => decide (i < j) && decide (j ≤ t) && waits md ops j i) &&
  (U.all fun u => !(t :: R).contains u && (t :: U).any fun j => waits md ops u j)

/-- What is listed of R stands in the frame; all else is as in the first frame. -/
structure Inv (ops : Array Oper) (R : List Nat) (a : Act) (L : Nat → Prop) (vals : Nat → Value) (a' : Act) : Prop where
  size : a'.tmps.size = a.tmps.size
  defers : a'.defers = a.defers
  there : ∀ k ∈ R, L k → ∀ d, dstAt ops k = some d → d < a.tmps.size → a'.tmps[d]? = some (vals k)
  same : ∀ t, (∀ k ∈ R, L k → dstAt ops k ≠ some t) → a'.tmps[t]? = a.tmps[t]?

theorem Inv.start (R : List Nat) (a : Act) (vals : Nat → Value) : Inv ops R a (fun _ => False) vals a := ⟨rfl, rfl, fun _ _ h => h.elim, fun _ _ => rfl⟩

theorem Inv.step {R : List Nat} {a a' : Act} {L : Nat → Prop} {vals : Nat → Value} (h : Inv ops R a L vals a') {i : Nat} (hi : i ∈ R) (hd : ∀ k ∈ R, k ≠ i → ∀ d, dstAt ops k = some d → dstAt ops i ≠ some d) (hL : ¬ L i) (v : Value) :
    Inv ops R a (fun k => L k ∨ k = i) (fun k => if k = i then v else vals k) (a'.put (dstAt ops i) v) := by
  cases he : dstAt ops i with
  | none =>
    refine ⟨h.size, h.defers, fun k hk hLk d hd' hlt => ?_, fun t ht => h.same t fun k hk hLk => ht k hk (.inl hLk)⟩
    have hne : k ≠ i := fun e => by rw [e, he] at hd'; cases hd'
    rw [if_neg hne]
    exact h.there k hk (hLk.resolve_right hne) d hd' hlt
  | some e =>
    refine ⟨by simp [Act.put, h.size], h.defers, fun k hk hLk d hd' hlt => ?_, fun t ht => ?_⟩
    · by_cases hki : k = i
      · subst hki
        rw [he] at hd'
        obtain rfl := Option.some.inj hd'
        have : e < a'.tmps.size := by rw [h.size]; exact hlt
        simp [Act.put, this]
      · have hne : e ≠ d := fun x => hd k hk hki d hd' (by rw [he, x])
        rw [if_neg hki]
        simp only [Act.put, Array.getElem?_setIfInBounds_ne hne]
        exact h.there k hk (hLk.resolve_right hki) d hd' hlt
    · have hne : e ≠ t := fun x => ht i hi (.inr rfl) (by rw [he, x])
      simp only [Act.put, Array.getElem?_setIfInBounds_ne hne]
      exact h.same t fun k hk hLk => ht k hk (.inl hLk)

theorem Inv.sub {R : List Nat} {a a' : Act} {L L' : Nat → Prop} {vals vals' : Nat → Value} (h : Inv ops R a L vals a') (hL : ∀ k ∈ R, L' k ↔ L k) (hv : ∀ k ∈ R, L k → vals' k = vals k) : Inv ops R a L' vals' a' :=
  ⟨h.size, h.defers, fun k hk hl d hd hlt => by rw [hv k hk ((hL k hk).1 hl)]; exact h.there k hk ((hL k hk).1 hl) d hd hlt, fun t ht => h.same t fun k hk hl => ht k hk ((hL k hk).2 hl)⟩

theorem Inv.unique {R : List Nat} {a a1 a2 : Act} {L : Nat → Prop} {vals : Nat → Value} (h1 : Inv ops R a L vals a1) (h2 : Inv ops R a L vals a2) : a1 = a2 := by
  obtain ⟨t1, d1⟩ := a1
  obtain ⟨t2, d2⟩ := a2
  have hd : d1 = d2 := h1.defers.trans h2.defers.symm
  subst hd
  have ht : t1 = t2 := by
    apply Array.ext_getElem?
    intro t
    rcases Nat.lt_or_ge t a.tmps.size with hlt | hge
    · by_cases he : ∃ k ∈ R, L k ∧ dstAt ops k = some t
      · obtain ⟨k, hk, hl, hd⟩ := he
        exact (h1.there k hk hl t hd hlt).trans (h2.there k hk hl t hd hlt).symm
      · have hn : ∀ k ∈ R, L k → dstAt ops k ≠ some t := fun k hk hl hd => he ⟨k, hk, hl, hd⟩
        exact (h1.same t hn).trans (h2.same t hn).symm
    · have e1 := h1.size
      have e2 := h2.size
      simp only at e1 e2
      rw [Array.getElem?_eq_none (by omega), Array.getElem?_eq_none (by omega)]
  subst ht
  rfl

theorem fill_inv (vals : Nat → Value) (a : Act) (R : List Nat) (hd : ∀ i ∈ R, ∀ k ∈ R, k ≠ i → ∀ d, dstAt ops k = some d → dstAt ops i ≠ some d) : ∀ (r : List Nat) (L : Nat → Prop) (a' : Act), r.Nodup → (∀ k ∈ r, k ∈ R ∧ ¬ L k) → Inv ops R a L vals a' → Inv ops R a (fun k => L k ∨ k ∈ r) vals (fill ops vals r a')
  | [], L, a', _, _, h => h.sub (fun k _ => by simp) (fun _ _ _ => rfl)
  | i :: r, L, a', hn, hr, h => by
    have hi := hr i (by simp)
    have h1 := h.step hi.1 (hd i hi.1) hi.2 (vals i)
    have h2 : Inv ops R a (fun k => L k ∨ k = i) vals (a'.put (dstAt ops i) (vals i)) := h1.sub (fun _ _ => Iff.rfl) (fun k _ _ => by by_cases e : k = i <;> simp [e])
    have h3 := fill_inv vals a R hd r _ _ (List.nodup_cons.1 hn).2 (fun k hk => ⟨(hr k (by simp [hk])).1, fun x => x.elim (hr k (by simp [hk])).2 fun e => (List.nodup_cons.1 hn).1 (e ▸ hk)⟩) h2
    exact h3.sub (fun k _ => by simp [or_assoc]) (fun _ _ _ => rfl)

theorem fill_all (vals : Nat → Value) (a : Act) (R : List Nat) (hn : R.Nodup) (hd : ∀ i ∈ R, ∀ k ∈ R, k ≠ i → ∀ d, dstAt ops k = some d → dstAt ops i ≠ some d) : Inv ops R a (fun k => k ∈ R) vals (fill ops vals R a) :=
  (fill_inv vals a R hd R (fun _ => False) a hn (fun k hk => ⟨hk, fun h => h⟩) (Inv.start R a vals)).sub (fun k _ => by simp) (fun _ _ _ => rfl)

/-- An operation looks at the same values in two frames. -/
theorem exec_same {o : Oper} (hs : ∀ cs b, o.op ≠ .select cs b) {a b : Act} (h : ∀ t ∈ o.looksAt ops, a.tmps[t]? = b.tmps[t]?) : execOp a.eval o = execOp b.eval o := by
  refine execOp_congr o hs fun x hx => ?_
  cases x with
  | tmp t =>
    have ht := h t (List.mem_append_left _ (List.mem_filterMap.2 ⟨.tmp t, by simpa using hx, rfl⟩))
    simp only [Act.eval, Array.getD_eq_getD_getElem?, ht]
  | _ => rfl

/-- An operation's step, carried over from one frame to another. -/
theorem wp_carry {o : Oper} {a b : Act} {w : World} {R : Value → World → Prop} {K' : Act → World → Prop} (hsz : b.tmps.size = a.tmps.size) (hdf : b.defers = a.defers) (he : execOp b.eval o = execOp a.eval o) (hQ : ∀ c (t t' : Array Value) d w, Q (.panic c) ⟨t, d⟩ w → Q (.panic c) ⟨t', d⟩ w) (hK : ∀ v w'', R v w'' → K' (b.put o.dst v) w'')
    (h : ∀ K : Act → World → Prop, (∀ v w'', R v w'' → K (a.put o.dst v) w'') → Oper.wp P o a w K Q) : Oper.wp P o b w K' Q := by
  have hQ' : ∀ c w, Q (.panic c) a w → Q (.panic c) b w := fun c w hh => by
    obtain ⟨t1, d1⟩ := a
    obtain ⟨t2, d2⟩ := b
    obtain rfl : d2 = d1 := hdf
    exact hQ _ _ _ _ _ hh
  have h' := h (fun a'' w'' => ∃ v, a'' = a.put o.dst v ∧ R v w'') (fun v w'' hR => ⟨v, rfl, hR⟩)
  have put : ∀ v u, a.put o.dst v = a.put o.dst u → b.put o.dst v = b.put o.dst u := fun v u e => by
    cases hd : o.dst with
    | none => rfl
    | some d =>
      rw [hd] at e
      rcases Nat.lt_or_ge d a.tmps.size with hlt | hge
      · have : (a.put (some d) v).tmps[d]? = (a.put (some d) u).tmps[d]? := by rw [e]
        simp [Act.put, hlt] at this
        rw [this]
      · have hb : b.tmps.size ≤ d := hsz ▸ hge
        have hn : ¬ d < b.tmps.size := Nat.not_lt.2 hb
        simp only [Act.put, Array.setIfInBounds, dif_neg hn]
  unfold Oper.wp at *
  rw [he]
  generalize (execOp a.eval o).run P w = r at *
  cases r with
  | ok n w' =>
    cases n <;> simp only [Oper.upon] at h' ⊢
    case value v =>
      obtain ⟨u, e, hR⟩ := h'
      rw [put _ _ e]
      exact hK _ _ hR
    case skip =>
      obtain ⟨u, e, hR⟩ := h'
      rw [put _ _ e]
      exact hK _ _ hR
    case defer d =>
      obtain ⟨u, e, hR⟩ := h'
      have : (({ a with defers := d :: a.defers } : Act).put o.dst undef).defers = (a.put o.dst u).defers := by rw [e]
      cases hd : o.dst <;> simp [Act.put, hd] at this
    case enter f args =>
      refine Calls.mono h' fun e w'' he => ?_
      cases e with
      | returned v =>
        obtain ⟨u, e, hR⟩ := he
        simp only
        rw [put _ _ e]
        exact hK _ _ hR
      | panicked c => exact hQ' _ _ he
      | outgrown => exact he
    case row row args =>
      refine Rows.mono h' fun v w'' he => ?_
      obtain ⟨u, e, hR⟩ := he
      rw [put _ _ e]
      exact hK _ _ hR
  | halt x w' =>
    cases x <;> simp only [Oper.upon] at h' ⊢
    case panic v => exact hQ' _ _ h'

theorem waits_after {i k : Nat} {o : Oper} (hi : ops[i]? = some o) (h : waits md ops i k = true) : ∃ e ∈ o.after, Region.binds md e = true ∧ e.on = k := by
  unfold waits at h
  simp only [hi] at h
  obtain ⟨e, he, hb⟩ := Array.any_eq_true'.1 h
  simp only [Bool.and_eq_true, beq_iff_eq] at hb
  exact ⟨e, he, hb.1, hb.2⟩

/-- What the check says. -/
structure Good (md : Region.Mode) (ops : Array Oper) (R : List Nat) (t : Nat) (U : List Nat) : Prop where
  sel : ∀ (j : Nat) (o : Oper) cs b, ops[j]? = some o → o.op ≠ .select cs b
  nodup : (t :: R).Nodup
  op : ∀ i ∈ t :: R, ∃ o, ops[i]? = some o ∧ (∀ g b, o.guard = some (g, b) → g ∈ R ∧ waits md ops i g = true) ∧ (∀ e ∈ o.after, Region.binds md e = true → e.on < i ∧ e.on ∉ U) ∧
    ∀ k ∈ t :: R, ∀ d, dstAt ops k = some d → (k ≠ t → d ∈ o.looksAt ops → waits md ops i k = true) ∧ (k ≠ i → dstAt ops i ≠ some d)
  sink : ∀ i ∈ R, ∃ j ∈ t :: R, i < j ∧ j ≤ t ∧ waits md ops j i = true
  behind : ∀ u ∈ U, u ∉ t :: R ∧ ∃ j ∈ t :: U, waits md ops u j = true

theorem freeB_spec {R : List Nat} {t : Nat} {U : List Nat} (h : freeB md ops R t U = true) : Good md ops R t U := by
  simp only [freeB, Bool.and_eq_true, decide_eq_true_eq] at h
  obtain ⟨⟨⟨⟨hs, hn⟩, ho⟩, hk⟩, hu⟩ := h
  refine ⟨Region.noSelect_spec hs, hn, fun i hi => ?_, fun i hi => ?_, fun u hu' => ?_⟩
  · have h1 := List.all_eq_true.1 ho i hi
    cases hoi : ops[i]? with
    | none => simp [hoi] at h1
    | some o =>
      simp only [hoi, Bool.and_eq_true] at h1
      obtain ⟨⟨hg, ha⟩, hl⟩ := h1
      refine ⟨o, rfl, fun g b he => by simpa [he] using hg, fun e he hb => ?_, fun k hk d hd => ?_⟩
      · have := Array.all_eq_true'.1 ha e he
        simp only [hb, Bool.not_true, Bool.false_or, Bool.and_eq_true, decide_eq_true_eq, Bool.not_eq_true'] at this
        exact ⟨this.1, fun hm => by simp [hm] at this⟩
      · have := List.all_eq_true.1 hl k hk
        simp only [hd, Bool.and_eq_true, Bool.or_eq_true, Bool.not_eq_true', beq_iff_eq, bne_iff_ne, ne_eq] at this
        refine ⟨fun hkt hm => (this.1.resolve_left hkt).resolve_left (by simpa using hm), fun hne => this.2.resolve_left (fun e => hne e.symm)⟩
  · have h1 := List.all_eq_true.1 hk i hi
    obtain ⟨j, hj, h2⟩ := List.any_eq_true.1 h1
    simp only [Bool.and_eq_true, decide_eq_true_eq] at h2
    exact ⟨j, hj, h2.1.1, h2.1.2, h2.2⟩
  · have h1 := List.all_eq_true.1 hu u hu'
    simp only [Bool.and_eq_true, Bool.not_eq_true'] at h1
    obtain ⟨j, hj, h2⟩ := List.any_eq_true.1 h1.2
    exact ⟨fun hm => by simp [hm] at h1, j, hj, h2⟩

/-- All listed but those. -/
def markAll (n : Nat) (U : List Nat) : Array Bool := (Array.range n).map fun k => !U.contains k
theorem markAll_size (n : Nat) (U : List Nat) : (markAll n U).size = n := by simp [markAll]
theorem markAll_at (n : Nat) (U : List Nat) (k : Nat) (hk : k < n) : (markAll n U)[k]? = some (!U.contains k) := by simp [markAll, hk]

/-- An operation's step, shut: so that nobody computes it. -/
structure Step (P : Program) (o : Oper) (a : Act) (w : World) (K : Act → World → Prop) (Q : Exit → Act → World → Prop) : Prop where
  out : Oper.wp P o a w K Q

/-- What is to be shown of each of some operations. -/
def Obs (P : Program) (md : Region.Mode) (ops : Array Oper) (Q : Exit → Act → World → Prop) (Gr : World → World → Prop) (G : Nat → World → Value → Prop) (a : Act) (w : World) (R RR : List Nat) : Prop :=
  ∀ i ∈ RR, ∀ o, ops[i]? = some o → ∀ vals w', Gr w w' → (∀ j ∈ R, waits md ops i j = true → G j w' (vals j)) → ∀ K : Act → World → Prop, (∀ v w'', Gr w' w'' → G i w'' v → K ((fill ops vals R a).put o.dst v) w'') → Step P o (fill ops vals R a) w' K Q

/-- **THE LAW.** R: the operations that are still to come up, ahead of t; U: what comes behind t. -/
theorem wpAnyH_free_aux {R : List Nat} {t : Nat} {U : List Nat} (Gr : World → World → Prop) (G : Nat → World → Value → Prop) (a : Act) (w : World)
    (trans : ∀ w1 w2 w3, Gr w1 w2 → Gr w2 w3 → Gr w1 w3) (mono : ∀ k w1 w2 v, Gr w1 w2 → G k w1 v → G k w2 v) (hS : ∀ w', Gr w w' → S w')
    (hQ : ∀ c (t t' : Array Value) d w, Q (.panic c) ⟨t, d⟩ w → Q (.panic c) ⟨t', d⟩ w) (hg : Good md ops R t U)
    (hgv : ∀ i ∈ t :: R, ∀ o, ops[i]? = some o → ∀ g b, o.guard = some (g, b) → (∃ d, dstAt ops g = some d ∧ d < a.tmps.size) ∧ ∀ w v, G g w v → v = .bool b)
    (obs : Obs P md ops Q Gr G a w R R)
    (fin : ∀ o, ops[t]? = some o → ∀ vals w', Gr w w' → (∀ j ∈ R, G j w' (vals j)) → Oper.wp P o (fill ops vals R a) w' (fun a'' w'' => S w'' ∧ wpAnyH P md ops Q S U.length (markAll ops.size U) a'' w'') Q) :
    ∀ (fuel : Nat) (listed : Array Bool) (a' : Act) (w' : World) (vals : Nat → Value) (rem : List Nat), listed.size = ops.size → rem.Nodup → (∀ k, k ∈ rem ↔ k ∈ t :: R ∧ listed.getD k true = false) → (∀ k, listed.getD k true = false → k ∈ t :: R ∨ k ∈ U) → (∀ u ∈ U, listed.getD u true = false) → listed.getD t true = false →
      (∀ i ∈ R, listed.getD i true = true → ∀ k ∈ R, waits md ops i k = true → listed.getD k true = true) →
      Inv ops R a (fun k => listed.getD k true = true) vals a' → Gr w w' → (∀ j ∈ R, listed.getD j true = true → G j w' (vals j)) → rem.length + U.length = fuel → wpAnyH P md ops Q S fuel listed a' w' := by
  have hnR := (List.nodup_cons.1 hg.nodup)
  have hdR : ∀ i ∈ R, ∀ k ∈ R, k ≠ i → ∀ d, dstAt ops k = some d → dstAt ops i ≠ some d := fun i hi k hk hne d hd => by
    obtain ⟨o, _, _, _, h⟩ := hg.op i (by simp [hi])
    exact (h k (by simp [hk]) d hd).2 hne
  intro fuel
  induction fuel with
  | zero =>
    intro listed a' w' vals rem _ hn hrem _ _ ht _ _ _ _ hlen
    have : rem = [] := List.eq_nil_of_length_eq_zero (by omega)
    have h := (hrem t).2 ⟨by simp, ht⟩
    rw [this] at h
    cases h
  | succ fuel ih =>
    intro listed a' w' vals rem hsz hn hrem honly hU ht hclosed hinv hgr hG hlen
    have inB : ∀ i ∈ t :: R, i < listed.size := fun i hi => by
      obtain ⟨o, ho, _⟩ := hg.op i hi
      rw [hsz]
      exact (Array.getElem?_eq_some_iff.1 ho).1
    have conv : ∀ i, i < listed.size → listed.getD i false = listed.getD i true := fun i h => by simp [h]
    -- one is ready
    have some_ready : ∀ m, ∀ k, k ≤ m → k ∈ rem → ∃ i, i ∈ Region.ready md ops listed := by
      intro m
      induction m with
      | zero =>
        intro k hk hkr
        obtain ⟨h1, h2⟩ := (hrem k).1 hkr
        obtain ⟨o, ho, _, ha, _⟩ := hg.op k h1
        exact ⟨k, mem_ready.2 ⟨h2, o, ho, fun e he hb => by have := (ha e he hb).1; omega⟩⟩
      | succ m ihm =>
        intro k hk hkr
        obtain ⟨h1, h2⟩ := (hrem k).1 hkr
        obtain ⟨o, ho, _, ha, _⟩ := hg.op k h1
        by_cases hall : ∀ e ∈ o.after, Region.binds md e = true → listed.getD e.on false = true
        · exact ⟨k, mem_ready.2 ⟨h2, o, ho, hall⟩⟩
        · have : ∃ e, e ∈ o.after ∧ Region.binds md e = true ∧ listed.getD e.on false ≠ true := by
            refine Classical.byContradiction fun hne => hall fun e he hb => Classical.byContradiction fun hx => hne ⟨e, he, hb, hx⟩
          obtain ⟨e, he, hb, hx⟩ := this
          have hlt := ha e he hb
          have hin : e.on < listed.size := Nat.lt_trans hlt.1 (inB k h1)
          rw [conv _ hin] at hx
          have hf : listed.getD e.on true = false := by simpa using hx
          exact ihm e.on (by omega) ((hrem e.on).2 ⟨(honly _ hf).resolve_right hlt.2, hf⟩)
    refine ⟨fun h0 => ?_, fun i hi => ?_⟩
    · obtain ⟨i, hi⟩ := some_ready t t (Nat.le_refl _) ((hrem t).2 ⟨by simp, ht⟩)
      rw [h0] at hi
      cases hi
    · obtain ⟨hun, o, ho, hdep⟩ := mem_ready.1 hi
      have hmem : i ∈ t :: R := by
        rcases honly i hun with h | h
        · exact h
        · obtain ⟨_, j, hj, hw⟩ := hg.behind i h
          obtain ⟨e, he, hb, hon⟩ := waits_after ho hw
          have := hdep e he hb
          have hlj : listed.getD j true = false := by
            rcases List.mem_cons.1 hj with rfl | h'
            · exact ht
            · exact hU j h'
          have hjs : j < listed.size := by
            rcases Nat.lt_or_ge j listed.size with h' | h'
            · exact h'
            · simp [Array.getElem?_eq_none h'] at hlj
          rw [hon, conv _ hjs, hlj] at this
          cases this
      obtain ⟨o', ho', hgd, haft, hlook⟩ := hg.op i hmem
      obtain rfl : o = o' := Option.some.inj (ho.symm.trans ho')
      have hdst : dstAt ops i = o.dst := by rw [dstAt, Array.getElem?_toList, ho]; rfl
      have listedOf : ∀ k ∈ t :: R, waits md ops i k = true → listed.getD k true = true := fun k hk hw => by
        obtain ⟨e, he, hb, hon⟩ := waits_after ho hw
        have := hdep e he hb
        rw [hon, conv _ (inB k hk)] at this
        exact this
      have hall := fill_all vals a R hnR.2 hdR
      have hwant : Region.wanted o (yielded ops a'.tmps) = true := by
        cases hgo : o.guard with
        | none => simp [Region.wanted, hgo]
        | some gb =>
          obtain ⟨g, b⟩ := gb
          obtain ⟨hgR, hgw⟩ := hgd g b hgo
          have hgl := listedOf g (by simp [hgR]) hgw
          obtain ⟨⟨d, hd, hlt⟩, hval⟩ := hgv i hmem o ho g b hgo
          have hv := hval _ _ (hG g hgR hgl)
          have ht := hinv.there g hgR hgl d hd hlt
          have hy : yielded ops a'.tmps g = some b := by
            unfold yielded
            rw [dstAt, Array.getElem?_toList] at hd
            rw [hd]
            simp only [Option.bind_some, ht, hv]
          simp [Region.wanted, hgo, hy]
      have hsel := fun cs b => hg.sel i o cs b ho
      have hsame : execOp a'.eval o = execOp (fill ops vals R a).eval o := by
        refine exec_same (ops := ops) hsel fun s hs => ?_
        rcases Nat.lt_or_ge s a.tmps.size with hlt | hge
        · by_cases he : ∃ k ∈ R, dstAt ops k = some s
          · obtain ⟨k, hkR, hd⟩ := he
            have hlk := listedOf k (by simp [hkR]) ((hlook k (by simp [hkR]) s hd).1 (fun e => hnR.1 (e ▸ hkR)) hs)
            rw [hinv.there k hkR hlk s hd hlt, hall.there k hkR hkR s hd hlt]
          · rw [hinv.same s fun k hk _ hd => he ⟨k, hk, hd⟩, hall.same s fun k hk _ hd => he ⟨k, hk, hd⟩]
        · rw [Array.getElem?_eq_none (by rw [hinv.size]; exact hge), Array.getElem?_eq_none (by rw [hall.size]; exact hge)]
      unfold wpOp
      simp only [ho, hwant, if_true]
      refine .inl ?_
      rcases List.mem_cons.1 hmem with rfl | hiR
      · -- t: all of R have come up
        have allL : ∀ m, ∀ j ∈ R, i - j ≤ m → listed.getD j true = true := by
          intro m
          induction m with
          | zero =>
            intro j hj hm
            obtain ⟨j', _, h1, h2, _⟩ := hg.sink j hj
            omega
          | succ m ihm =>
            intro j hj hm
            obtain ⟨j', hj', h1, h2, hw⟩ := hg.sink j hj
            rcases List.mem_cons.1 hj' with rfl | hj'R
            · exact listedOf j (by simp [hj]) hw
            · exact hclosed j' hj'R (ihm j' hj'R (by omega)) j hj hw
        have allL' : ∀ j ∈ R, listed.getD j true = true := fun j hj => allL _ j hj (Nat.le_refl _)
        have e : a' = fill ops vals R a := hinv.unique (hall.sub (fun k hk => by simp [hk, allL' k hk]) fun _ _ _ => rfl)
        rw [e]
        have hrem1 : rem.length = 1 := by
          have : rem = [i] := by
            have h1 : ∀ k ∈ rem, k = i := fun k hk => by
              obtain ⟨h1, h2⟩ := (hrem k).1 hk
              rcases List.mem_cons.1 h1 with h | h
              · exact h
              · rw [allL' k h] at h2; cases h2
            have h2 := (hrem i).2 ⟨by simp, ht⟩
            match rem, hn, h1, h2 with
            | [x], _, h1, _ => rw [h1 x (by simp)]
            | x :: y :: r, hn, h1, _ =>
              have e1 := h1 x (by simp)
              have e2 := h1 y (by simp)
              subst e1
              rw [e2] at hn
              simp at hn
          rw [this]; rfl
        have hfu : fuel = U.length := by omega
        have hmk : listed.setIfInBounds i true = markAll ops.size U := by
          apply Array.ext_getElem?
          intro k
          rcases Nat.lt_or_ge k ops.size with hk | hk
          · rw [markAll_at _ _ _ hk]
            by_cases hki : i = k
            · subst hki
              have hiU : i ∉ U := fun h => (hg.behind i h).1 (by simp)
              simp [inB i (by simp), hiU]
            · rw [Array.getElem?_setIfInBounds_ne hki]
              have hk' : k < listed.size := by rw [hsz]; exact hk
              by_cases hkU : k ∈ U
              · have := hU k hkU
                simp [hk'] at this
                simp [hk', this, hkU]
              · have : listed.getD k true = true := by
                  cases hx : listed.getD k true with
                  | true => rfl
                  | false =>
                    rcases honly k hx with h | h
                    · rcases List.mem_cons.1 h with h | h
                      · exact absurd h.symm hki
                      · rw [allL' k h] at hx; cases hx
                    · exact absurd h hkU
                simp [hk'] at this
                simp [hk', this, hkU]
          · rw [Array.getElem?_eq_none (by simp; omega), Array.getElem?_eq_none (by rw [markAll_size]; exact hk)]
        rw [hmk, hfu]
        exact fin o ho vals w' hgr fun j hj => hG j hj (allL' j hj)
      · have hti : i ≠ t := fun e => hnR.1 (e ▸ hiR)
        have hlt := inB i hmem
        refine wp_carry (a := fill ops vals R a) (R := fun v w'' => Gr w' w'' ∧ G i w'' v) (hinv.size.trans hall.size.symm) (hinv.defers.trans hall.defers.symm) hsame hQ (fun v w'' ⟨hgr', hGi⟩ => ?_) (fun K hK => (obs i hiR o ho vals w' hgr (fun j hj hw => hG j hj (listedOf j (by simp [hj]) hw)) K fun v w'' h1 h2 => hK v w'' ⟨h1, h2⟩).out)
        have hgr2 := trans _ _ _ hgr hgr'
        have atI : (listed.setIfInBounds i true).getD i true = true := by simp [hlt]
        have inv2 := hinv.step hiR (hdR i hiR) (by rw [hun]; simp) v
        rw [hdst] at inv2
        refine ⟨hS _ hgr2, ih (listed.setIfInBounds i true) _ w'' (fun k => if k = i then v else vals k) (rem.erase i) (by simpa using hsz) (hn.erase i) (fun k => ?_) (fun k hk => ?_) (fun u hu => ?_) ?_ (fun j hj hjl k hk hw => ?_) (inv2.sub (fun k hk => ?_) fun _ _ _ => rfl) hgr2 (fun j hj hjl => ?_) ?_⟩
        · rw [hn.mem_erase_iff]
          by_cases hki : i = k
          · subst hki; simp [hlt]
          · rw [getD_set_ne true hki, hrem k]
            exact ⟨fun h => h.2, fun h => ⟨fun e => hki e.symm, h⟩⟩
        · by_cases hki : i = k
          · subst hki; exact .inl hmem
          · rw [getD_set_ne true hki] at hk; exact honly k hk
        · have hne : i ≠ u := fun e => (hg.behind u hu).1 (e ▸ hmem)
          rw [getD_set_ne true hne]; exact hU u hu
        · rw [getD_set_ne true hti]; exact ht
        · by_cases hkk : i = k
          · subst hkk; exact atI
          · rw [getD_set_ne true hkk]
            by_cases hij : i = j
            · subst hij
              exact listedOf k (by simp [hk]) hw
            · rw [getD_set_ne true hij] at hjl
              exact hclosed j hj hjl k hk hw
        · by_cases hki : i = k
          · subst hki; simp [hlt]
          · rw [getD_set_ne true hki]
            exact ⟨.inl, fun h => h.resolve_right fun e => hki e.symm⟩
        · by_cases hij : i = j
          · subst hij; simpa using hGi
          · rw [getD_set_ne true hij] at hjl
            rw [if_neg fun e => hij e.symm]
            exact mono _ _ _ _ hgr' (hG j hj hjl)
        · have h1 : (rem.erase i).length = rem.length - 1 := List.length_erase_of_mem ((hrem i).2 ⟨hmem, hun⟩)
          have h2 : 0 < rem.length := List.length_pos_of_mem ((hrem i).2 ⟨hmem, hun⟩)
          omega

/-- Which operations are still to come up. -/
def leftOf (listed : Array Bool) : List Nat := (List.range listed.size).filter fun k => !listed.getD k true

/-- **THE LAW**, as it is used: behind the takes, 'listed' and the frame written out. -/
theorem wpAnyH_free {fuel : Nat} {listed : Array Bool} {a : Act} {w : World} (R : List Nat) (t : Nat) (U : List Nat) (Gr : World → World → Prop) (G : Nat → World → Value → Prop)
    (hB : (freeB md ops R t U && decide (listed.size = ops.size) && decide (leftOf listed = R ++ t :: U) && decide (R.length + 1 + U.length = fuel)) = true)
    (refl : Gr w w) (trans : ∀ w1 w2 w3, Gr w1 w2 → Gr w2 w3 → Gr w1 w3) (mono : ∀ k w1 w2 v, Gr w1 w2 → G k w1 v → G k w2 v) (hS : ∀ w', Gr w w' → S w')
    (hQ : ∀ c (t t' : Array Value) d w, Q (.panic c) ⟨t, d⟩ w → Q (.panic c) ⟨t', d⟩ w)
    (hgv : ∀ i ∈ t :: R, ∀ o, ops[i]? = some o → ∀ g b, o.guard = some (g, b) → (∃ d, dstAt ops g = some d ∧ d < a.tmps.size) ∧ ∀ w v, G g w v → v = .bool b)
    (obs : Obs P md ops Q Gr G a w R R)
    (fin : ∀ o, ops[t]? = some o → ∀ vals w', Gr w w' → (∀ j ∈ R, G j w' (vals j)) → Oper.wp P o (fill ops vals R a) w' (fun a'' w'' => S w'' ∧ wpAnyH P md ops Q S U.length (markAll ops.size U) a'' w'') Q) : wpAnyH P md ops Q S fuel listed a w := by
  simp only [Bool.and_eq_true, decide_eq_true_eq] at hB
  obtain ⟨⟨⟨hf, hsz⟩, hl⟩, hlen⟩ := hB
  have hg := freeB_spec hf
  have hleft : ∀ k, listed.getD k true = false ↔ k ∈ R ++ t :: U := fun k => by
    rw [← hl, leftOf, List.mem_filter, List.mem_range]
    constructor
    · intro h
      rcases Nat.lt_or_ge k listed.size with h' | h'
      · exact ⟨h', by simpa using h⟩
      · simp [Array.getElem?_eq_none h'] at h
    · intro h
      simpa using h.2
  have nodup : (R ++ [t]).Nodup := by
    have h := List.nodup_cons.1 hg.nodup
    rw [List.nodup_append]
    exact ⟨h.2, by simp, fun x hx y hy e => by simp at hy; subst hy e; exact h.1 hx⟩
  have unl : ∀ i ∈ R, listed.getD i true = false := fun i hi => (hleft i).2 (by simp [hi])
  exact wpAnyH_free_aux Gr G a w trans mono hS hQ hg hgv obs fin fuel listed a w (fun _ => undef) (R ++ [t]) hsz nodup
    (fun k => by
      rw [hleft]
      constructor
      · intro h
        rcases List.mem_append.1 h with h | h
        · simp [h]
        · simp at h; simp [h]
      · intro h
        rcases List.mem_cons.1 h.1 with h | h <;> simp [h])
    (fun k h => by
      have := (hleft k).1 h
      rcases List.mem_append.1 this with h | h
      · exact .inl (by simp [h])
      · rcases List.mem_cons.1 h with h | h
        · exact .inl (by simp [h])
        · exact .inr h)
    (fun u hu => (hleft u).2 (by simp [hu])) ((hleft t).2 (by simp)) (fun i hi h => by rw [unl i hi] at h; cases h)
    ((Inv.start R a _).sub (fun k hk => by rw [unl k hk]; simp) fun _ _ _ => rfl) refl (fun j hj h => by rw [unl j hj] at h; cases h) (by simpa using hlen)

/-- The guards' check. -/
def guardsB (ops : Array Oper) (R : List Nat) (t n : Nat) (gs : List (Nat × Bool)) : Bool := (t :: R).all fun i => match ops[i]? with
  | some o => match o.guard with
    | none => true
    | some (g, b) => gs.contains (g, b) && (match dstAt ops g with | some d => decide (d < n) | none => false)
  | none => true
theorem guardsB_spec {R : List Nat} {t n : Nat} {gs : List (Nat × Bool)} {G : Nat → World → Value → Prop} (h : guardsB ops R t n gs = true) (hgs : ∀ q ∈ gs, ∀ w v, G q.1 w v → v = .bool q.2) :
    ∀ i ∈ t :: R, ∀ o, ops[i]? = some o → ∀ g b, o.guard = some (g, b) → (∃ d, dstAt ops g = some d ∧ d < n) ∧ ∀ w v, G g w v → v = .bool b := by
  intro i hi o ho g b hgb
  have h1 := List.all_eq_true.1 h i hi
  simp only [ho, hgb, Bool.and_eq_true] at h1
  obtain ⟨hg, hd⟩ := h1
  refine ⟨?_, fun w v => hgs (g, b) (by simpa using hg) w v⟩
  cases hx : dstAt ops g with
  | none => rw [hx] at hd; cases hd
  | some d => rw [hx] at hd; exact ⟨d, rfl, of_decide_eq_true hd⟩

/-- A region from its beginning; its guards are of gs, which yield what is listed. -/
theorem wp_region_freeP {id : Nat} {l : List Oper} {a : Act} {w : World} (R : List Nat) (t : Nat) (U : List Nat) (gs : List (Nat × Bool)) (Gr : World → World → Prop) (G : Nat → World → Value → Prop) (hm : P.follows .mixedOrders = true)
    (hB : (freeB .any l.toArray R t U && decide (List.range l.length = R ++ t :: U) && guardsB l.toArray R t a.tmps.size gs) = true)
    (hgs : ∀ q ∈ gs, ∀ w v, G q.1 w v → v = .bool q.2)
    (refl : Gr w.drew w.drew) (trans : ∀ w1 w2 w3, Gr w1 w2 → Gr w2 w3 → Gr w1 w3) (mono : ∀ k w1 w2 v, Gr w1 w2 → G k w1 v → G k w2 v)
    (hQ : ∀ c (t t' : Array Value) d w, Q (.panic c) ⟨t, d⟩ w → Q (.panic c) ⟨t', d⟩ w)
    (obs : Obs P .any l.toArray Q Gr G a w.drew R R)
    (ot : Oper) (hot : l[t]? = some ot) (fin : ∀ vals w', Gr w.drew w' → (∀ j ∈ R, G j w' (vals j)) → Step P ot (fill l.toArray vals R a) w' (fun a'' w'' => wpAnyH P .any l.toArray Q (fun _ => True) U.length (markAll l.toArray.size U) a'' w'') Q) : (Code.region id l.toArray true).wp P Q a w := by
  refine wp_region_held_drew (S := fun _ => True) hm trivial fun _ => ?_
  simp only [Bool.and_eq_true, decide_eq_true_eq] at hB
  obtain ⟨hB, hgB⟩ := hB
  have hlen : l.length = R.length + 1 + U.length := by
    have := congrArg List.length hB.2
    simp at this
    omega
  refine wpAnyH_free R t U Gr G ?_ refl trans mono (fun _ _ => trivial) hQ (guardsB_spec hgB hgs) obs (fun o ho vals w' h1 h2 => by
    rw [← Array.getElem?_toList] at ho
    obtain rfl := Option.some.inj (hot.symm.trans ho)
    exact Oper.wp_mono (fun a w h => ⟨trivial, h⟩) (fin vals w' h1 h2).out)
  simp only [Bool.and_eq_true, decide_eq_true_eq]
  refine ⟨⟨⟨hB.1, by simp⟩, ?_⟩, by simp; omega⟩
  rw [← hB.2, leftOf]
  simp only [Array.size_replicate, List.size_toArray]
  refine List.filter_eq_self.2 fun k hk => ?_
  have : k < l.length := by simpa using hk
  simp [this]

/-- A region from its beginning; its guards are of gs, which all yield true. -/
theorem wp_region_freeG {id : Nat} {l : List Oper} {a : Act} {w : World} (R : List Nat) (t : Nat) (U : List Nat) (gs : List Nat) (Gr : World → World → Prop) (G : Nat → World → Value → Prop) (hm : P.follows .mixedOrders = true)
    (hB : (freeB .any l.toArray R t U && decide (List.range l.length = R ++ t :: U) && guardsB l.toArray R t a.tmps.size (gs.map fun g => (g, true))) = true)
    (hgs : ∀ g ∈ gs, ∀ w v, G g w v → v = .bool true)
    (refl : Gr w.drew w.drew) (trans : ∀ w1 w2 w3, Gr w1 w2 → Gr w2 w3 → Gr w1 w3) (mono : ∀ k w1 w2 v, Gr w1 w2 → G k w1 v → G k w2 v)
    (hQ : ∀ c (t t' : Array Value) d w, Q (.panic c) ⟨t, d⟩ w → Q (.panic c) ⟨t', d⟩ w)
    (obs : Obs P .any l.toArray Q Gr G a w.drew R R)
    (ot : Oper) (hot : l[t]? = some ot) (fin : ∀ vals w', Gr w.drew w' → (∀ j ∈ R, G j w' (vals j)) → Step P ot (fill l.toArray vals R a) w' (fun a'' w'' => wpAnyH P .any l.toArray Q (fun _ => True) U.length (markAll l.toArray.size U) a'' w'') Q) : (Code.region id l.toArray true).wp P Q a w := by
  exact wp_region_freeP R t U (gs.map fun g => (g, true)) Gr G hm hB (fun q hq => by
    obtain ⟨g, hg, rfl⟩ := List.mem_map.1 hq
    exact hgs g hg) refl trans mono hQ obs ot hot fin

/-- A region from its beginning. -/
theorem wp_region_free {id : Nat} {l : List Oper} {a : Act} {w : World} (R : List Nat) (t : Nat) (U : List Nat) (Gr : World → World → Prop) (G : Nat → World → Value → Prop) (hm : P.follows .mixedOrders = true)
    (hB : (freeB .any l.toArray R t U && decide (List.range l.length = R ++ t :: U) && guardsB l.toArray R t a.tmps.size []) = true)
    (refl : Gr w.drew w.drew) (trans : ∀ w1 w2 w3, Gr w1 w2 → Gr w2 w3 → Gr w1 w3) (mono : ∀ k w1 w2 v, Gr w1 w2 → G k w1 v → G k w2 v)
    (hQ : ∀ c (t t' : Array Value) d w, Q (.panic c) ⟨t, d⟩ w → Q (.panic c) ⟨t', d⟩ w)
    (obs : Obs P .any l.toArray Q Gr G a w.drew R R)
    (ot : Oper) (hot : l[t]? = some ot) (fin : ∀ vals w', Gr w.drew w' → (∀ j ∈ R, G j w' (vals j)) → Step P ot (fill l.toArray vals R a) w' (fun a'' w'' => wpAnyH P .any l.toArray Q (fun _ => True) U.length (markAll l.toArray.size U) a'' w'') Q) : (Code.region id l.toArray true).wp P Q a w := by
  exact wp_region_freeG R t U [] Gr G hm hB (fun g hg => by cases hg) refl trans mono hQ obs ot hot fin

/-- The obligations, one by one. -/
theorem obs_cons {R0 : List Nat} {Gr : World → World → Prop} {G : Nat → World → Value → Prop} {a : Act} {w : World} {i : Nat} {R : List Nat} {o : Oper} (ho : ops.toList[i]? = some o)
    (h : ∀ vals w', Gr w w' → (∀ j ∈ R0, waits md ops i j = true → G j w' (vals j)) → ∀ K : Act → World → Prop, (∀ v w'', Gr w' w'' → G i w'' v → K ((fill ops vals R0 a).put o.dst v) w'') → Step P o (fill ops vals R0 a) w' K Q)
    (hs : Obs P md ops Q Gr G a w R0 R) : Obs P md ops Q Gr G a w R0 (i :: R) := fun j hj => by
  rcases List.mem_cons.1 hj with rfl | hj
  · intro o' ho'
    rw [← Array.getElem?_toList] at ho'
    obtain rfl := Option.some.inj (ho.symm.trans ho')
    exact h
  · exact hs j hj
theorem obs_nil {R0 : List Nat} {Gr : World → World → Prop} {G : Nat → World → Value → Prop} {a : Act} {w : World} : Obs P md ops Q Gr G a w R0 [] := fun j hj => by cases hj

/-- An operation that yields a value in the very world. -/
theorem wp_value' {o : Oper} {a : Act} {w : World} {K : Act → World → Prop} (v : Value) (h : (execOp a.eval o).run P w = .ok (.value v) w) (hK : K (a.put o.dst v) w) : Oper.wp P o a w K Q := by
  unfold Oper.wp
  rw [h]
  exact hK

theorem wp_value {o : Oper} {a : Act} {w : World} {K : Act → World → Prop} (v : Value) (h : (execOp a.eval o).run P w = .ok (.value v) w) (hK : K (a.put o.dst v) w) : Step P o a w K Q := ⟨wp_value' v h hK⟩

/-- What comes behind: one assignment. -/
theorem wpAnyH_assign {u : Nat} {listed : Array Bool} {a : Act} {w : World} {o : Oper} (x : Operand) (v : Value) (ho' : ops.toList[u]? = some o) (hop : o.op = .assign x) (hg : o.guard = none)
    (hr : (decide (Region.ready md ops listed = [u]) && decide (Region.ready md ops (listed.setIfInBounds u true) = [])) = true) (hS : S w) (hv : a.eval x = v) (h : Q .normal (a.put o.dst v) w) : wpAnyH P md ops Q S 1 listed a w := by
  have ho : ops[u]? = some o := by rw [← Array.getElem?_toList]; exact ho'
  simp only [Bool.and_eq_true, decide_eq_true_eq] at hr
  refine wpAnyH_ready hr.1 (by simp) (AllReadyH.cons ho (fun K hK => ?_) AllReadyH.nil)
  have hw : Region.wanted o (yielded ops a.tmps) = true := by simp [Region.wanted, hg]
  rw [if_pos hw]
  refine wp_value' v ?_ (hK.out _ _ hS fun _ => wpAnyH_done hr.2 h _)
  simp [execOp, hop, hv]

/-- What comes behind, one by one. -/
theorem wpAnyH_next {fuel : Nat} {listed : Array Bool} {a : Act} {w : World} (u : Nat) (o : Oper) (ho' : ops.toList[u]? = some o) (hg : o.guard = none) (hr : decide (Region.ready md ops listed = [u]) = true)
    (h : Step P o a w (fun a' w' => S w' ∧ wpAnyH P md ops Q S fuel (listed.setIfInBounds u true) a' w') Q) : wpAnyH P md ops Q S (fuel + 1) listed a w := by
  have ho : ops[u]? = some o := by rw [← Array.getElem?_toList]; exact ho'
  refine wpAnyH_ready (of_decide_eq_true hr) (by simp) (AllReadyH.cons ho (fun K hK => ?_) AllReadyH.nil)
  have hw : Region.wanted o (yielded ops a.tmps) = true := by simp [Region.wanted, hg]
  rw [if_pos hw]
  exact Oper.wp_mono (fun a' w' hh => hK.out _ _ hh.1 fun _ => hh.2) h.out

theorem st_assign {o : Oper} {a : Act} {w : World} {K : Act → World → Prop} (x : Operand) (v : Value) (hop : o.op = .assign x) (hv : a.eval x = v) (hK : K (a.put o.dst v) w) : Step P o a w K Q :=
  wp_value v (by simp [execOp, hop, hv]) hK

/-- .. two assignments. -/
theorem wpAnyH_assign2 {listed : Array Bool} {a : Act} {w : World} (u1 u2 : Nat) {o1 o2 : Oper} (x1 x2 : Operand) (v1 v2 : Value) (ho1 : ops.toList[u1]? = some o1) (ho2 : ops.toList[u2]? = some o2) (hop1 : o1.op = .assign x1) (hop2 : o2.op = .assign x2) (g1 : o1.guard = none) (g2 : o2.guard = none)
    (r1 : decide (Region.ready md ops listed = [u1]) = true) (r2 : decide (Region.ready md ops (listed.setIfInBounds u1 true) = [u2]) = true) (r3 : decide (Region.ready md ops ((listed.setIfInBounds u1 true).setIfInBounds u2 true) = []) = true) (hS : S w)
    (e1 : a.eval x1 = v1) (e2 : (a.put o1.dst v1).eval x2 = v2) (h : Q .normal ((a.put o1.dst v1).put o2.dst v2) w) : wpAnyH P md ops Q S 2 listed a w :=
  wpAnyH_next u1 o1 ho1 g1 r1 (st_assign x1 v1 hop1 e1 ⟨hS, wpAnyH_next u2 o2 ho2 g2 r2 (st_assign x2 v2 hop2 e2 ⟨hS, wpAnyH_done (of_decide_eq_true r3) h _⟩)⟩)

/-- What stands in the filled frame: the check is computed by the kernel. -/
def atB (ops : Array Oper) (R : List Nat) (n k s : Nat) : Bool := R.contains k && dstAt ops k == some s && decide (s < n) && decide R.Nodup && (R.all fun j => R.all fun i => i == j || (match dstAt ops i with | some d => dstAt ops j != some d | none => true))
theorem at_dst {vals : Nat → Value} {R : List Nat} {a : Act} {s : Nat} (k : Nat) (h : atB ops R a.tmps.size k s = true) : (fill ops vals R a).eval (.tmp s) = vals k := by
  simp only [atB, Bool.and_eq_true, decide_eq_true_eq, beq_iff_eq, List.contains_iff_mem] at h
  obtain ⟨⟨⟨⟨hk, hd⟩, hs⟩, hn⟩, hall⟩ := h
  have hdR : ∀ i ∈ R, ∀ k ∈ R, k ≠ i → ∀ d, dstAt ops k = some d → dstAt ops i ≠ some d := fun i hi k hk hne d hd => by
    have := List.all_eq_true.1 (List.all_eq_true.1 hall i hi) k hk
    rw [hd] at this
    simp only [Bool.or_eq_true, beq_iff_eq, bne_iff_ne, ne_eq] at this
    exact this.resolve_left hne
  have := (fill_all vals a R hn hdR).there k hk hk s hd hs
  simp only [Act.eval, Array.getD_eq_getD_getElem?, this, Option.getD_some]
def outB (ops : Array Oper) (R : List Nat) (s : Nat) : Bool := decide R.Nodup && (R.all fun j => R.all fun i => i == j || (match dstAt ops i with | some d => dstAt ops j != some d | none => true)) && R.all fun k => dstAt ops k != some s
theorem at_out {vals : Nat → Value} {R : List Nat} {a : Act} {s : Nat} (v : Value) (h : outB ops R s = true) (hv : a.eval (.tmp s) = v) : (fill ops vals R a).eval (.tmp s) = v := by
  simp only [outB, Bool.and_eq_true, decide_eq_true_eq] at h
  obtain ⟨⟨hn, hall⟩, ho⟩ := h
  have hdR : ∀ i ∈ R, ∀ k ∈ R, k ≠ i → ∀ d, dstAt ops k = some d → dstAt ops i ≠ some d := fun i hi k hk hne d hd => by
    have := List.all_eq_true.1 (List.all_eq_true.1 hall i hi) k hk
    rw [hd] at this
    simp only [Bool.or_eq_true, beq_iff_eq, bne_iff_ne, ne_eq] at this
    exact this.resolve_left hne
  have := (fill_all vals a R hn hdR).same s fun k hk _ => by simpa using List.all_eq_true.1 ho k hk
  rw [← hv]
  simp only [Act.eval, Array.getD_eq_getD_getElem?, this]
theorem put_tmps_ne {a : Act} {d s : Nat} {v u : Value} (h : (d != s) = true) (hv : a.eval (.tmp s) = u) : (a.put (some d) v).eval (.tmp s) = u := by
  have h' : d ≠ s := by simpa using h
  rw [← hv]
  simp [Act.eval, Act.put, Array.getElem?_setIfInBounds_ne h']

theorem fill_size (vals : Nat → Value) : ∀ (R : List Nat) (a : Act), (fill ops vals R a).tmps.size = a.tmps.size
  | [], _ => rfl
  | k :: r, a => by
    rw [fill, fill_size vals r]
    cases dstAt ops k <;> simp [Act.put]
theorem put_tmps_eq {a : Act} {d n : Nat} {v : Value} (hn : a.tmps.size = n) (h : decide (d < n) = true) : (a.put (some d) v).eval (.tmp d) = v := by
  have h' : d < a.tmps.size := by rw [hn]; exact of_decide_eq_true h
  simp [Act.eval, Act.put, h']
theorem map_fill {vals : Nat → Value} {R : List Nat} {a : Act} (ps : List (Nat × Nat × Nat)) (h : (ps.all fun q => atB ops R a.tmps.size q.2.2 q.2.1) = true) :
    (ps.map fun q => (q.1, Operand.tmp q.2.1)).map (fun q => (q.1, (fill ops vals R a).eval q.2)) = ps.map fun q => (q.1, vals q.2.2) := by
  rw [List.map_map]
  refine List.map_congr_left fun q hq => ?_
  simp only [Function.comp]
  rw [at_dst q.2.2 (List.all_eq_true.1 h q hq)]

theorem put_none {a : Act} {x : Operand} {v u : Value} (h : a.eval x = u) : (a.put none v).eval x = u := h
theorem put_size {a : Act} {d : Option Tmp} {v : Value} {n : Nat} (h : a.tmps.size = n) : (a.put d v).tmps.size = n := by
  cases d <;> simp [Act.put, h]

theorem put_defs {a : Act} {d : Option Tmp} {v : Value} {n : List Deferred} (h : a.defers = n) : (a.put d v).defers = n := by
  cases d <;> simpa [Act.put] using h
theorem fill_defs (vals : Nat → Value) : ∀ (R : List Nat) (a : Act), (fill ops vals R a).defers = a.defers
  | [], _ => rfl
  | k :: r, a => by
    rw [fill, fill_defs vals r]
    cases dstAt ops k <;> simp [Act.put]

end
end Go.Proofs.YtjeenmeoiidmnaaDoor.Free
