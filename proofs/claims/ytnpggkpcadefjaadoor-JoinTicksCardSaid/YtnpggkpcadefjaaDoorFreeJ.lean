/- The free law, with what holds told by WHICH operations have come up, by WHAT THEY HAVE GIVEN, and by the world, all together: 'I L vals w', L i: i has; vals i: its value. So two blocks that are made in any order are told apart, and what a value says of the world may be undone by a later operation. My own law. -/
import Derived.Test.YtnpggkpcadefjaaDoorFree
set_option linter.unusedVariables false
namespace Go.Proofs.YtnpggkpcadefjaaDoor.FreeJ
open Go Go.Proofs.YtnpggkpcadefjaaDoor.Free
section
variable {P : Program} {ops : Array Oper} {md : Region.Mode} {Q : Exit → Act → World → Prop} {S : World → Prop}
/-- i has come up, too. -/
def mark (L : Nat → Bool) (i : Nat) : Nat → Bool := fun k => if k = i then true else L k
/-- i's value is v. -/
def upd (vals : Nat → Value) (i : Nat) (v : Value) : Nat → Value := fun k => if k = i then v else vals k
/-- What is to be shown of each of some operations. -/
def ObsJ (P : Program) (md : Region.Mode) (ops : Array Oper) (Q : Exit → Act → World → Prop) (I : (Nat → Bool) → (Nat → Value) → World → Prop) (V : Nat → Value → Prop) (a : Act) (R RR : List Nat) : Prop :=
  ∀ i ∈ RR, ∀ o, ops[i]? = some o → ∀ vals w' L, I L vals w' → L i = false → (∀ j ∈ R, waits md ops i j = true → L j = true ∧ V j (vals j)) → ∀ K : Act → World → Prop, (∀ v w'', I (mark L i) (upd vals i v) w'' → V i v → K ((fill ops vals R a).put o.dst v) w'') → Step P o (fill ops vals R a) w' K Q

/-- **THE LAW.** R: the operations that are still to come up, ahead of t; U: what comes behind t. -/
theorem wpAnyH_freeJ_aux {R : List Nat} {t : Nat} {U : List Nat} (I : (Nat → Bool) → (Nat → Value) → World → Prop) (V : Nat → Value → Prop) (a : Act)
    (hS : ∀ L vals w', I L vals w' → S w')
    (hQ : ∀ c (t t' : Array Value) d w, Q (.panic c) ⟨t, d⟩ w → Q (.panic c) ⟨t', d⟩ w) (hg : Good md ops R t U)
    (hgv : ∀ i ∈ t :: R, ∀ o, ops[i]? = some o → ∀ g b, o.guard = some (g, b) → (∃ d, dstAt ops g = some d ∧ d < a.tmps.size) ∧ ∀ v, V g v → v = .bool b)
    (obs : ObsJ P md ops Q I V a R R)
    (fin : ∀ o, ops[t]? = some o → ∀ vals w' L, I L vals w' → (∀ j ∈ R, L j = true) → (∀ j ∈ R, V j (vals j)) → Oper.wp P o (fill ops vals R a) w' (fun a'' w'' => S w'' ∧ wpAnyH P md ops Q S U.length (markAll ops.size U) a'' w'') Q) :
    ∀ (fuel : Nat) (listed : Array Bool) (a' : Act) (w' : World) (vals : Nat → Value) (rem : List Nat), listed.size = ops.size → rem.Nodup → (∀ k, k ∈ rem ↔ k ∈ t :: R ∧ listed.getD k true = false) → (∀ k, listed.getD k true = false → k ∈ t :: R ∨ k ∈ U) → (∀ u ∈ U, listed.getD u true = false) → listed.getD t true = false →
      (∀ i ∈ R, listed.getD i true = true → ∀ k ∈ R, waits md ops i k = true → listed.getD k true = true) →
      Inv ops R a (fun k => listed.getD k true = true) vals a' → I (fun k => listed.getD k true) vals w' → (∀ j ∈ R, listed.getD j true = true → V j (vals j)) → rem.length + U.length = fuel → wpAnyH P md ops Q S fuel listed a' w' := by
  have hnR := (List.nodup_cons.1 hg.nodup)
  have hdR : ∀ i ∈ R, ∀ k ∈ R, k ≠ i → ∀ d, dstAt ops k = some d → dstAt ops i ≠ some d := fun i hi k hk hne d hd => by
    obtain ⟨o, _, _, _, h⟩ := hg.op i (by simp [hi])
    exact (h k (by simp [hk]) d hd).2 hne
  intro fuel
  induction fuel with
  | zero =>
    intro listed a' w' vals rem _ hn hrem _ _ ht _ _ _ _ hlen
    have : rem = [] := List.eq_nil_of_length_eq_zero (by omega)
    have h := (hrem t).2 ⟨by simp, ht⟩
    rw [this] at h
    cases h
  | succ fuel ih =>
    intro listed a' w' vals rem hsz hn hrem honly hU ht hclosed hinv hI hG hlen
    have inB : ∀ i ∈ t :: R, i < listed.size := fun i hi => by
      obtain ⟨o, ho, _⟩ := hg.op i hi
      rw [hsz]
      exact (Array.getElem?_eq_some_iff.1 ho).1
    have conv : ∀ i, i < listed.size → listed.getD i false = listed.getD i true := fun i h => by simp [h]
    -- one is ready
    have some_ready : ∀ m, ∀ k, k ≤ m → k ∈ rem → ∃ i, i ∈ Region.ready md ops listed := by
      intro m
      induction m with
      | zero =>
        intro k hk hkr
        obtain ⟨h1, h2⟩ := (hrem k).1 hkr
        obtain ⟨o, ho, _, ha, _⟩ := hg.op k h1
        exact ⟨k, mem_ready.2 ⟨h2, o, ho, fun e he hb => by have := (ha e he hb).1; omega⟩⟩
      | succ m ihm =>
        intro k hk hkr
        obtain ⟨h1, h2⟩ := (hrem k).1 hkr
        obtain ⟨o, ho, _, ha, _⟩ := hg.op k h1
        by_cases hall : ∀ e ∈ o.after, Region.binds md e = true → listed.getD e.on false = true
        · exact ⟨k, mem_ready.2 ⟨h2, o, ho, hall⟩⟩
        · have : ∃ e, e ∈ o.after ∧ Region.binds md e = true ∧ listed.getD e.on false ≠ true := by
            refine Classical.byContradiction fun hne => hall fun e he hb => Classical.byContradiction fun hx => hne ⟨e, he, hb, hx⟩
          obtain ⟨e, he, hb, hx⟩ := this
          have hlt := ha e he hb
          have hin : e.on < listed.size := Nat.lt_trans hlt.1 (inB k h1)
          rw [conv _ hin] at hx
          have hf : listed.getD e.on true = false := by simpa using hx
          exact ihm e.on (by omega) ((hrem e.on).2 ⟨(honly _ hf).resolve_right hlt.2, hf⟩)
    refine ⟨fun h0 => ?_, fun i hi => ?_⟩
    · obtain ⟨i, hi⟩ := some_ready t t (Nat.le_refl _) ((hrem t).2 ⟨by simp, ht⟩)
      rw [h0] at hi
      cases hi
    · obtain ⟨hun, o, ho, hdep⟩ := mem_ready.1 hi
      have hmem : i ∈ t :: R := by
        rcases honly i hun with h | h
        · exact h
        · obtain ⟨_, j, hj, hw⟩ := hg.behind i h
          obtain ⟨e, he, hb, hon⟩ := waits_after ho hw
          have := hdep e he hb
          have hlj : listed.getD j true = false := by
            rcases List.mem_cons.1 hj with rfl | h'
            · exact ht
            · exact hU j h'
          have hjs : j < listed.size := by
            rcases Nat.lt_or_ge j listed.size with h' | h'
            · exact h'
            · simp [Array.getElem?_eq_none h'] at hlj
          rw [hon, conv _ hjs, hlj] at this
          cases this
      obtain ⟨o', ho', hgd, haft, hlook⟩ := hg.op i hmem
      obtain rfl : o = o' := Option.some.inj (ho.symm.trans ho')
      have hdst : dstAt ops i = o.dst := by rw [dstAt, Array.getElem?_toList, ho]; rfl
      have listedOf : ∀ k ∈ t :: R, waits md ops i k = true → listed.getD k true = true := fun k hk hw => by
        obtain ⟨e, he, hb, hon⟩ := waits_after ho hw
        have := hdep e he hb
        rw [hon, conv _ (inB k hk)] at this
        exact this
      have hall := fill_all vals a R hnR.2 hdR
      have hwant : Region.wanted o (yielded ops a'.tmps) = true := by
        cases hgo : o.guard with
        | none => simp [Region.wanted, hgo]
        | some gb =>
          obtain ⟨g, b⟩ := gb
          obtain ⟨hgR, hgw⟩ := hgd g b hgo
          have hgl := listedOf g (by simp [hgR]) hgw
          obtain ⟨⟨d, hd, hlt⟩, hval⟩ := hgv i hmem o ho g b hgo
          have hv := hval _ (hG g hgR hgl)
          have ht := hinv.there g hgR hgl d hd hlt
          have hy : yielded ops a'.tmps g = some b := by
            unfold yielded
            rw [dstAt, Array.getElem?_toList] at hd
            rw [hd]
            simp only [Option.bind_some, ht, hv]
          simp [Region.wanted, hgo, hy]
      have hsel := fun cs b => hg.sel i o cs b ho
      have hsame : execOp a'.eval o = execOp (fill ops vals R a).eval o := by
        refine exec_same (ops := ops) hsel fun s hs => ?_
        rcases Nat.lt_or_ge s a.tmps.size with hlt | hge
        · by_cases he : ∃ k ∈ R, dstAt ops k = some s
          · obtain ⟨k, hkR, hd⟩ := he
            have hlk := listedOf k (by simp [hkR]) ((hlook k (by simp [hkR]) s hd).1 (fun e => hnR.1 (e ▸ hkR)) hs)
            rw [hinv.there k hkR hlk s hd hlt, hall.there k hkR hkR s hd hlt]
          · rw [hinv.same s fun k hk _ hd => he ⟨k, hk, hd⟩, hall.same s fun k hk _ hd => he ⟨k, hk, hd⟩]
        · rw [Array.getElem?_eq_none (by rw [hinv.size]; exact hge), Array.getElem?_eq_none (by rw [hall.size]; exact hge)]
      unfold wpOp
      simp only [ho, hwant, if_true]
      refine .inl ?_
      rcases List.mem_cons.1 hmem with rfl | hiR
      · -- t: all of R have come up
        have allL : ∀ m, ∀ j ∈ R, i - j ≤ m → listed.getD j true = true := by
          intro m
          induction m with
          | zero =>
            intro j hj hm
            obtain ⟨j', _, h1, h2, _⟩ := hg.sink j hj
            omega
          | succ m ihm =>
            intro j hj hm
            obtain ⟨j', hj', h1, h2, hw⟩ := hg.sink j hj
            rcases List.mem_cons.1 hj' with rfl | hj'R
            · exact listedOf j (by simp [hj]) hw
            · exact hclosed j' hj'R (ihm j' hj'R (by omega)) j hj hw
        have allL' : ∀ j ∈ R, listed.getD j true = true := fun j hj => allL _ j hj (Nat.le_refl _)
        have e : a' = fill ops vals R a := hinv.unique (hall.sub (fun k hk => by simp [hk, allL' k hk]) fun _ _ _ => rfl)
        rw [e]
        have hrem1 : rem.length = 1 := by
          have : rem = [i] := by
            have h1 : ∀ k ∈ rem, k = i := fun k hk => by
              obtain ⟨h1, h2⟩ := (hrem k).1 hk
              rcases List.mem_cons.1 h1 with h | h
              · exact h
              · rw [allL' k h] at h2; cases h2
            have h2 := (hrem i).2 ⟨by simp, ht⟩
            match rem, hn, h1, h2 with
            | [x], _, h1, _ => rw [h1 x (by simp)]
            | x :: y :: r, hn, h1, _ =>
              have e1 := h1 x (by simp)
              have e2 := h1 y (by simp)
              subst e1
              rw [e2] at hn
              simp at hn
          rw [this]; rfl
        have hfu : fuel = U.length := by omega
        have hmk : listed.setIfInBounds i true = markAll ops.size U := by
          apply Array.ext_getElem?
          intro k
          rcases Nat.lt_or_ge k ops.size with hk | hk
          · rw [markAll_at _ _ _ hk]
            by_cases hki : i = k
            · subst hki
              have hiU : i ∉ U := fun h => (hg.behind i h).1 (by simp)
              simp [inB i (by simp), hiU]
            · rw [Array.getElem?_setIfInBounds_ne hki]
              have hk' : k < listed.size := by rw [hsz]; exact hk
              by_cases hkU : k ∈ U
              · have := hU k hkU
                simp [hk'] at this
                simp [hk', this, hkU]
              · have : listed.getD k true = true := by
                  cases hx : listed.getD k true with
                  | true => rfl
                  | false =>
                    rcases honly k hx with h | h
                    · rcases List.mem_cons.1 h with h | h
                      · exact absurd h.symm hki
                      · rw [allL' k h] at hx; cases hx
                    · exact absurd h hkU
                simp [hk'] at this
                simp [hk', this, hkU]
          · rw [Array.getElem?_eq_none (by simp; omega), Array.getElem?_eq_none (by rw [markAll_size]; exact hk)]
        rw [hmk, hfu]
        exact fin o ho vals w' _ hI allL' fun j hj => hG j hj (allL' j hj)
      · have hti : i ≠ t := fun e => hnR.1 (e ▸ hiR)
        have hlt := inB i hmem
        refine wp_carry (a := fill ops vals R a) (R := fun v w'' => I (mark (fun k => listed.getD k true) i) (upd vals i v) w'' ∧ V i v) (hinv.size.trans hall.size.symm) (hinv.defers.trans hall.defers.symm) hsame hQ (fun v w'' ⟨hI', hVi⟩ => ?_) (fun K hK => (obs i hiR o ho vals w' _ hI hun (fun j hj hw => ⟨listedOf j (by simp [hj]) hw, hG j hj (listedOf j (by simp [hj]) hw)⟩) K fun v w'' h1 h2 => hK v w'' ⟨h1, h2⟩).out)
        have atI : (listed.setIfInBounds i true).getD i true = true := by simp [hlt]
        have hI2 : I (fun k => (listed.setIfInBounds i true).getD k true) (upd vals i v) w'' := by
          have e : (fun k => (listed.setIfInBounds i true).getD k true) = mark (fun k => listed.getD k true) i := by
            funext k
            unfold mark
            by_cases hki : i = k
            · subst hki; rw [atI, if_pos rfl]
            · rw [getD_set_ne true hki, if_neg fun e => hki e.symm]
          rw [e]
          exact hI'
        have inv2 := hinv.step hiR (hdR i hiR) (by rw [hun]; simp) v
        rw [hdst] at inv2
        refine ⟨hS _ _ _ hI2, ih (listed.setIfInBounds i true) _ w'' (upd vals i v) (rem.erase i) (by simpa using hsz) (hn.erase i) (fun k => ?_) (fun k hk => ?_) (fun u hu => ?_) ?_ (fun j hj hjl k hk hw => ?_) (inv2.sub (fun k hk => ?_) fun _ _ _ => rfl) hI2 (fun j hj hjl => ?_) ?_⟩
        · rw [hn.mem_erase_iff]
          by_cases hki : i = k
          · subst hki; simp [hlt]
          · rw [getD_set_ne true hki, hrem k]
            exact ⟨fun h => h.2, fun h => ⟨fun e => hki e.symm, h⟩⟩
        · by_cases hki : i = k
          · subst hki; exact .inl hmem
          · rw [getD_set_ne true hki] at hk; exact honly k hk
        · have hne : i ≠ u := fun e => (hg.behind u hu).1 (e ▸ hmem)
          rw [getD_set_ne true hne]; exact hU u hu
        · rw [getD_set_ne true hti]; exact ht
        · by_cases hkk : i = k
          · subst hkk; exact atI
          · rw [getD_set_ne true hkk]
            by_cases hij : i = j
            · subst hij
              exact listedOf k (by simp [hk]) hw
            · rw [getD_set_ne true hij] at hjl
              exact hclosed j hj hjl k hk hw
        · by_cases hki : i = k
          · subst hki; simp [hlt]
          · rw [getD_set_ne true hki]
            exact ⟨.inl, fun h => h.resolve_right fun e => hki e.symm⟩
        · by_cases hij : i = j
          · subst hij; simpa [upd] using hVi
          · rw [getD_set_ne true hij] at hjl
            unfold upd
            rw [if_neg fun e => hij e.symm]
            exact hG j hj hjl
        · have h1 : (rem.erase i).length = rem.length - 1 := List.length_erase_of_mem ((hrem i).2 ⟨hmem, hun⟩)
          have h2 : 0 < rem.length := List.length_pos_of_mem ((hrem i).2 ⟨hmem, hun⟩)
          omega

/-- **THE LAW**, as it is used: behind the takes, 'listed' and the frame written out. -/
theorem wpAnyH_freeJ {fuel : Nat} {listed : Array Bool} {a : Act} {w : World} (R : List Nat) (t : Nat) (U : List Nat) (I : (Nat → Bool) → (Nat → Value) → World → Prop) (V : Nat → Value → Prop)
    (hB : (freeB md ops R t U && decide (listed.size = ops.size) && decide (leftOf listed = R ++ t :: U) && decide (R.length + 1 + U.length = fuel)) = true)
    (start : ∀ L vals, (∀ j ∈ R, L j = false) → I L vals w) (hS : ∀ L vals w', I L vals w' → S w')
    (hQ : ∀ c (t t' : Array Value) d w, Q (.panic c) ⟨t, d⟩ w → Q (.panic c) ⟨t', d⟩ w)
    (hgv : ∀ i ∈ t :: R, ∀ o, ops[i]? = some o → ∀ g b, o.guard = some (g, b) → (∃ d, dstAt ops g = some d ∧ d < a.tmps.size) ∧ ∀ v, V g v → v = .bool b)
    (obs : ObsJ P md ops Q I V a R R)
    (fin : ∀ o, ops[t]? = some o → ∀ vals w' L, I L vals w' → (∀ j ∈ R, L j = true) → (∀ j ∈ R, V j (vals j)) → Oper.wp P o (fill ops vals R a) w' (fun a'' w'' => S w'' ∧ wpAnyH P md ops Q S U.length (markAll ops.size U) a'' w'') Q) : wpAnyH P md ops Q S fuel listed a w := by
  simp only [Bool.and_eq_true, decide_eq_true_eq] at hB
  obtain ⟨⟨⟨hf, hsz⟩, hl⟩, hlen⟩ := hB
  have hg := freeB_spec hf
  have hleft : ∀ k, listed.getD k true = false ↔ k ∈ R ++ t :: U := fun k => by
    rw [← hl, leftOf, List.mem_filter, List.mem_range]
    constructor
    · intro h
      rcases Nat.lt_or_ge k listed.size with h' | h'
      · exact ⟨h', by simpa using h⟩
      · simp [Array.getElem?_eq_none h'] at h
    · intro h
      simpa using h.2
  have nodup : (R ++ [t]).Nodup := by
    have h := List.nodup_cons.1 hg.nodup
    rw [List.nodup_append]
    exact ⟨h.2, by simp, fun x hx y hy e => by simp at hy; subst hy e; exact h.1 hx⟩
  have unl : ∀ i ∈ R, listed.getD i true = false := fun i hi => (hleft i).2 (by simp [hi])
  exact wpAnyH_freeJ_aux I V a hS hQ hg hgv obs fin fuel listed a w (fun _ => undef) (R ++ [t]) hsz nodup
    (fun k => by
      rw [hleft]
      constructor
      · intro h
        rcases List.mem_append.1 h with h | h
        · simp [h]
        · simp at h; simp [h]
      · intro h
        rcases List.mem_cons.1 h.1 with h | h <;> simp [h])
    (fun k h => by
      have := (hleft k).1 h
      rcases List.mem_append.1 this with h | h
      · exact .inl (by simp [h])
      · rcases List.mem_cons.1 h with h | h
        · exact .inl (by simp [h])
        · exact .inr h)
    (fun u hu => (hleft u).2 (by simp [hu])) ((hleft t).2 (by simp)) (fun i hi h => by rw [unl i hi] at h; cases h)
    ((Inv.start R a _).sub (fun k hk => by rw [unl k hk]; simp) fun _ _ _ => rfl) (start _ _ fun j hj => unl j hj) (fun j hj h => by rw [unl j hj] at h; cases h) (by simpa using hlen)

/-- A region from its beginning; its guards are of gs, which yield what is listed. -/
theorem wp_region_freeJ {id : Nat} {l : List Oper} {a : Act} {w : World} (R : List Nat) (t : Nat) (U : List Nat) (gs : List (Nat × Bool)) (I : (Nat → Bool) → (Nat → Value) → World → Prop) (V : Nat → Value → Prop) (hm : P.follows .mixedOrders = true)
    (hB : (freeB .any l.toArray R t U && decide (List.range l.length = R ++ t :: U) && guardsB l.toArray R t a.tmps.size gs) = true)
    (hgs : ∀ q ∈ gs, ∀ v, V q.1 v → v = .bool q.2)
    (start : ∀ L vals, (∀ j ∈ R, L j = false) → I L vals w.drew)
    (hQ : ∀ c (t t' : Array Value) d w, Q (.panic c) ⟨t, d⟩ w → Q (.panic c) ⟨t', d⟩ w)
    (obs : ObsJ P .any l.toArray Q I V a R R)
    (ot : Oper) (hot : l[t]? = some ot) (fin : ∀ vals w' L, I L vals w' → (∀ j ∈ R, L j = true) → (∀ j ∈ R, V j (vals j)) → Step P ot (fill l.toArray vals R a) w' (fun a'' w'' => wpAnyH P .any l.toArray Q (fun _ => True) U.length (markAll l.toArray.size U) a'' w'') Q) : (Code.region id l.toArray true).wp P Q a w := by
  refine wp_region_held_drew (S := fun _ => True) hm trivial fun _ => ?_
  simp only [Bool.and_eq_true, decide_eq_true_eq] at hB
  obtain ⟨hB, hgB⟩ := hB
  have hlen : l.length = R.length + 1 + U.length := by
    have := congrArg List.length hB.2
    simp at this
    omega
  refine wpAnyH_freeJ R t U I V ?_ start (fun _ _ _ _ => trivial) hQ (fun i hi o ho g b hgd => by
      obtain ⟨h1, h2⟩ := guardsB_spec (G := fun k _ v => V k v) hgB (fun q hq _ v => hgs q hq v) i hi o ho g b hgd
      exact ⟨h1, fun v hv => h2 w v hv⟩) obs (fun o ho vals w' L h1 h2 h3 => by
    rw [← Array.getElem?_toList] at ho
    obtain rfl := Option.some.inj (hot.symm.trans ho)
    exact Oper.wp_mono (fun a w h => ⟨trivial, h⟩) (fin vals w' L h1 h2 h3).out)
  simp only [Bool.and_eq_true, decide_eq_true_eq]
  refine ⟨⟨⟨hB.1, by simp⟩, ?_⟩, by simp; omega⟩
  rw [← hB.2, leftOf]
  simp only [Array.size_replicate, List.size_toArray]
  refine List.filter_eq_self.2 fun k hk => ?_
  have : k < l.length := by simpa using hk
  simp [this]

/-- The obligations, one by one. -/
theorem obsJ_cons {R0 : List Nat} {I : (Nat → Bool) → (Nat → Value) → World → Prop} {V : Nat → Value → Prop} {a : Act} {i : Nat} {R : List Nat} {o : Oper} (ho : ops.toList[i]? = some o)
    (h : ∀ vals w' L, I L vals w' → L i = false → (∀ j ∈ R0, waits md ops i j = true → L j = true ∧ V j (vals j)) → ∀ K : Act → World → Prop, (∀ v w'', I (mark L i) (upd vals i v) w'' → V i v → K ((fill ops vals R0 a).put o.dst v) w'') → Step P o (fill ops vals R0 a) w' K Q)
    (hs : ObsJ P md ops Q I V a R0 R) : ObsJ P md ops Q I V a R0 (i :: R) := fun j hj => by
  rcases List.mem_cons.1 hj with rfl | hj
  · intro o' ho'
    rw [← Array.getElem?_toList] at ho'
    obtain rfl := Option.some.inj (ho.symm.trans ho')
    exact h
  · exact hs j hj
theorem obsJ_nil {R0 : List Nat} {I : (Nat → Bool) → (Nat → Value) → World → Prop} {V : Nat → Value → Prop} {a : Act} : ObsJ P md ops Q I V a R0 [] := fun j hj => by cases hj

end
end Go.Proofs.YtnpggkpcadefjaaDoor.FreeJ
