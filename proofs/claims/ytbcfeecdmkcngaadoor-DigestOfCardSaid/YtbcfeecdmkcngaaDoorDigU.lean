/- One contract each, refusing or answering: Words, Round, of the code and of the document; rows of any ints that the call owns. -/
import Derived.Test.YtbcfeecdmkcngaaDoorDigA
set_option linter.unusedVariables false
namespace Go.Proofs.YtbcfeecdmkcngaaDoor.DigU
open Go.RowKit Go.PlainAid Go.Proofs.YtbcfeecdmkcngaaDoor.Sums Go.Proofs.YtbcfeecdmkcngaaDoor.Mem Go.Proofs.YtbcfeecdmkcngaaDoor.Blk Go.Proofs.YtbcfeecdmkcngaaDoor.Bits3 Go.Proofs.YtbcfeecdmkcngaaDoor.Ints Go.Proofs.YtbcfeecdmkcngaaDoor.IntsO Go.Proofs.YtbcfeecdmkcngaaDoor.ShaD Go.Proofs.YtbcfeecdmkcngaaDoor.ShaC Go.Proofs.YtbcfeecdmkcngaaDoor.ShaW Go.Proofs.YtbcfeecdmkcngaaDoor.ShaQ Go.Proofs.YtbcfeecdmkcngaaDoor.ShaO Go.Proofs.YtbcfeecdmkcngaaDoor.Dig1 Go.Proofs.YtbcfeecdmkcngaaDoor.Dig3 Go.Proofs.YtbcfeecdmkcngaaDoor.Dig5

/-- Two results: these ints, this error. -/
def AnsI (X : List Int) (er : Int) (w : World) (e : Ending) (w' : World) : Prop := ∃ A c, e = .returned (.tuple #[.slice A X.length c, .int .i64 er]) ∧ HoldsI w' w'.heap.size A X.length c X ∧ Below w.heap.size w w'
def out (ok : Bool) (F : List Nat) : List Int := if ok then ints F else []
def err (ok : Bool) : Int := if ok then 0 else 1
theorem HoldsI.nil (w : World) (B : Nat) (A : Option Addr) (c : Nat) : HoldsI w B A 0 c [] := ⟨rfl, by decide, fun _ h => (by cases h), fun h => absurd h (by omega)⟩
theorem ans_no {w w' : World} {F : List Nat} (hb : Below w.heap.size w w') : AnsI (out false F) (err false) w (.returned (.tuple #[.slice none 0 0, .int .i64 1])) w' := ⟨none, 0, rfl, HoldsI.nil _ _ _ _, hb⟩
theorem ans_yes {w w' : World} {base : Nat} {v : Value} {F : List Nat} (o : IOwn w' base v F) (hF : W32 F) (hl : F.length ≤ 1048576) (hb : Below w.heap.size w w') : AnsI (out true F) (err true) w (.returned (.tuple #[v, .int .i64 0])) w' := by
  obtain ⟨A, c, rfl⟩ := o.shape
  have h := HoldsI.of_own o hF hl
  have e : (ints F).length = F.length := ShaO.ints_len F
  refine ⟨A, c, ?_, ?_, hb⟩
  · show _ = Ending.returned (.tuple #[.slice A (ints F).length c, .int .i64 0])
    rw [e]
  · show HoldsI w' w'.heap.size A (ints F).length c (ints F)
    rw [e]; exact h
theorem words_u (A : Option Addr) (n c : Nat) (bs : List Int) (w : World) (B : Nat) (h : Holds w B A n c bs) (hB : B ≤ w.heap.size) (hn : n ≤ 140737488355328) :
    Calls Tryd.prog 8 #[.slice A n c] w (AnsI (out (decide (n = 64)) (words (nats bs))) (err (decide (n = 64))) w) := by
  by_cases q : n = 64
  · subst q
    rw [decide_eq_true rfl]
    exact (words_ok A c bs w B h hB).mono fun e w' ⟨v, he, ho, hb⟩ => by
      subst he
      exact ans_yes ho (words_lt (nats_lt fun z hz => h.2.2.2.1 z hz)) (by rw [words_len]; decide) hb
  · rw [decide_eq_false q]
    exact (words_bad A n c w q hn).mono fun e w' ⟨he, hw⟩ => by
      subst he hw
      exact ans_no (Below.refl _ _)
theorem words_ur (A : Option Addr) (n c : Nat) (bs : List Int) (w : World) (B : Nat) (h : Holds w B A n c bs) (hB : B ≤ w.heap.size) (hn : n ≤ 140737488355328) :
    Calls Tryd.prog 9 #[.slice A n c] w (AnsI (out (decide (n = 64)) (words (nats bs))) (err (decide (n = 64))) w) := by
  by_cases q : n = 64
  · subst q
    rw [decide_eq_true rfl]
    exact (words_ref A c bs w B h hB).mono fun e w' ⟨v, he, ho, hb⟩ => by
      subst he
      exact ans_yes ho (words_lt (nats_lt fun z hz => h.2.2.2.1 z hz)) (by rw [words_len]; decide) hb
  · rw [decide_eq_false q]
    exact (words_no A n c w q hn).mono fun e w' ⟨he, hw⟩ => by
      subst he hw
      exact ans_no (Below.refl _ _)
theorem round_u (A : Option Addr) (n c : Nat) (l : List Int) (A2 : Option Addr) (m c2 : Nat) (bs : List Int) (w : World) (B : Nat) (h1 : HoldsI w B A n c l) (h2 : Holds w B A2 m c2 bs) (hB : B ≤ w.heap.size) (hT : Tab w) :
    Calls Tryd.prog 10 #[.slice A n c, .slice A2 m c2] w (AnsI (out (stI l && decide (m = 64)) (round (nats l) (nats bs))) (err (stI l && decide (m = 64))) w) :=
  (round_no A n c l A2 m c2 bs w B h1 h2 hB hT).mono fun e w' ⟨y, q, hb⟩ => by
    cases hq : (stI l && decide (m = 64)) with
    | true =>
      obtain ⟨v, he, ho⟩ := y hq
      subst he
      exact ans_yes ho (round_lt _ _) (by rw [round_len]; decide) hb
    | false =>
      obtain rfl := q hq
      exact ans_no hb
theorem round_ur (A : Option Addr) (n c : Nat) (l : List Int) (A2 : Option Addr) (m c2 : Nat) (bs : List Int) (w : World) (B : Nat) (h1 : HoldsI w B A n c l) (h2 : Holds w B A2 m c2 bs) (hB : B ≤ w.heap.size) (hm : m ≤ 140737488355328) :
    Calls Tryd.prog 11 #[.slice A n c, .slice A2 m c2] w (AnsI (out (stI l && decide (m = 64)) (round (nats l) (nats bs))) (err (stI l && decide (m = 64))) w) := by
  by_cases q : m = 64
  · subst q
    cases hs : stI l with
    | true =>
      rw [decide_eq_true rfl, Bool.and_true]
      have hn : n = 8 := by
        have := (stI_nats hs).2.2
        rw [nats_len, h1.1] at this
        exact this
      subst hn
      exact (round_ref A c l A2 c2 bs w B B h1 hB h2 hB hs).mono fun e w' ⟨v, he, ho, hb⟩ => by
        subst he
        exact ans_yes ho (round_lt _ _) (by rw [round_len]; decide) hb
    | false =>
      rw [Bool.false_and]
      exact (round_no2 A n c l A2 c2 bs w B B h1 hB h2 hB hs).mono fun e w' ⟨he, hb⟩ => by
        subst he
        exact ans_no hb
  · rw [decide_eq_false q, Bool.and_false]
    exact (round_no1 A n c A2 m c2 w q hm).mono fun e w' ⟨he, hb⟩ => by
      subst he
      exact ans_no hb

/-! ### Rows of any ints that the call owns -/
def vals (l : List Int) : List Value := l.map fun z => Value.int .i64 z
theorem vals_one (l : List Int) : ∀ u ∈ vals l, u.oneCell' = true := by
  intro u hu
  obtain ⟨n, _, rfl⟩ := List.mem_map.1 hu
  rfl
theorem vals_get {l : List Int} {j : Nat} (h : j < l.length) : (vals l)[j]? = some (.int .i64 (l.getD j 0)) := by
  unfold vals
  rw [List.getElem?_map, List.getD_eq_getElem?_getD, List.getElem?_eq_getElem h]
  rfl
/-- Any ints put behind a row that is owned and empty. -/
theorem wpList_append_any {w : World} {ops : Array Oper} {rest : List Oper} {o : Oper} {a : Act} {Q : Exit → Act → World → Prop} (hgd : o.guard = none) (s x : Operand)
    (ho : o.op = .call { callee := .builtin .append, args := #[s, x], argTypes := #[22, 22] })
    (base : Nat) (v : Value) (hs : a.eval s = v) (h : w.ownsRow base 3 1 v 0 []) (B : Nat) (A : Option Addr) (n c : Nat) (l : List Int) (hx : a.eval x = .slice A n c) (hk : HoldsI w B A n c l) (h0 : 0 < n) (hbase : base ≤ w.heap.size)
    (hK : ∀ A' c' w', HoldsI w' w'.heap.size A' n c' l → w.grownBy w' v.ownBlock → wpList Tryd.prog ops Q rest (a.put o.dst (.slice A' n c')) w') : wpList Tryd.prog ops Q (o :: rest) a w := by
  refine wpList_plain hgd fun K' hK' => ?_
  obtain ⟨b, p, rfl, _, hc⟩ := hk.2.2.2 h0
  have hn := hk.2.1
  obtain ⟨i, hi, hz, hsz, hby⟩ := info_parts int_info
  refine Go.wp_append_lies w s x 22 ho base 3 i (.int .i64 0) 1 8 Tryd.underlying22 hi hz hsz hby rfl (by decide) v 0 [] hs h ⟨b, p, none⟩ n c (vals l) hx (by simp [vals, hk.1])
    (fun j u hu => ?_) (vals_one l) h0 (by simp only [maxLen]; omega) (by omega) hbase _ rfl fun g' cap w' ow gr _ _ => ?_
  · have hj : j < l.length := by
      have := (List.getElem?_eq_some_iff.1 hu).1
      simpa [vals] using this
    rw [add_plain, hc j (by rw [← hk.1]; exact hj), ← vals_get hj, hu]
  · simp only [Nat.zero_add, List.nil_append] at ow ⊢
    have hg2 := (World.ownsRow.lt ow g' rfl).2
    refine hK' _ _ (hK _ _ w' ⟨hk.1, hk.2.1, hk.2.2.1, fun _ => ⟨g', 0, rfl, hg2, fun j hj => ?_⟩⟩ gr)
    have := World.ownsRow.cellAt ow j (by omega)
    rw [Nat.zero_add, this, vals_get (by rw [hk.1]; exact hj)]
theorem run_append_zero (w : World) (ty : TypeId) (g : Nat) (A : Option Addr) (c : Nat) : (Builtin.append_ #[22, 22] ty #[.slice (some ⟨g, 0, none⟩) 0 0, .slice A 0 c]).run Tryd.prog w = .ok (.slice (some ⟨g, 0, none⟩) 0 0) w := by
  obtain ⟨i, hi, hz, hsz, hby⟩ := info_parts int_info
  cases A <;> simp [Builtin.append_, run_underlying Tryd.underlying22, sizeOf, typeInfo, hi, Builtin.lenOf, Builtin.firstCells, loadCells, loadCellsFrom, storeCells]
/-- .. to an empty literal: none at all, too. -/
theorem wpList_append_new {w : World} {ops : Array Oper} {rest : List Oper} {o : Oper} {a : Act} {Q : Exit → Act → World → Prop} (hgd : o.guard = none) (s x : Operand)
    (ho : o.op = .call { callee := .builtin .append, args := #[s, x], argTypes := #[22, 22] })
    (g : Nat) (hs : a.eval s = .slice (some ⟨g, 0, none⟩) 0 0) (B : Nat) (A : Option Addr) (n c : Nat) (l : List Int) (hx : a.eval x = .slice A n c) (hk : HoldsI w B A n c l) (hg : w.heap.size = g)
    (hK : ∀ A' c' w', HoldsI w' w'.heap.size A' n c' l → Below g w w' → wpList Tryd.prog ops Q rest (a.put o.dst (.slice A' n c')) w') : wpList Tryd.prog ops Q (o :: rest) a (w.alloc (.cells #[] 3)) := by
  subst hg
  have b1 : Below w.heap.size w (w.alloc (.cells #[] 3)) := (Below.refl _ _).alloc (Nat.le_refl _) _
  by_cases h0 : n = 0
  · subst h0
    have e : l = [] := List.eq_nil_of_length_eq_zero hk.1
    subst e
    refine wpList_plain hgd fun K' hK' => ?_
    unfold Oper.wp execOp
    simp only [ho, resolve, invoke, builtin, Sem.run_bind, Sem.run_pure, Result.andThen_ok, List.map_toArray, List.map_cons, List.map_nil, hs, hx, run_append_zero]
    exact hK' _ _ (hK _ _ _ (HoldsI.nil _ _ _ _) b1)
  · have ow := World.ownsRow_lit (base := w.heap.size) (e := 3) (size := 1) w #[] 0 (Nat.le_refl _) (by simp [maxLen]) (by simp)
    obtain ⟨b, p, e, hb, hc⟩ := hk.2.2.2 (by omega)
    have hk2 : HoldsI (w.alloc (.cells #[] 3)) B A n c l := ⟨hk.1, hk.2.1, hk.2.2.1, fun _ => ⟨b, p, e, hb, fun j hj => keep_cell (hc j hj) b1⟩⟩
    refine wpList_append_any hgd s x ho w.heap.size _ hs ow B A n c l hx hk2 (by omega) (by simp) fun A' c' w' h' gr => ?_
    exact hK A' c' w' h' (b1.grown gr (by simp) fun k e => by simp [Value.ownBlock] at e; omega)
end Go.Proofs.YtbcfeecdmkcngaaDoor.DigU
