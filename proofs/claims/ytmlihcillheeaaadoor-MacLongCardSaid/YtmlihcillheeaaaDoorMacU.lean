/- Both, Full, Tag over rows that are put together at the call: one contract each; steps of drawn regions. -/
import Derived.Test.YtmlihcillheeaaaDoorMacA
import Derived.Test.YtmlihcillheeaaaDoorMacR
import Derived.Test.YtmlihcillheeaaaDoorOps
set_option linter.unusedVariables false
namespace Go.Proofs.YtmlihcillheeaaaDoor.MacU
open Go.RowKit Go.PlainAid Go.Proofs.YtmlihcillheeaaaDoor.Sums Go.Proofs.YtmlihcillheeaaaDoor.Mem Go.Proofs.YtmlihcillheeaaaDoor.Blk Go.Proofs.YtmlihcillheeaaaDoor.Bits3 Go.Proofs.YtmlihcillheeaaaDoor.Ints Go.Proofs.YtmlihcillheeaaaDoor.Both Go.Proofs.YtmlihcillheeaaaDoor.Free Go.Proofs.YtmlihcillheeaaaDoor.Steps Go.Proofs.YtmlihcillheeaaaDoor.Ops Go.Proofs.YtmlihcillheeaaaDoor.ShaD Go.Proofs.YtmlihcillheeaaaDoor.ShaO Go.Proofs.YtmlihcillheeaaaDoor.Dig1 Go.Proofs.YtmlihcillheeaaaDoor.Dig9 Go.Proofs.YtmlihcillheeaaaDoor.DigA Go.Proofs.YtmlihcillheeaaaDoor.MacD Go.Proofs.YtmlihcillheeaaaDoor.Mac2 Go.Proofs.YtmlihcillheeaaaDoor.Mac3 Go.Proofs.YtmlihcillheeaaaDoor.Mac4 Go.Proofs.YtmlihcillheeaaaDoor.MacA

theorem both_one (A : Option Addr) (n c : Nat) (l : List Int) (w : World) (B : Nat) (h : Holds w B A n c l) (hB : B ≤ w.heap.size) (hn : n ≤ 1048576) (g : Nat) (hg : w.heap.size = g) (cs : Array Value) (hc : cs = #[.slice A n c]) :
    Calls Tryd.prog 7 #[.slice (some ⟨g, 0, none⟩) 1 1] (w.alloc (.cells cs 22)) fun e w' => ∃ A' c', e = .returned (.slice A' n c') ∧ Holds w' w'.heap.size A' n c' l ∧ Owns w' w.heap.size (.slice A' n c') n l ∧ Below w.heap.size w w' := by
  have q := both_lit hB [⟨A, n, c, l⟩] cs 22 (by rw [hc]; rfl) (mem1 h) g 1 hg rfl (by decide) (by show n + 0 ≤ 1048576; omega)
  rw [show total [⟨A, n, c, l⟩] = n from rfl, show flat [⟨A, n, c, l⟩] = l by simp [flat]] at q
  exact q
theorem full_lit {w : World} {B : Nat} (hB : B ≤ w.heap.size) (rs : List Row) (cs : Array Value) (hc : cs.toList = rs.map fun r => Value.slice r.A r.n r.c) (h : ∀ r ∈ rs, Holds w B r.A r.n r.c r.l)
    (g m : Nat) (hg : w.heap.size = g) (hm : rs.length = m) (hm1 : 1 ≤ m) (h1 : m ≤ 1000) (h2 : total rs ≤ 900000) (hT : Tab w) (A : Option Addr) (n c : Nat) (ks : List Int) (hk : Holds w B A n c ks) (hn : n ≤ 1000000) (F : List Nat) (hF : full (nats ks) (nats (flat rs)) = F) :
    Calls Tryd.prog 8 #[.slice A n c, .slice (some ⟨g, 0, none⟩) m m] (w.alloc (.cells cs 22)) fun e w' => ∃ A' c', e = .returned (.slice A' 32 c') ∧ Owns w' w.heap.size (.slice A' 32 c') 32 (ints F) ∧ Below w.heap.size w w' := by
  subst hg
  have B1 := (Below.refl w.heap.size w).alloc (Nat.le_refl _) (.cells cs 22)
  have sz : (w.alloc (.cells cs 22)).heap.size = w.heap.size + 1 := by simp
  refine (full_any A n c ks w.heap.size m m rs _ (w.heap.size + 1) ((hk.below (B1.mono hB)).more (by omega)) (All.lit hB rs cs 22 hc h) (by rw [sz]; exact Nat.le_refl _) hm hm1 h1 hn h2 (hT.up B1)).mono ?_
  rintro e w' ⟨v, rfl, o, hb⟩
  rw [hF] at o
  obtain ⟨A', c', rfl, _⟩ := o.slice
  exact ⟨A', c', rfl, o.mono (by rw [sz]; omega), B1.trans (hb.mono (by rw [sz]; omega))⟩
/-- What a tag is: how many bytes, which error, which bytes. -/
def tgN (n : Nat) : Nat := if n = 32 then 16 else 0
def tgE (n : Nat) : Int := if n = 32 then 0 else 1
def tgO (n : Nat) (F : List Nat) : List Int := if n = 32 then ints (F.take 16) else []
def TgAns (n : Nat) (F : List Nat) (w : World) (e : Ending) (w' : World) : Prop := ∃ A' c', e = .returned (.tuple #[.slice A' (tgN n) c', .int .i64 (tgE n)]) ∧ Holds w' w'.heap.size A' (tgN n) c' (tgO n F) ∧ Below w.heap.size w w'
theorem tg_no {n : Nat} (h : n ≠ 32) (F : List Nat) : tgN n = 0 ∧ tgE n = 1 ∧ tgO n F = [] := by simp [tgN, tgE, tgO, h]
theorem tg_yes (F : List Nat) : tgN 32 = 16 ∧ tgE 32 = 0 ∧ tgO 32 F = ints (F.take 16) := ⟨rfl, rfl, rfl⟩
theorem tag_lit {w : World} {B : Nat} (hB : B ≤ w.heap.size) (rs : List Row) (cs : Array Value) (hc : cs.toList = rs.map fun r => Value.slice r.A r.n r.c) (h : ∀ r ∈ rs, Holds w B r.A r.n r.c r.l)
    (g m : Nat) (hg : w.heap.size = g) (hm : rs.length = m) (hm1 : 1 ≤ m) (h1 : m ≤ 1000) (h2 : total rs ≤ 900000) (hT : Tab w) (A : Option Addr) (n c : Nat) (ks : List Int) (hk : Holds w B A n c ks) (hn : n ≤ 1000000) (F : List Nat) (hF : full (nats ks) (nats (flat rs)) = F) :
    Calls Tryd.prog 9 #[.slice A n c, .slice (some ⟨g, 0, none⟩) m m] (w.alloc (.cells cs 22)) (TgAns n F w) := by
  subst hg
  have B1 := (Below.refl w.heap.size w).alloc (Nat.le_refl _) (.cells cs 22)
  have sz : (w.alloc (.cells cs 22)).heap.size = w.heap.size + 1 := by simp
  unfold TgAns
  by_cases q : n = 32
  · subst q
    rw [(tg_yes F).1, (tg_yes F).2.1, (tg_yes F).2.2]
    refine (tag_yes A c ks w.heap.size m m rs _ (w.heap.size + 1) ((hk.below (B1.mono hB)).more (by omega)) (All.lit hB rs cs 22 hc h) (by rw [sz]; exact Nat.le_refl _) hm hm1 h1 h2 (hT.up B1)).mono ?_
    rintro e w' ⟨A', c', rfl, o, hb⟩
    rw [hF] at o
    exact ⟨A', c', rfl, o, B1.trans (hb.mono (by rw [sz]; omega))⟩
  · rw [(tg_no q F).1, (tg_no q F).2.1, (tg_no q F).2.2]
    refine (tag_no A n c _ _ q (by omega)).mono ?_
    rintro e w' ⟨rfl, rfl⟩
    exact ⟨none, 0, rfl, Holds.nil _ _ _, B1⟩
theorem tag_ru (A : Option Addr) (n c : Nat) (ks : List Int) (A2 : Option Addr) (n2 c2 : Nat) (bs : List Int) (w : World) (B : Nat) (h : Holds w B A n c ks) (h2 : Holds w B A2 n2 c2 bs) (hB : B ≤ w.heap.size) (hn : n ≤ 1000000) (hn2 : n2 ≤ 900000) :
    Calls Tryd.prog 10 #[.slice A n c, .slice A2 n2 c2] w (TgAns n (full (nats ks) (nats bs)) w) := by
  unfold TgAns
  by_cases q : n = 32
  · subst q
    rw [(tg_yes (full (nats ks) (nats bs))).1, (tg_yes (full (nats ks) (nats bs))).2.1, (tg_yes (full (nats ks) (nats bs))).2.2]
    exact MacR.tag_ref A c ks A2 n2 c2 bs w B h h2 hB hn2
  · rw [(tg_no q (full (nats ks) (nats bs))).1, (tg_no q (full (nats ks) (nats bs))).2.1, (tg_no q (full (nats ks) (nats bs))).2.2]
    refine (MacR.tag_no A n c A2 n2 c2 w q (by omega)).mono ?_
    rintro e w' ⟨rfl, rfl⟩
    exact ⟨none, 0, rfl, Holds.nil _ _ _, Below.refl _ _⟩

/-! ### Texts -/
theorem toList_eq (a b : ByteArray) : (a.toList == b.toList) = decide (a = b) := by
  by_cases h : a = b
  · subst h; simp
  · have : a.toList ≠ b.toList := fun e => h (by
      cases a; cases b
      rw [ByteArray.toList_eq, ByteArray.toList_eq] at e
      simp at e
      rw [e])
    simp [h, this]
theorem str_eq {a b : List Int} (ha : Bytes a) (hb : Bytes b) : ((strOfNums a).toList == (strOfNums b).toList) = decide (a = b) := by
  rw [toList_eq, decide_eq_decide]
  exact ⟨fun h => str_inj ha hb h, fun h => by rw [h]⟩

/-! ### Steps -/
theorem ent_awake : Enters Tryd.prog 11 := enters_of Tryd.func11 (by kernel_rfl) rfl
theorem ent_ref : Enters Tryd.prog 12 := enters_of Tryd.func12 (by kernel_rfl) rfl
theorem ent_full : Enters Tryd.prog 8 := enters_of Tryd.func8 (by kernel_rfl) rfl
theorem ent_same : Enters Tryd.prog 13 := enters_of Tryd.func13 (by kernel_rfl) rfl
theorem ent_of : Enters Tryd.prog 14 := enters_of Tryd.func14 (by kernel_rfl) rfl
theorem st_pick {o : Oper} {a : Act} {w : World} {K : Act → World → Prop} {Q : Exit → Act → World → Prop} (c x y : Operand) (ho : o.op = .pick c x y) (v : Value) (hc : a.eval c = .bool true) (hx : a.eval x = v) (hK : K (a.put o.dst v) w) : Step Tryd.prog o a w K Q :=
  wp_value v (by simp [execOp, ho, hc, hx, asBool]) hK
theorem b_eqs (s : ByteArray) (x y : Operand) (w : World) : (do eqGuard .eql 9 x y (.string s) (.string s); binOp .eql 9 (.string s) (.string s) : Sem Value).run Tryd.prog w = .ok (.bool true) w := by
  simp [go_sem, eqGuard]
theorem b_eqt (s t : ByteArray) (r : Bool) (h : (s.toList == t.toList) = r) (x y : Operand) (w : World) : (do eqGuard .eql 9 x y (.string s) (.string t); binOp .eql 9 (.string s) (.string t) : Sem Value).run Tryd.prog w = .ok (.bool r) w := by
  subst h
  simp [go_sem, eqGuard]
theorem b_eqb (a : Bool) (x y : Operand) (w : World) : (do eqGuard .eql 4 x y (.bool a) (.bool a); binOp .eql 4 (.bool a) (.bool a) : Sem Value).run Tryd.prog w = .ok (.bool true) w := by
  simp [go_sem, eqGuard]
theorem b_eqe (a : Int) (x y : Operand) (w : World) : (do eqGuard .eql 25 x y (.int .i64 a) (.int .i64 a); binOp .eql 25 (.int .i64 a) (.int .i64 a) : Sem Value).run Tryd.prog w = .ok (.bool true) w := by
  simp [go_sem, eqGuard]
theorem b_eqi (a : Int) (x y : Operand) (w : World) : (do eqGuard .eql 3 x y (.int .i64 a) (.int .i64 a); binOp .eql 3 (.int .i64 a) (.int .i64 a) : Sem Value).run Tryd.prog w = .ok (.bool true) w := by
  simp [go_sem, eqGuard]
theorem b_eq8 (a b : Int) (r : Bool) (h : (a == b) = r) (x y : Operand) (w : World) : (do eqGuard .eql 5 x y (.int .u8 a) (.int .u8 b); binOp .eql 5 (.int .u8 a) (.int .u8 b) : Sem Value).run Tryd.prog w = .ok (.bool r) w := by
  subst h
  simp [go_sem, eqGuard]
theorem list2 {f : Operand → Value} {x y : Operand} {u v : Value} (h1 : f x = u) (h2 : f y = v) : [x, y].map f = [u, v] := by simp [h1, h2]
theorem st_rows_1 {o : Oper} {a : Act} {w : World} {K : Act → World → Prop} {Q : Exit → Act → World → Prop} (x1 : Operand) (ho : o.op = .buildSlice 35 1 #[(0, x1)]) (A : Option Addr) (n c : Nat) (h1 : a.eval x1 = .slice A n c)
    (hK : K (a.put o.dst (.slice (some ⟨w.heap.size, 0, none⟩) 1 1)) (w.alloc (.cells #[.slice A n c] 22))) : Step Tryd.prog o a w K Q := by
  constructor
  have hb : (Instr.buildSlice 35 1 #[(0, .slice A n c)]).run Tryd.prog w = .ok (.slice (some ⟨w.heap.size, 0, none⟩) 1 1) (w.alloc (.cells #[.slice A n c] 22)) := by kernel_rfl
  have hr : (execOp a.eval o).run Tryd.prog w = .ok (.value (.slice (some ⟨w.heap.size, 0, none⟩) 1 1)) (w.alloc (.cells #[.slice A n c] 22)) := by
    simp [execOp, ho, h1, hb, Result.andThen]
  unfold Oper.wp
  rw [hr]
  exact hK
/-- A row's beginning. -/
theorem cut_begin (A : Option Addr) (n c hi : Nat) (h1 : hi ≤ n) (h2 : n ≤ c) (w : World) : (Instr.sliceAt 22 (.slice A n c) none (some (.int .i64 (hi : Int))) none).run Tryd.prog w = .ok (.slice A hi c) w := by
  have e := run_slice_h (P := Tryd.prog) (w := w) (t := 22) (a := A) (len := n) (cap := c) (ht := (by kernel_rfl)) .i64 (hi : Int) (by omega) (by omega)
  rw [run_sliceAt_slice (P := Tryd.prog) (h := (by kernel_rfl)), e, CutA.byte_elem]
  have z : (fun x : Addr => x.add (0 * 1)) = id := by
    funext x
    simp [Addr.add]
  simp only [Result.andThen_ok, sliced, Int.toNat_natCast, Nat.sub_zero]
  split
  · rfl
  · rw [z, Option.map_id]; rfl
/-- An append where the operation is guarded and wanted. -/
theorem wpList_append_w {w : World} {ops : Array Oper} {rest : List Oper} {o : Oper} {a : Act} {Q : Exit → Act → World → Prop} (hw : Region.wanted o (yielded ops a.tmps) = true) (s x : Operand)
    (ho : o.op = .call { callee := .builtin .append, args := #[s, x], argTypes := #[22, 22] })
    (base : Nat) (v : Value) (n : Nat) (l : List Int) (hs : a.eval s = v) (h : Owns w base v n l) (B : Nat) (A : Option Addr) (m c : Nat) (k : List Int) (hx : a.eval x = .slice A m c) (hk : Holds w B A m c k)
    (hsm : n + m ≤ 1048576) (hbase : base ≤ w.heap.size)
    (K : ∀ v' w', Owns w' base v' (n + m) (l ++ k) → w.grownBy w' v.ownBlock → (v'.ownBlock = v.ownBlock ∨ v'.ownBlock = some w.heap.size) → wpList Tryd.prog ops Q rest (a.put o.dst v') w') :
    wpList Tryd.prog ops Q (o :: rest) a w :=
  wpList_step fun K' hK => by
    rw [if_pos hw]
    obtain ⟨v', w', hr, h2, h3, h4⟩ := run_append_bytes w o.type base v n l h B A m c k hk hsm hbase
    unfold Oper.wp execOp
    simp only [ho, resolve, invoke, builtin, Sem.run_bind, Sem.run_pure, Result.andThen_ok, List.map_toArray, List.map_cons, List.map_nil, hs, hx, hr]
    exact hK _ _ (K v' w' h2 h3 h4)
end Go.Proofs.YtmlihcillheeaaaDoor.MacU
