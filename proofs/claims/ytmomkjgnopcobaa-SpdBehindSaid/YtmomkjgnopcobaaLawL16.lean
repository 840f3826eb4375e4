/- What the laws of policies share. -/
import Derived.Test.YtmomkjgnopcobaaSpdA
import Derived.Test.YtmomkjgnopcobaaFew16
import Derived.Test.YtmomkjgnopcobaaSame16
set_option linter.unusedVariables false
namespace Go.Proofs.Ytmomkjgnopcobaa.LawL16
open Go.RowKit Go.Proofs.Ytmomkjgnopcobaa.Mem Go.Proofs.Ytmomkjgnopcobaa.Blk Go.Proofs.Ytmomkjgnopcobaa.Ahead Go.Proofs.Ytmomkjgnopcobaa.PickD Go.Proofs.Ytmomkjgnopcobaa.PickR1 Go.Proofs.Ytmomkjgnopcobaa.PickR2 Go.Proofs.Ytmomkjgnopcobaa.Pick1 Go.Proofs.Ytmomkjgnopcobaa.Pick2 Go.Proofs.Ytmomkjgnopcobaa.Pick3 Go.Proofs.Ytmomkjgnopcobaa.Pick4 Go.Proofs.Ytmomkjgnopcobaa.Free Go.Proofs.Ytmomkjgnopcobaa.Steps Go.Proofs.Ytmomkjgnopcobaa.Regs Go.Proofs.Ytmomkjgnopcobaa.ArgT Go.Proofs.Ytmomkjgnopcobaa.MapK Go.Proofs.Ytmomkjgnopcobaa.Quest Go.Proofs.Ytmomkjgnopcobaa.RowN Go.Proofs.Ytmomkjgnopcobaa.SpdD Go.Proofs.Ytmomkjgnopcobaa.Spd1 Go.Proofs.Ytmomkjgnopcobaa.Spd3 Go.Proofs.Ytmomkjgnopcobaa.Spd4 Go.Proofs.Ytmomkjgnopcobaa.Spd5 Go.Proofs.Ytmomkjgnopcobaa.Spd6 Go.Proofs.Ytmomkjgnopcobaa.Spd7 Go.Proofs.Ytmomkjgnopcobaa.Spd8 Go.Proofs.Ytmomkjgnopcobaa.SpdA Go.Proofs.Ytmomkjgnopcobaa.Com

def ruO (op : Op16R) : RuleR := ⟨op.x2, op.x3, op.x4, op.x5, op.x6, op.x7, op.x8, op.x9, op.x10, op.x11, op.x12, op.x13, op.x14, op.x15, op.x16, op.x17⟩
theorem ruO_ok {W : World} {op : Op16R} (h : op.ok W) : Ok (ruO op) := by
  obtain ⟨h3, h4, h5, h6, h16, h17, _, _⟩ := h
  exact ⟨h3, h4, h5, h6, h16, h17⟩
theorem ops_below {w w' : World} {A : Option Addr} {n : Nat} {rs : List Op16R} (h : Op16Rows w A n rs) (hb : Below w.heap.size w w') : Op16Rows w' A n rs := by
  refine ⟨h.1, fun hn => ?_⟩
  obtain ⟨b, o, h1, h2, h3⟩ := h.2 hn
  exact ⟨b, o, h1, Nat.lt_of_lt_of_le h2 hb.size, fun k r hr => ⟨(h3 k r hr).1, fun j v hj => (hb.cell (p := ⟨b, o + k * 24 + j, none⟩) h2).trans ((h3 k r hr).2 j v hj)⟩⟩
/-- What an object's own calls do not touch. -/
theorem ops_keep {F : Nat → Prop} {w w' : World} {A : Option Addr} {n : Nat} {rs : List Op16R} (h : Op16Rows w A n rs) (hF : ∀ k, k < w.heap.size → F k) (hk : Keep F w w') : Op16Rows w' A n rs := ops_below h (hk.below (Nat.le_refl _) hF)
theorem ops_at {w : World} {A : Option Addr} {n : Nat} {rs : List Op16R} (h : Op16Rows w A n rs) {i : Nat} (hi : i < n) : ∃ b o op, A = some ⟨b, o, none⟩ ∧ b < w.heap.size ∧ rs[i]? = some op ∧ op.ok w ∧ Part.At w b (o + i * 24) op.cells := by
  obtain ⟨b, o, h1, h2, h3⟩ := h.2 (by omega)
  have hr : rs[i]? = some (rs[i]'(by rw [h.1]; exact hi)) := List.getElem?_eq_getElem _
  exact ⟨b, o, _, h1, h2, hr, (h3 i _ hr).1, (h3 i _ hr).2⟩
theorem at_keep {F : Nat → Prop} {w w' : World} {b q : Nat} {cs : List Value} (h : Part.At w b q cs) (hb : b < w.heap.size) (hF : F b) (hk : Keep F w w') : Part.At w' b q cs := fun j v hj => (World.cell?_of_block (w := w) (hk.block b hF hb)).trans (h j v hj)
theorem list_at {w : World} {g : Nat} {rs : List RuleR} (h : ListAt w (some ⟨g, 0, none⟩) rs) {i : Nat} {r : RuleR} (hr : rs[i]? = some r) : Part.At w g (0 + i * 16) r.cells := by
  obtain ⟨g', X, h1, h2, h3⟩ := h
  cases h1
  intro j v hj
  rw [h2.cell, Nat.zero_add, ← Array.getElem?_toList, h3]
  rw [← flat_at rs i r hr, List.getElem?_take] at hj
  split at hj
  · rwa [List.getElem?_drop] at hj
  · cases hj
theorem ent_add : Enters Try.prog 10 := enters_of Try.func10 (by kernel_rfl) rfl
/-- More is foreign: what was made between two worlds. -/
def Fu (F : Nat → Prop) (S T : Nat) (k : Nat) : Prop := F k ∨ (S ≤ k ∧ k < T)
theorem wide {F : Nat → Prop} {w w' : World} {gs : Nat} {rs : List RuleR} (h : SpdAt F w gs rs) (hb : Below w.heap.size w w') : SpdAt (Fu F w.heap.size w'.heap.size) w' gs rs := (h.widen hb).mono fun k _ z => z.elim .inl (fun z => .inr z.1)
theorem fu_lt {F : Nat → Prop} {S T : Nat} (h : ∀ k, F k → k < S) (hs : S ≤ T) : ∀ k, Fu F S T k → k < T := fun k z => z.elim (fun z => Nat.lt_of_lt_of_le (h k z) hs) (·.2)
theorem list_keep {F : Nat → Prop} {w w' : World} {A : Option Addr} {rs : List RuleR} {S T : Nat} (h : ListAt w A rs) (hS : ∀ k, own A k → S ≤ k) (hT : w.heap.size ≤ T) (hk : Keep (Fu F S T) w w') : ListAt w' A rs := by
  obtain ⟨g, X, h1, h2, h3⟩ := h
  exact ⟨g, X, h1, (hk.block g (.inr ⟨hS g ⟨_, h1, rfl⟩, Nat.lt_of_lt_of_le h2.lt hT⟩) h2.lt).trans h2, h3⟩
theorem st_lenT {o : Oper} {a : Act} {w : World} {K : Act → World → Prop} {Q : Exit → Act → World → Prop} {tS tE : TypeId} (hu : Try.prog.underlying tS = some (.slice tE)) (x : Operand) (ho : o.op = .call { callee := .builtin .len, args := #[x], argTypes := #[tS] }) (A : Option Addr) (n c : Nat) (hx : a.eval x = .slice A n c) (hK : K (a.put o.dst (.int .i64 (n : Int))) w) : Step Try.prog o a w K Q := by
  refine wp_value _ ?_ hK
  simp [execOp, ho, resolve, invoke, hx, builtin, Builtin.len_, run_underlying hu, goInt, Result.andThen]
theorem st_pickF {o : Oper} {a : Act} {w : World} {K : Act → World → Prop} {Q : Exit → Act → World → Prop} (c x y : Operand) (ho : o.op = .pick c x y) (v : Value) (hc : a.eval c = .bool false) (hy : a.eval y = v) (hK : K (a.put o.dst v) w) : Step Try.prog o a w K Q :=
  wp_value v (by simp [execOp, ho, hc, hy, asBool]) hK
theorem b_lssi (a b : Int) (r : Bool) (h : decide (a < b) = r) (x y : Operand) (w : World) : (do eqGuard .lss 3 x y (.int .i64 a) (.int .i64 b); binOp .lss 3 (.int .i64 a) (.int .i64 b) : Sem Value).run Try.prog w = .ok (.bool r) w := by
  subst h
  simp [go_sem, eqGuard]
theorem b_gtri (a b : Int) (r : Bool) (h : decide (b < a) = r) (x y : Operand) (w : World) : (do eqGuard .gtr 3 x y (.int .i64 a) (.int .i64 b); binOp .gtr 3 (.int .i64 a) (.int .i64 b) : Sem Value).run Try.prog w = .ok (.bool r) w := by
  subst h
  simp [go_sem, eqGuard]
theorem b_geqi (a b : Int) (r : Bool) (h : decide (b ≤ a) = r) (x y : Operand) (w : World) : (do eqGuard .geq 3 x y (.int .i64 a) (.int .i64 b); binOp .geq 3 (.int .i64 a) (.int .i64 b) : Sem Value).run Try.prog w = .ok (.bool r) w := by
  subst h
  simp [go_sem, eqGuard]
theorem b_leqi (a b : Int) (r : Bool) (h : decide (a ≤ b) = r) (x y : Operand) (w : World) : (do eqGuard .leq 3 x y (.int .i64 a) (.int .i64 b); binOp .leq 3 (.int .i64 a) (.int .i64 b) : Sem Value).run Try.prog w = .ok (.bool r) w := by
  subst h
  simp [go_sem, eqGuard]
theorem b_neqi (a b : Int) (r : Bool) (h : (a != b) = r) (x y : Operand) (w : World) : (do eqGuard .neq 3 x y (.int .i64 a) (.int .i64 b); binOp .neq 3 (.int .i64 a) (.int .i64 b) : Sem Value).run Try.prog w = .ok (.bool r) w := by
  subst h
  simp [go_sem, eqGuard]
theorem b_eqli (a b : Int) (r : Bool) (h : (a == b) = r) (x y : Operand) (w : World) : (do eqGuard .eql 3 x y (.int .i64 a) (.int .i64 b); binOp .eql 3 (.int .i64 a) (.int .i64 b) : Sem Value).run Try.prog w = .ok (.bool r) w := by
  subst h
  simp [go_sem, eqGuard]
theorem b_neqe (a b : Int) (r : Bool) (h : (a != b) = r) (x y : Operand) (w : World) : (do eqGuard .neq 38 x y (.int .i64 a) (.int .i64 b); binOp .neq 38 (.int .i64 a) (.int .i64 b) : Sem Value).run Try.prog w = .ok (.bool r) w := by
  subst h
  simp [go_sem, eqGuard]
theorem b_eqle (a b : Int) (r : Bool) (h : (a == b) = r) (x y : Operand) (w : World) : (do eqGuard .eql 38 x y (.int .i64 a) (.int .i64 b); binOp .eql 38 (.int .i64 a) (.int .i64 b) : Sem Value).run Try.prog w = .ok (.bool r) w := by
  subst h
  simp [go_sem, eqGuard]
theorem addL_len (rs : List RuleR) (at_ : Int) (r : RuleR) (h : addE rs at_ r ≠ 0) : addL rs at_ r = rs := if_neg h
theorem addE_in {rs : List RuleR} {at_ : Int} {r : RuleR} (h : addE rs at_ r = 0) : ∃ i : Nat, at_ = (i : Int) ∧ i ≤ rs.length ∧ rs.length < 64 ∧ addL rs at_ r = rs.take i ++ r :: rs.drop i := by
  have hl : addL rs at_ r = rs.take at_.toNat ++ r :: rs.drop at_.toNat := if_pos h
  unfold addE at h
  split at h
  · cases h
  · rename_i q
    split at h
    · cases h
    · rename_i q2
      refine ⟨at_.toNat, by omega, by omega, by omega, hl⟩
end Go.Proofs.Ytmomkjgnopcobaa.LawL16
