/- SpdPlaces: the script's calls. -/
import Derived.Test.YtmomkjgnopcobaaLawL16
set_option linter.unusedVariables false
namespace Go.Proofs.Ytmomkjgnopcobaa.LawPl0
open Go.RowKit Go.Proofs.Ytmomkjgnopcobaa.Mem Go.Proofs.Ytmomkjgnopcobaa.Blk Go.Proofs.Ytmomkjgnopcobaa.Ahead Go.Proofs.Ytmomkjgnopcobaa.PickD Go.Proofs.Ytmomkjgnopcobaa.PickR1 Go.Proofs.Ytmomkjgnopcobaa.PickR2 Go.Proofs.Ytmomkjgnopcobaa.Pick1 Go.Proofs.Ytmomkjgnopcobaa.Pick2 Go.Proofs.Ytmomkjgnopcobaa.Pick3 Go.Proofs.Ytmomkjgnopcobaa.Pick4 Go.Proofs.Ytmomkjgnopcobaa.Free Go.Proofs.Ytmomkjgnopcobaa.Steps Go.Proofs.Ytmomkjgnopcobaa.Regs Go.Proofs.Ytmomkjgnopcobaa.ArgT Go.Proofs.Ytmomkjgnopcobaa.MapK Go.Proofs.Ytmomkjgnopcobaa.Quest Go.Proofs.Ytmomkjgnopcobaa.RowN Go.Proofs.Ytmomkjgnopcobaa.SpdD Go.Proofs.Ytmomkjgnopcobaa.Spd1 Go.Proofs.Ytmomkjgnopcobaa.Spd3 Go.Proofs.Ytmomkjgnopcobaa.Spd4 Go.Proofs.Ytmomkjgnopcobaa.Spd5 Go.Proofs.Ytmomkjgnopcobaa.Spd6 Go.Proofs.Ytmomkjgnopcobaa.Spd7 Go.Proofs.Ytmomkjgnopcobaa.Spd8 Go.Proofs.Ytmomkjgnopcobaa.SpdA Go.Proofs.Ytmomkjgnopcobaa.Com Go.Proofs.Ytmomkjgnopcobaa.LawL16 Go.Proofs.Ytmomkjgnopcobaa.Few16

/-- The script's calls are made: the policy holds some rules. -/
theorem opr_ok (w : World) (r : RuleR) (hr : Ok r) : (⟨0, 0, r.x0, r.x1, r.x2, r.x3, r.x4, r.x5, r.x6, r.x7, r.x8, r.x9, r.x10, r.x11, r.x12, r.x13, r.x14, r.x15, ⟨#[]⟩, ⟨#[]⟩, 0, 0, 0, false⟩ : Op16R).ok w := by
  have h : (⟨#[]⟩ : ByteArray).size ≤ 140737488355328 := by decide
  exact ⟨hr.1, hr.2.1, hr.2.2.1, hr.2.2.2.1, hr.2.2.2.2.1, hr.2.2.2.2.2, h, h⟩
theorem one_op (w : World) (r : RuleR) (hr : Ok r) : Op16Rows (w.alloc (.cells #[.int .i64 0, .int .i64 0, .int .i64 r.x0, .string r.x1, .string r.x2, .string r.x3, .string r.x4, .int .i64 r.x5, .int .i64 r.x6, .int .i64 r.x7, .int .i64 r.x8, .int .i64 r.x9, .bool r.x10, .bool r.x11, .int .i64 r.x12, .bool r.x13, .string r.x14, .string r.x15, .string ⟨#[]⟩, .string ⟨#[]⟩, .int .i64 0, .int .i64 0, .int .i64 0, .bool false] 37)) (some ⟨w.heap.size, 0, none⟩) 1 [(⟨0, 0, r.x0, r.x1, r.x2, r.x3, r.x4, r.x5, r.x6, r.x7, r.x8, r.x9, r.x10, r.x11, r.x12, r.x13, r.x14, r.x15, ⟨#[]⟩, ⟨#[]⟩, 0, 0, 0, false⟩ : Op16R)] := by
  refine ⟨rfl, fun _ => ⟨w.heap.size, 0, rfl, by simp, fun k x hx => ?_⟩⟩
  match k, hx with
  | 0, hx =>
    cases hx
    refine ⟨opr_ok _ r hr, fun j v hj => ?_⟩
    rw [(Blk.new w 37 #[.int .i64 0, .int .i64 0, .int .i64 r.x0, .string r.x1, .string r.x2, .string r.x3, .string r.x4, .int .i64 r.x5, .int .i64 r.x6, .int .i64 r.x7, .int .i64 r.x8, .int .i64 r.x9, .bool r.x10, .bool r.x11, .int .i64 r.x12, .bool r.x13, .string r.x14, .string r.x15, .string ⟨#[]⟩, .string ⟨#[]⟩, .int .i64 0, .int .i64 0, .int .i64 0, .bool false]).cell, show 0 + 0 * 24 + j = j by omega, ← Array.getElem?_toList]
    exact hj
theorem run_one_op (w : World) (r : RuleR) : (Instr.buildSlice 22 1 #[(0, .agg #[.int .i64 0, .int .i64 0, .int .i64 r.x0, .string r.x1, .string r.x2, .string r.x3, .string r.x4, .int .i64 r.x5, .int .i64 r.x6, .int .i64 r.x7, .int .i64 r.x8, .int .i64 r.x9, .bool r.x10, .bool r.x11, .int .i64 r.x12, .bool r.x13, .string r.x14, .string r.x15, .string ⟨#[]⟩, .string ⟨#[]⟩, .int .i64 0, .int .i64 0, .int .i64 0, .bool false])]).run Try.prog w = .ok (.slice (some ⟨w.heap.size, 0, none⟩) 1 1) (w.alloc (.cells #[.int .i64 0, .int .i64 0, .int .i64 r.x0, .string r.x1, .string r.x2, .string r.x3, .string r.x4, .int .i64 r.x5, .int .i64 r.x6, .int .i64 r.x7, .int .i64 r.x8, .int .i64 r.x9, .bool r.x10, .bool r.x11, .int .i64 r.x12, .bool r.x13, .string r.x14, .string r.x15, .string ⟨#[]⟩, .string ⟨#[]⟩, .int .i64 0, .int .i64 0, .int .i64 0, .bool false] 37)) := by
  kernel_rfl
theorem rem_add {rs : List RuleR} {i : Nat} {r : RuleR} (hi : i ≤ rs.length) : remE (rs.take i ++ r :: rs.drop i) (i : Int) = 0 ∧ remL (rs.take i ++ r :: rs.drop i) (i : Int) = rs := by
  have hc : 0 ≤ (i : Int) ∧ (i : Int) < ((rs.take i ++ r :: rs.drop i).length : Int) := by simp; omega
  have lt : (rs.take i).length = i := by simp; omega
  refine ⟨if_pos hc, (if_pos hc).trans ?_⟩
  rw [show ((i : Nat) : Int).toNat = i from rfl, List.take_left' lt]
  have : (rs.take i ++ r :: rs.drop i).drop (i + 1) = rs.drop i := by
    rw [show rs.take i ++ r :: rs.drop i = (rs.take i ++ [r]) ++ rs.drop i by simp]
    exact List.drop_left' (by simp; omega)
  rw [this, List.take_append_drop]
theorem list_keepG {F : Nat → Prop} {w w' : World} {A : Option Addr} {rs : List RuleR} (h : ListAt w A rs) (hF : ∀ k, own A k → F k) (hk : Keep F w w') : ListAt w' A rs := by
  obtain ⟨g, X, h1, h2, h3⟩ := h
  exact ⟨g, X, h1, (hk.block g (hF g ⟨_, h1, rfl⟩) h2.lt).trans h2, h3⟩
theorem list_in {F : Nat → Prop} {w : World} {A : Option Addr} {rs : List RuleR} {S : Nat} (h : ListAt w A rs) (hS : ∀ k, own A k → S ≤ k) : ∀ k, own A k → Fu F S w.heap.size k := fun k hk => .inr ⟨hS k hk, by
  obtain ⟨g, X, rfl, h2, h3⟩ := h
  obtain ⟨a, ha, hb⟩ := hk
  cases ha
  exact hb ▸ h2.lt⟩
theorem neq_same (r : RuleR) (x y : Operand) (w : World) : (do eqGuard .neq 35 x y (.agg (RA r)) (.agg (RA r)); binOp .neq 35 (.agg (RA r)) (.agg (RA r)) : Sem Value).run Try.prog w = .ok (.bool false) w := by
  have h := Same16.b_neqR r r x y w
  have e : EqR.eqbRule r r = true := (EqR.eqb_Rule r r).2 rfl
  rw [e] at h
  exact h
theorem at_add {rs : List RuleR} {i : Nat} {r : RuleR} (hi : i ≤ rs.length) : (rs.take i ++ r :: rs.drop i)[i]? = some r := by
  rw [List.getElem?_append_right (by simp; omega)]
  simp [Nat.min_eq_left hi]
end Go.Proofs.Ytmomkjgnopcobaa.LawPl0
