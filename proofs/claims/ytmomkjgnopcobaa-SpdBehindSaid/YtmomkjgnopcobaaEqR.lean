/- Structs compared. -/
import Derived.Test.YtmomkjgnopcobaaArgT
import Derived.Laws.StructEq
set_option linter.unusedVariables false
namespace Go.Proofs.Ytmomkjgnopcobaa.EqR
open Go.RowKit Go.Proofs.Ytmomkjgnopcobaa.Mem Go.Proofs.Ytmomkjgnopcobaa.ArgT
set_option maxRecDepth 100000
theorem toList_eq (a b : ByteArray) : (a.toList == b.toList) = decide (a = b) := by
  by_cases h : a = b
  · subst h; simp
  · have : a.toList ≠ b.toList := fun e => h (by
      cases a; cases b
      rw [ByteArray.toList_eq, ByteArray.toList_eq] at e
      simp at e
      rw [e])
    simp [h, this]
theorem eqf_nil (d : Nat) (xs ys : Array Value) (w : World) : (Op.eqFields d xs ys []).run Try.prog w = .ok true w := rfl
theorem eqf_cons (d : Nat) (xs ys : Array Value) (f : Field) (fs : List Field) (w : World) (a b : Value) (r s : Bool) (hn : (f.name != "_") = true) (ha : (part f.type xs f.offset).run Try.prog w = .ok a w) (hb : (part f.type ys f.offset).run Try.prog w = .ok b w)
    (hr : (Op.equalIn d f.type a b).run Try.prog w = .ok r w) (hs : (Op.eqFields d xs ys fs).run Try.prog w = .ok s w) : (Op.eqFields d xs ys (f :: fs)).run Try.prog w = .ok (r && s) w := by
  have h : ¬ f.name = "_" := by simpa using hn
  simp only [Op.eqFields, ne_eq, h, not_false_eq_true, if_true, Sem.run_bind, ha, hb, hr, Result.andThen_ok]
  cases r
  · simp
  · simp [hs]
theorem eq_s (d : Nat) (a b : ByteArray) (w : World) : (Op.equalIn (d + 1) 9 (.string a) (.string b)).run Try.prog w = .ok (decide (a = b)) w := by
  rw [run_equalIn_string w d _ a b Try.underlying9, toList_eq]
theorem eq_i (d : Nat) (a b : Int) (w : World) : (Op.equalIn (d + 1) 3 (.int .i64 a) (.int .i64 b)).run Try.prog w = .ok (decide (a = b)) w := by
  rw [run_equalIn_int w d _ .i64 .i64 a b Try.underlying3]
  rfl
theorem eq_t (d : Nat) (a b : Bool) (w : World) : (Op.equalIn (d + 1) 4 (.bool a) (.bool b)).run Try.prog w = .ok (decide (a = b)) w := by
  rw [run_equalIn_bool' w d _ a b Try.underlying4]
  cases a <;> cases b <;> rfl
set_option maxHeartbeats 2000000 in
theorem eq_Span (d : Nat) (a0 : ByteArray) (a1 : ByteArray) (b0 : ByteArray) (b1 : ByteArray) (w : World) : (Op.equalIn (d + 2) 29 (.agg #[.string a0, .string a1]) (.agg #[.string b0, .string b1])).run Try.prog w = .ok (decide (a0 = b0) && (decide (a1 = b1) && true)) w := by
  rw [run_equalIn_agg w (d + 1) _ _ _ (by kernel_rfl) (by kernel_rfl)]
  exact eqf_cons _ _ _ _ _ _ (.string a0) (.string b0) _ _ (by kernel_rfl) (by kernel_rfl) (by kernel_rfl) (eq_s (d + 0) a0 b0 w) (eqf_cons _ _ _ _ _ _ (.string a1) (.string b1) _ _ (by kernel_rfl) (by kernel_rfl) (by kernel_rfl) (eq_s (d + 0) a1 b1 w) (eqf_nil _ _ _ _))
set_option maxHeartbeats 2000000 in
theorem eq_Ports (d : Nat) (a0 : Int) (a1 : Int) (b0 : Int) (b1 : Int) (w : World) : (Op.equalIn (d + 2) 31 (.agg #[.int .i64 a0, .int .i64 a1]) (.agg #[.int .i64 b0, .int .i64 b1])).run Try.prog w = .ok (decide (a0 = b0) && (decide (a1 = b1) && true)) w := by
  rw [run_equalIn_agg w (d + 1) _ _ _ (by kernel_rfl) (by kernel_rfl)]
  exact eqf_cons _ _ _ _ _ _ (.int .i64 a0) (.int .i64 b0) _ _ (by kernel_rfl) (by kernel_rfl) (by kernel_rfl) (eq_i (d + 0) a0 b0 w) (eqf_cons _ _ _ _ _ _ (.int .i64 a1) (.int .i64 b1) _ _ (by kernel_rfl) (by kernel_rfl) (by kernel_rfl) (eq_i (d + 0) a1 b1 w) (eqf_nil _ _ _ _))
set_option maxHeartbeats 2000000 in
theorem eq_Pick (d : Nat) (a0 : ByteArray) (a1 : ByteArray) (a2 : ByteArray) (a3 : ByteArray) (a4 : Int) (a5 : Int) (a6 : Int) (a7 : Int) (a8 : Int) (b0 : ByteArray) (b1 : ByteArray) (b2 : ByteArray) (b3 : ByteArray) (b4 : Int) (b5 : Int) (b6 : Int) (b7 : Int) (b8 : Int) (w : World) : (Op.equalIn (d + 3) 33 (.agg #[.string a0, .string a1, .string a2, .string a3, .int .i64 a4, .int .i64 a5, .int .i64 a6, .int .i64 a7, .int .i64 a8]) (.agg #[.string b0, .string b1, .string b2, .string b3, .int .i64 b4, .int .i64 b5, .int .i64 b6, .int .i64 b7, .int .i64 b8])).run Try.prog w = .ok ((decide (a0 = b0) && (decide (a1 = b1) && true)) && ((decide (a2 = b2) && (decide (a3 = b3) && true)) && (decide (a4 = b4) && ((decide (a5 = b5) && (decide (a6 = b6) && true)) && ((decide (a7 = b7) && (decide (a8 = b8) && true)) && true))))) w := by
  rw [run_equalIn_agg w (d + 2) _ _ _ (by kernel_rfl) (by kernel_rfl)]
  exact eqf_cons _ _ _ _ _ _ (.agg #[.string a0, .string a1]) (.agg #[.string b0, .string b1]) _ _ (by kernel_rfl) (by kernel_rfl) (by kernel_rfl) (eq_Span (d + 0) a0 a1 b0 b1 w) (eqf_cons _ _ _ _ _ _ (.agg #[.string a2, .string a3]) (.agg #[.string b2, .string b3]) _ _ (by kernel_rfl) (by kernel_rfl) (by kernel_rfl) (eq_Span (d + 0) a2 a3 b2 b3 w) (eqf_cons _ _ _ _ _ _ (.int .i64 a4) (.int .i64 b4) _ _ (by kernel_rfl) (by kernel_rfl) (by kernel_rfl) (eq_i (d + 1) a4 b4 w) (eqf_cons _ _ _ _ _ _ (.agg #[.int .i64 a5, .int .i64 a6]) (.agg #[.int .i64 b5, .int .i64 b6]) _ _ (by kernel_rfl) (by kernel_rfl) (by kernel_rfl) (eq_Ports (d + 0) a5 a6 b5 b6 w) (eqf_cons _ _ _ _ _ _ (.agg #[.int .i64 a7, .int .i64 a8]) (.agg #[.int .i64 b7, .int .i64 b8]) _ _ (by kernel_rfl) (by kernel_rfl) (by kernel_rfl) (eq_Ports (d + 0) a7 a8 b7 b8 w) (eqf_nil _ _ _ _)))))
set_option maxHeartbeats 2000000 in
theorem eq_Flow (d : Nat) (a0 : ByteArray) (a1 : ByteArray) (a2 : Int) (a3 : Int) (a4 : Int) (b0 : ByteArray) (b1 : ByteArray) (b2 : Int) (b3 : Int) (b4 : Int) (w : World) : (Op.equalIn (d + 2) 24 (.agg #[.string a0, .string a1, .int .i64 a2, .int .i64 a3, .int .i64 a4]) (.agg #[.string b0, .string b1, .int .i64 b2, .int .i64 b3, .int .i64 b4])).run Try.prog w = .ok (decide (a0 = b0) && (decide (a1 = b1) && (decide (a2 = b2) && (decide (a3 = b3) && (decide (a4 = b4) && true))))) w := by
  rw [run_equalIn_agg w (d + 1) _ _ _ (by kernel_rfl) (by kernel_rfl)]
  exact eqf_cons _ _ _ _ _ _ (.string a0) (.string b0) _ _ (by kernel_rfl) (by kernel_rfl) (by kernel_rfl) (eq_s (d + 0) a0 b0 w) (eqf_cons _ _ _ _ _ _ (.string a1) (.string b1) _ _ (by kernel_rfl) (by kernel_rfl) (by kernel_rfl) (eq_s (d + 0) a1 b1 w) (eqf_cons _ _ _ _ _ _ (.int .i64 a2) (.int .i64 b2) _ _ (by kernel_rfl) (by kernel_rfl) (by kernel_rfl) (eq_i (d + 0) a2 b2 w) (eqf_cons _ _ _ _ _ _ (.int .i64 a3) (.int .i64 b3) _ _ (by kernel_rfl) (by kernel_rfl) (by kernel_rfl) (eq_i (d + 0) a3 b3 w) (eqf_cons _ _ _ _ _ _ (.int .i64 a4) (.int .i64 b4) _ _ (by kernel_rfl) (by kernel_rfl) (by kernel_rfl) (eq_i (d + 0) a4 b4 w) (eqf_nil _ _ _ _)))))
set_option maxHeartbeats 2000000 in
theorem eq_Rule (d : Nat) (a0 : Int) (a1 : ByteArray) (a2 : ByteArray) (a3 : ByteArray) (a4 : ByteArray) (a5 : Int) (a6 : Int) (a7 : Int) (a8 : Int) (a9 : Int) (a10 : Bool) (a11 : Bool) (a12 : Int) (a13 : Bool) (a14 : ByteArray) (a15 : ByteArray) (b0 : Int) (b1 : ByteArray) (b2 : ByteArray) (b3 : ByteArray) (b4 : ByteArray) (b5 : Int) (b6 : Int) (b7 : Int) (b8 : Int) (b9 : Int) (b10 : Bool) (b11 : Bool) (b12 : Int) (b13 : Bool) (b14 : ByteArray) (b15 : ByteArray) (w : World) : (Op.equalIn (d + 4) 35 (.agg #[.int .i64 a0, .string a1, .string a2, .string a3, .string a4, .int .i64 a5, .int .i64 a6, .int .i64 a7, .int .i64 a8, .int .i64 a9, .bool a10, .bool a11, .int .i64 a12, .bool a13, .string a14, .string a15]) (.agg #[.int .i64 b0, .string b1, .string b2, .string b3, .string b4, .int .i64 b5, .int .i64 b6, .int .i64 b7, .int .i64 b8, .int .i64 b9, .bool b10, .bool b11, .int .i64 b12, .bool b13, .string b14, .string b15])).run Try.prog w = .ok (decide (a0 = b0) && (((decide (a1 = b1) && (decide (a2 = b2) && true)) && ((decide (a3 = b3) && (decide (a4 = b4) && true)) && (decide (a5 = b5) && ((decide (a6 = b6) && (decide (a7 = b7) && true)) && ((decide (a8 = b8) && (decide (a9 = b9) && true)) && true))))) && (decide (a10 = b10) && (decide (a11 = b11) && (decide (a12 = b12) && (decide (a13 = b13) && (decide (a14 = b14) && (decide (a15 = b15) && true)))))))) w := by
  rw [run_equalIn_agg w (d + 3) _ _ _ (by kernel_rfl) (by kernel_rfl)]
  exact eqf_cons _ _ _ _ _ _ (.int .i64 a0) (.int .i64 b0) _ _ (by kernel_rfl) (by kernel_rfl) (by kernel_rfl) (eq_i (d + 2) a0 b0 w) (eqf_cons _ _ _ _ _ _ (.agg #[.string a1, .string a2, .string a3, .string a4, .int .i64 a5, .int .i64 a6, .int .i64 a7, .int .i64 a8, .int .i64 a9]) (.agg #[.string b1, .string b2, .string b3, .string b4, .int .i64 b5, .int .i64 b6, .int .i64 b7, .int .i64 b8, .int .i64 b9]) _ _ (by kernel_rfl) (by kernel_rfl) (by kernel_rfl) (eq_Pick (d + 0) a1 a2 a3 a4 a5 a6 a7 a8 a9 b1 b2 b3 b4 b5 b6 b7 b8 b9 w) (eqf_cons _ _ _ _ _ _ (.bool a10) (.bool b10) _ _ (by kernel_rfl) (by kernel_rfl) (by kernel_rfl) (eq_t (d + 2) a10 b10 w) (eqf_cons _ _ _ _ _ _ (.bool a11) (.bool b11) _ _ (by kernel_rfl) (by kernel_rfl) (by kernel_rfl) (eq_t (d + 2) a11 b11 w) (eqf_cons _ _ _ _ _ _ (.int .i64 a12) (.int .i64 b12) _ _ (by kernel_rfl) (by kernel_rfl) (by kernel_rfl) (eq_i (d + 2) a12 b12 w) (eqf_cons _ _ _ _ _ _ (.bool a13) (.bool b13) _ _ (by kernel_rfl) (by kernel_rfl) (by kernel_rfl) (eq_t (d + 2) a13 b13 w) (eqf_cons _ _ _ _ _ _ (.string a14) (.string b14) _ _ (by kernel_rfl) (by kernel_rfl) (by kernel_rfl) (eq_s (d + 2) a14 b14 w) (eqf_cons _ _ _ _ _ _ (.string a15) (.string b15) _ _ (by kernel_rfl) (by kernel_rfl) (by kernel_rfl) (eq_s (d + 2) a15 b15 w) (eqf_nil _ _ _ _))))))))
set_option maxHeartbeats 2000000 in
theorem eq_Question (d : Nat) (a0 : ByteArray) (a1 : ByteArray) (a2 : Int) (a3 : Int) (a4 : Int) (a5 : Bool) (b0 : ByteArray) (b1 : ByteArray) (b2 : Int) (b3 : Int) (b4 : Int) (b5 : Bool) (w : World) : (Op.equalIn (d + 3) 62 (.agg #[.string a0, .string a1, .int .i64 a2, .int .i64 a3, .int .i64 a4, .bool a5]) (.agg #[.string b0, .string b1, .int .i64 b2, .int .i64 b3, .int .i64 b4, .bool b5])).run Try.prog w = .ok ((decide (a0 = b0) && (decide (a1 = b1) && (decide (a2 = b2) && (decide (a3 = b3) && (decide (a4 = b4) && true))))) && (decide (a5 = b5) && true)) w := by
  rw [run_equalIn_agg w (d + 2) _ _ _ (by kernel_rfl) (by kernel_rfl)]
  exact eqf_cons _ _ _ _ _ _ (.agg #[.string a0, .string a1, .int .i64 a2, .int .i64 a3, .int .i64 a4]) (.agg #[.string b0, .string b1, .int .i64 b2, .int .i64 b3, .int .i64 b4]) _ _ (by kernel_rfl) (by kernel_rfl) (by kernel_rfl) (eq_Flow (d + 0) a0 a1 a2 a3 a4 b0 b1 b2 b3 b4 w) (eqf_cons _ _ _ _ _ _ (.bool a5) (.bool b5) _ _ (by kernel_rfl) (by kernel_rfl) (by kernel_rfl) (eq_t (d + 1) a5 b5 w) (eqf_nil _ _ _ _))
def eqbRule (r s : RuleR) : Bool := decide (r.x0 = s.x0) && (((decide (r.x1 = s.x1) && (decide (r.x2 = s.x2) && true)) && ((decide (r.x3 = s.x3) && (decide (r.x4 = s.x4) && true)) && (decide (r.x5 = s.x5) && ((decide (r.x6 = s.x6) && (decide (r.x7 = s.x7) && true)) && ((decide (r.x8 = s.x8) && (decide (r.x9 = s.x9) && true)) && true))))) && (decide (r.x10 = s.x10) && (decide (r.x11 = s.x11) && (decide (r.x12 = s.x12) && (decide (r.x13 = s.x13) && (decide (r.x14 = s.x14) && (decide (r.x15 = s.x15) && true)))))))
set_option maxHeartbeats 2000000 in
theorem eq_RuleR (r s : RuleR) (w : World) : (Op.equalIn 10000 35 (.agg r.cells.toArray) (.agg s.cells.toArray)).run Try.prog w = .ok (eqbRule r s) w := eq_Rule 9996 r.x0 r.x1 r.x2 r.x3 r.x4 r.x5 r.x6 r.x7 r.x8 r.x9 r.x10 r.x11 r.x12 r.x13 r.x14 r.x15 s.x0 s.x1 s.x2 s.x3 s.x4 s.x5 s.x6 s.x7 s.x8 s.x9 s.x10 s.x11 s.x12 s.x13 s.x14 s.x15 w
theorem eqb_Rule (r s : RuleR) : eqbRule r s = true ↔ r = s := by
  obtain ⟨a0, a1, a2, a3, a4, a5, a6, a7, a8, a9, a10, a11, a12, a13, a14, a15⟩ := r
  obtain ⟨b0, b1, b2, b3, b4, b5, b6, b7, b8, b9, b10, b11, b12, b13, b14, b15⟩ := s
  simp only [eqbRule, Bool.and_eq_true, decide_eq_true_eq, and_true, RuleR.mk.injEq, and_assoc]
end Go.Proofs.Ytmomkjgnopcobaa.EqR
