/- Structs compared. -/
import Derived.Test.YtijlggfcinnfeaaArgT
import Derived.Laws.StructEq
set_option linter.unusedVariables false
namespace Go.Proofs.Ytijlggfcinnfeaa.EqR
open Go.RowKit Go.Proofs.Ytijlggfcinnfeaa.Mem Go.Proofs.Ytijlggfcinnfeaa.ArgT
set_option maxRecDepth 100000
theorem toList_eq (a b : ByteArray) : (a.toList == b.toList) = decide (a = b) := by
  by_cases h : a = b
  · subst h; simp
  · have : a.toList ≠ b.toList := fun e => h (by
      cases a; cases b
      rw [ByteArray.toList_eq, ByteArray.toList_eq] at e
      simp at e
      rw [e])
    simp [h, this]
theorem eqf_nil (d : Nat) (xs ys : Array Value) (w : World) : (Op.eqFields d xs ys []).run Try.prog w = .ok true w := rfl
theorem eqf_cons (d : Nat) (xs ys : Array Value) (f : Field) (fs : List Field) (w : World) (a b : Value) (r s : Bool) (hn : (f.name != "_") = true) (ha : (part f.type xs f.offset).run Try.prog w = .ok a w) (hb : (part f.type ys f.offset).run Try.prog w = .ok b w)
    (hr : (Op.equalIn d f.type a b).run Try.prog w = .ok r w) (hs : (Op.eqFields d xs ys fs).run Try.prog w = .ok s w) : (Op.eqFields d xs ys (f :: fs)).run Try.prog w = .ok (r && s) w := by
  have h : ¬ f.name = "_" := by simpa using hn
  simp only [Op.eqFields, ne_eq, h, not_false_eq_true, if_true, Sem.run_bind, ha, hb, hr, Result.andThen_ok]
  cases r
  · simp
  · simp [hs]
theorem eq_s (d : Nat) (a b : ByteArray) (w : World) : (Op.equalIn (d + 1) 9 (.string a) (.string b)).run Try.prog w = .ok (decide (a = b)) w := by
  rw [run_equalIn_string w d _ a b Try.underlying9, toList_eq]
theorem eq_i (d : Nat) (a b : Int) (w : World) : (Op.equalIn (d + 1) 3 (.int .i64 a) (.int .i64 b)).run Try.prog w = .ok (decide (a = b)) w := by
  rw [run_equalIn_int w d _ .i64 .i64 a b Try.underlying3]
  rfl
set_option maxHeartbeats 2000000 in
theorem eq_Span (d : Nat) (a0 : ByteArray) (a1 : ByteArray) (b0 : ByteArray) (b1 : ByteArray) (w : World) : (Op.equalIn (d + 2) 33 (.agg #[.string a0, .string a1]) (.agg #[.string b0, .string b1])).run Try.prog w = .ok (decide (a0 = b0) && (decide (a1 = b1) && true)) w := by
  rw [run_equalIn_agg w (d + 1) _ _ _ (by kernel_rfl) (by kernel_rfl)]
  exact eqf_cons _ _ _ _ _ _ (.string a0) (.string b0) _ _ (by kernel_rfl) (by kernel_rfl) (by kernel_rfl) (eq_s (d + 0) a0 b0 w) (eqf_cons _ _ _ _ _ _ (.string a1) (.string b1) _ _ (by kernel_rfl) (by kernel_rfl) (by kernel_rfl) (eq_s (d + 0) a1 b1 w) (eqf_nil _ _ _ _))
set_option maxHeartbeats 2000000 in
theorem eq_Ports (d : Nat) (a0 : Int) (a1 : Int) (b0 : Int) (b1 : Int) (w : World) : (Op.equalIn (d + 2) 35 (.agg #[.int .i64 a0, .int .i64 a1]) (.agg #[.int .i64 b0, .int .i64 b1])).run Try.prog w = .ok (decide (a0 = b0) && (decide (a1 = b1) && true)) w := by
  rw [run_equalIn_agg w (d + 1) _ _ _ (by kernel_rfl) (by kernel_rfl)]
  exact eqf_cons _ _ _ _ _ _ (.int .i64 a0) (.int .i64 b0) _ _ (by kernel_rfl) (by kernel_rfl) (by kernel_rfl) (eq_i (d + 0) a0 b0 w) (eqf_cons _ _ _ _ _ _ (.int .i64 a1) (.int .i64 b1) _ _ (by kernel_rfl) (by kernel_rfl) (by kernel_rfl) (eq_i (d + 0) a1 b1 w) (eqf_nil _ _ _ _))
set_option maxHeartbeats 2000000 in
theorem eq_Pick (d : Nat) (a0 : ByteArray) (a1 : ByteArray) (a2 : ByteArray) (a3 : ByteArray) (a4 : Int) (a5 : Int) (a6 : Int) (a7 : Int) (a8 : Int) (b0 : ByteArray) (b1 : ByteArray) (b2 : ByteArray) (b3 : ByteArray) (b4 : Int) (b5 : Int) (b6 : Int) (b7 : Int) (b8 : Int) (w : World) : (Op.equalIn (d + 3) 37 (.agg #[.string a0, .string a1, .string a2, .string a3, .int .i64 a4, .int .i64 a5, .int .i64 a6, .int .i64 a7, .int .i64 a8]) (.agg #[.string b0, .string b1, .string b2, .string b3, .int .i64 b4, .int .i64 b5, .int .i64 b6, .int .i64 b7, .int .i64 b8])).run Try.prog w = .ok ((decide (a0 = b0) && (decide (a1 = b1) && true)) && ((decide (a2 = b2) && (decide (a3 = b3) && true)) && (decide (a4 = b4) && ((decide (a5 = b5) && (decide (a6 = b6) && true)) && ((decide (a7 = b7) && (decide (a8 = b8) && true)) && true))))) w := by
  rw [run_equalIn_agg w (d + 2) _ _ _ (by kernel_rfl) (by kernel_rfl)]
  exact eqf_cons _ _ _ _ _ _ (.agg #[.string a0, .string a1]) (.agg #[.string b0, .string b1]) _ _ (by kernel_rfl) (by kernel_rfl) (by kernel_rfl) (eq_Span (d + 0) a0 a1 b0 b1 w) (eqf_cons _ _ _ _ _ _ (.agg #[.string a2, .string a3]) (.agg #[.string b2, .string b3]) _ _ (by kernel_rfl) (by kernel_rfl) (by kernel_rfl) (eq_Span (d + 0) a2 a3 b2 b3 w) (eqf_cons _ _ _ _ _ _ (.int .i64 a4) (.int .i64 b4) _ _ (by kernel_rfl) (by kernel_rfl) (by kernel_rfl) (eq_i (d + 1) a4 b4 w) (eqf_cons _ _ _ _ _ _ (.agg #[.int .i64 a5, .int .i64 a6]) (.agg #[.int .i64 b5, .int .i64 b6]) _ _ (by kernel_rfl) (by kernel_rfl) (by kernel_rfl) (eq_Ports (d + 0) a5 a6 b5 b6 w) (eqf_cons _ _ _ _ _ _ (.agg #[.int .i64 a7, .int .i64 a8]) (.agg #[.int .i64 b7, .int .i64 b8]) _ _ (by kernel_rfl) (by kernel_rfl) (by kernel_rfl) (eq_Ports (d + 0) a7 a8 b7 b8 w) (eqf_nil _ _ _ _)))))
set_option maxHeartbeats 2000000 in
theorem eq_Flow (d : Nat) (a0 : ByteArray) (a1 : ByteArray) (a2 : Int) (a3 : Int) (a4 : Int) (b0 : ByteArray) (b1 : ByteArray) (b2 : Int) (b3 : Int) (b4 : Int) (w : World) : (Op.equalIn (d + 2) 24 (.agg #[.string a0, .string a1, .int .i64 a2, .int .i64 a3, .int .i64 a4]) (.agg #[.string b0, .string b1, .int .i64 b2, .int .i64 b3, .int .i64 b4])).run Try.prog w = .ok (decide (a0 = b0) && (decide (a1 = b1) && (decide (a2 = b2) && (decide (a3 = b3) && (decide (a4 = b4) && true))))) w := by
  rw [run_equalIn_agg w (d + 1) _ _ _ (by kernel_rfl) (by kernel_rfl)]
  exact eqf_cons _ _ _ _ _ _ (.string a0) (.string b0) _ _ (by kernel_rfl) (by kernel_rfl) (by kernel_rfl) (eq_s (d + 0) a0 b0 w) (eqf_cons _ _ _ _ _ _ (.string a1) (.string b1) _ _ (by kernel_rfl) (by kernel_rfl) (by kernel_rfl) (eq_s (d + 0) a1 b1 w) (eqf_cons _ _ _ _ _ _ (.int .i64 a2) (.int .i64 b2) _ _ (by kernel_rfl) (by kernel_rfl) (by kernel_rfl) (eq_i (d + 0) a2 b2 w) (eqf_cons _ _ _ _ _ _ (.int .i64 a3) (.int .i64 b3) _ _ (by kernel_rfl) (by kernel_rfl) (by kernel_rfl) (eq_i (d + 0) a3 b3 w) (eqf_cons _ _ _ _ _ _ (.int .i64 a4) (.int .i64 b4) _ _ (by kernel_rfl) (by kernel_rfl) (by kernel_rfl) (eq_i (d + 0) a4 b4 w) (eqf_nil _ _ _ _)))))
end Go.Proofs.Ytijlggfcinnfeaa.EqR
