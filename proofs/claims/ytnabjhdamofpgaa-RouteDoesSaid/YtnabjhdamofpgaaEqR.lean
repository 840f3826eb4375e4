/- Structs compared. -/
import Derived.Test.YtnabjhdamofpgaaArgT
import Derived.Laws.StructEq
set_option linter.unusedVariables false
namespace Go.Proofs.Ytnabjhdamofpgaa.EqR
open Go.RowKit Go.Proofs.Ytnabjhdamofpgaa.Mem Go.Proofs.Ytnabjhdamofpgaa.ArgT
set_option maxRecDepth 100000
theorem toList_eq (a b : ByteArray) : (a.toList == b.toList) = decide (a = b) := by
  by_cases h : a = b
  · subst h; simp
  · have : a.toList ≠ b.toList := fun e => h (by
      cases a; cases b
      rw [ByteArray.toList_eq, ByteArray.toList_eq] at e
      simp at e
      rw [e])
    simp [h, this]
theorem eqf_nil (d : Nat) (xs ys : Array Value) (w : World) : (Op.eqFields d xs ys []).run Try.prog w = .ok true w := rfl
theorem eqf_cons (d : Nat) (xs ys : Array Value) (f : Field) (fs : List Field) (w : World) (a b : Value) (r s : Bool) (hn : (f.name != "_") = true) (ha : (part f.type xs f.offset).run Try.prog w = .ok a w) (hb : (part f.type ys f.offset).run Try.prog w = .ok b w)
    (hr : (Op.equalIn d f.type a b).run Try.prog w = .ok r w) (hs : (Op.eqFields d xs ys fs).run Try.prog w = .ok s w) : (Op.eqFields d xs ys (f :: fs)).run Try.prog w = .ok (r && s) w := by
  have h : ¬ f.name = "_" := by simpa using hn
  simp only [Op.eqFields, ne_eq, h, not_false_eq_true, if_true, Sem.run_bind, ha, hb, hr, Result.andThen_ok]
  cases r
  · simp
  · simp [hs]
theorem eq_s (d : Nat) (a b : ByteArray) (w : World) : (Op.equalIn (d + 1) 9 (.string a) (.string b)).run Try.prog w = .ok (decide (a = b)) w := by
  rw [run_equalIn_string w d _ a b Try.underlying9, toList_eq]
theorem eq_i (d : Nat) (a b : Int) (w : World) : (Op.equalIn (d + 1) 3 (.int .i64 a) (.int .i64 b)).run Try.prog w = .ok (decide (a = b)) w := by
  rw [run_equalIn_int w d _ .i64 .i64 a b Try.underlying3]
  rfl
set_option maxHeartbeats 2000000 in
theorem eq_Prefix (d : Nat) (a0 : ByteArray) (a1 : Int) (b0 : ByteArray) (b1 : Int) (w : World) : (Op.equalIn (d + 2) 31 (.agg #[.string a0, .int .i64 a1]) (.agg #[.string b0, .int .i64 b1])).run Try.prog w = .ok (decide (a0 = b0) && (decide (a1 = b1) && true)) w := by
  rw [run_equalIn_agg w (d + 1) _ _ _ (by kernel_rfl) (by kernel_rfl)]
  exact eqf_cons _ _ _ _ _ _ (.string a0) (.string b0) _ _ (by kernel_rfl) (by kernel_rfl) (by kernel_rfl) (eq_s (d + 0) a0 b0 w) (eqf_cons _ _ _ _ _ _ (.int .i64 a1) (.int .i64 b1) _ _ (by kernel_rfl) (by kernel_rfl) (by kernel_rfl) (eq_i (d + 0) a1 b1 w) (eqf_nil _ _ _ _))
set_option maxHeartbeats 2000000 in
theorem eq_Route (d : Nat) (a0 : ByteArray) (a1 : Int) (a2 : ByteArray) (a3 : Int) (b0 : ByteArray) (b1 : Int) (b2 : ByteArray) (b3 : Int) (w : World) : (Op.equalIn (d + 3) 33 (.agg #[.string a0, .int .i64 a1, .string a2, .int .i64 a3]) (.agg #[.string b0, .int .i64 b1, .string b2, .int .i64 b3])).run Try.prog w = .ok ((decide (a0 = b0) && (decide (a1 = b1) && true)) && (decide (a2 = b2) && (decide (a3 = b3) && true))) w := by
  rw [run_equalIn_agg w (d + 2) _ _ _ (by kernel_rfl) (by kernel_rfl)]
  exact eqf_cons _ _ _ _ _ _ (.agg #[.string a0, .int .i64 a1]) (.agg #[.string b0, .int .i64 b1]) _ _ (by kernel_rfl) (by kernel_rfl) (by kernel_rfl) (eq_Prefix (d + 0) a0 a1 b0 b1 w) (eqf_cons _ _ _ _ _ _ (.string a2) (.string b2) _ _ (by kernel_rfl) (by kernel_rfl) (by kernel_rfl) (eq_s (d + 1) a2 b2 w) (eqf_cons _ _ _ _ _ _ (.int .i64 a3) (.int .i64 b3) _ _ (by kernel_rfl) (by kernel_rfl) (by kernel_rfl) (eq_i (d + 1) a3 b3 w) (eqf_nil _ _ _ _)))
def eqbRoute (r s : RouteR) : Bool := (decide (r.x0 = s.x0) && (decide (r.x1 = s.x1) && true)) && (decide (r.x2 = s.x2) && (decide (r.x3 = s.x3) && true))
set_option maxHeartbeats 2000000 in
theorem eq_RouteR (r s : RouteR) (w : World) : (Op.equalIn 10000 33 (.agg r.cells.toArray) (.agg s.cells.toArray)).run Try.prog w = .ok (eqbRoute r s) w := eq_Route 9997 r.x0 r.x1 r.x2 r.x3 s.x0 s.x1 s.x2 s.x3 w
theorem eqb_Route (r s : RouteR) : eqbRoute r s = true ↔ r = s := by
  obtain ⟨a0, a1, a2, a3⟩ := r
  obtain ⟨b0, b1, b2, b3⟩ := s
  simp only [eqbRoute, Bool.and_eq_true, decide_eq_true_eq, and_true, RouteR.mk.injEq, and_assoc]
end Go.Proofs.Ytnabjhdamofpgaa.EqR
