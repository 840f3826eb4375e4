/- Closed facts on what errors.Is asks, with a number of the program's own as its target; errors.is of a fault that wraps a number; errno. The number 219 is 100 and how many types the translation has. -/
import Derived.Test.YtjfieoleoodfdaaChecked
import Derived.WalkKit
import Derived.ProofKit
import Derived.LaidEql
import Derived.Stop.Asserts
import Derived.RowKitTokens
import Derived.Below
import Derived.Lib.Hide
import Derived.LoopTactic
namespace Go.Proofs.Ytjfieoleoodfdaa.Errno
open Go.RowKit Go.Extern.Stop Go.Stop Go.Extern
set_option linter.unusedVariables false

theorem typeOfE (v : Value) (w : World) : (ReflectliteType.typeOf #[.iface 28 v]).run Try.prog w = .ok (.iface 75 (.agg #[.pointer (some ⟨0, 28, none⟩)])) w := by kernel_rfl
theorem comparableE (w : World) : ((ReflectliteType.method fun t => do Rtype.noPackHeld "Comparable" t; (fun a => Value.bool a.comparable) <$> typeInfo t) #[.agg #[.pointer (some ⟨0, 28, none⟩)]]).run Try.prog w = .ok (.bool true) w := by kernel_rfl
theorem methodComparable (v : Value) (w : World) : (Go.method 219 75 v "Comparable").run Try.prog w = .ok (66, v) w := by kernel_rfl
theorem methodUnwrap (v : Value) (w : World) : (Go.method 219 64 v "Unwrap").run Try.prog w = .ok (62, v) w := by kernel_rfl
theorem noIsF (v : Value) (xT : TypeId) (w : World) : (Instr.typeAssert (.iface 64 v) xT 77 true).run Try.prog w = .ok (.tuple #[.nilIface, .bool false]) w := run_typeAssert_lacksB Try.underlying77 (by kernel_rfl) (by kernel_rfl) v xT w
theorem noIsE (v : Value) (xT : TypeId) (w : World) : (Instr.typeAssert (.iface 28 v) xT 77 true).run Try.prog w = .ok (.tuple #[.nilIface, .bool false]) w := run_typeAssert_lacksB Try.underlying77 (by kernel_rfl) (by kernel_rfl) v xT w
theorem hasUnwrapF (v : Value) (xT : TypeId) (w : World) : (Instr.typeAssert (.iface 64 v) xT 80 true).run Try.prog w = .ok (.tuple #[.iface 64 v, .bool true]) w := run_typeAssert_hasB Try.underlying80 (by kernel_rfl) v xT w
theorem noUnwrapE (v : Value) (xT : TypeId) (w : World) : (Instr.typeAssert (.iface 28 v) xT 80 true).run Try.prog w = .ok (.tuple #[.nilIface, .bool false]) w := run_typeAssert_lacksB Try.underlying80 (by kernel_rfl) (by kernel_rfl) v xT w
theorem noUnwrapsE (v : Value) (xT : TypeId) (w : World) : (Instr.typeAssert (.iface 28 v) xT 82 true).run Try.prog w = .ok (.tuple #[.nilIface, .bool false]) w := run_typeAssert_lacksB Try.underlying82 (by kernel_rfl) (by kernel_rfl) v xT w

theorem equalIn_iface_int {P : Program} (w : World) (d : Nat) {ti tn : TypeId} {ms : Array (String × TypeId)} {i : TypeInfo} {k : IntKind} (a b : Int)
    (hi : P.underlying ti = some (.interface ms)) (hn : P.underlying tn = some (.int k)) (hinfo : P.info? tn = some i) (hcomp : i.comparable = true) :
    (Op.equalIn (d + 2) ti (.iface tn (.int k a)) (.iface tn (.int k b))).run P w = .ok (a == b) w := by
  simp [Op.equalIn, run_underlying hi, run_underlying hn, typeInfo, hinfo, hcomp]
theorem eql_iface_int {P : Program} (w : World) {ti tn : TypeId} {ms : Array (String × TypeId)} {i : TypeInfo} {k : IntKind} (a b : Int)
    (hi : P.underlying ti = some (.interface ms)) (hn : P.underlying tn = some (.int k)) (hinfo : P.info? tn = some i) (hcomp : i.comparable = true) :
    (binOp .eql ti (.iface tn (.int k a)) (.iface tn (.int k b))).run P w = .ok (.bool (a == b)) w := by
  simp only [binOp]
  simp [Op.equal, Op.maxDepth, equalIn_iface_int w 9998 a b hi hn hinfo hcomp]
theorem compE : (Try.prog.info? 28).map (·.comparable) = some true := by kernel_rfl

theorem unwrap_any (s : ByteArray) (v : Value) (w : World) : Calls Try.prog 62 #[.agg #[.string s, .iface 28 v]] w fun e w' => e = .returned (.iface 28 v) ∧ w' = w.alloc (.cells #[.string s, .iface 28 v] 64) := by
  go_enter Try.func62, Try.ntmps62
  go_wp2
  go_ret
  exact ⟨rfl, rfl⟩

set_option maxRecDepth 1000000 in
set_option maxHeartbeats 2000000 in
theorem is_fault (s : ByteArray) (k t : Int) (w : World) :
    Calls Try.prog 43 #[.iface 64 (.agg #[.string s, .iface 28 (.int .i64 k)]), .iface 28 (.int .i64 t), .bool true] w fun e w' => e = .returned (.bool (k == t)) ∧ Below w.heap.size w w' := by
  obtain ⟨i, hi, hcmp⟩ := Option.map_eq_some_iff.1 compE
  have nF := noIsF
  have nE := noIsE
  have uF := hasUnwrapF
  have uE := noUnwrapE
  have vE := noUnwrapsE
  have mU := methodUnwrap
  have hty := fun W => run_eql_iface_types (P := Try.prog) 64 28 (.agg #[.string s, .iface 28 (.int .i64 k)]) (.int .i64 t) Try.underlying51 (by decide) W
  have heq := fun W => eql_iface_int (P := Try.prog) W k t Try.underlying51 Try.underlying28 hi hcmp
  have B0 := Lib.hid ((Below.refl w.heap.size w).alloc (Nat.le_refl _) (.cells #[.string s, .iface 28 (.int .i64 k)] 64))
  clear hi hcmp
  cases hk : (k == t)
  all_goals
    rw [hk] at heq
    clear hk
    go_enter Try.func43, Try.ntmps43
    go_wp2
    refine wp_loop_rounds 2 ?_
    rw [rounds_succ]
    go_wp2_with (go_at_call 62; refine (unwrap_any _ _ _).mono ?_; rintro e w' ⟨rfl, rfl⟩)
    rw [rounds_succ]
    go_wp2
    go_ret
    exact ⟨rfl, B0.out⟩

set_option maxRecDepth 100000 in
theorem isE_fault (s : ByteArray) (k t : Int) (w : World) :
    Calls Try.prog 35 #[.iface 64 (.agg #[.string s, .iface 28 (.int .i64 k)]), .iface 28 (.int .i64 t)] w fun e w' => e = .returned (.bool (k == t)) ∧ Below w.heap.size w w' := by
  have h10 := @run_callFunc_extern Try.prog 42 _ Extern.ReflectliteType.typeOf Try.func42 (by kernel_rfl) (by kernel_rfl) (by kernel_rfl) (by kernel_rfl)
  have h30 := @run_callFunc_extern Try.prog 66 _ (Extern.ReflectliteType.method fun t => do Extern.Rtype.noPackHeld "Comparable" t; pure (.bool (← typeInfo t).comparable)) Try.func66 (by kernel_rfl) (by kernel_rfl) (by kernel_rfl) (by kernel_rfl)
  have tT := typeOfE
  have cT := comparableE
  have mR := methodComparable
  have hcon := Lib.hid (is_fault s k t w)
  go_enter Try.func35, Try.ntmps35
  go_wp2_with fail
  refine hcon.out.mono ?_
  rintro e w' ⟨rfl, hb⟩
  go_wp2_with fail
  go_ret
  exact ⟨rfl, hb⟩

theorem isE_nil (t : Int) (w : World) :
    Calls Try.prog 35 #[.nilIface, .iface 28 (.int .i64 t)] w fun e w' => e = .returned (.bool false) ∧ w = w' := by
  have hn := run_eql_iface_nil_left (P := Try.prog) w 28 (.int .i64 t) Try.underlying51
  go_enter Try.func35, Try.ntmps35
  go_wp2
  go_ret
  exact ⟨rfl, rfl⟩
end Go.Proofs.Ytjfieoleoodfdaa.Errno
