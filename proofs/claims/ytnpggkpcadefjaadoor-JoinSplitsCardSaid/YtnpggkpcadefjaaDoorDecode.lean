/- The contract of decode: a head is read, or what is wrong first is told. -/
import Derived.Test.YtnpggkpcadefjaaDoorM13
import Derived.Test.YtnpggkpcadefjaaDoorM15
import Derived.Test.YtnpggkpcadefjaaDoorM14
import Derived.Deep.QuietTactic
import Derived.Laws.Tables
import Derived.Laws.CopyOwn
set_option linter.unusedVariables false
namespace Go.Proofs.YtnpggkpcadefjaaDoor.Decode
open Go.RowKit Go.Proofs.YtnpggkpcadefjaaDoor.Sums Go.Proofs.YtnpggkpcadefjaaDoor.Mem Go.Proofs.YtnpggkpcadefjaaDoor.Blk Go.Proofs.YtnpggkpcadefjaaDoor.Bits Go.Proofs.YtnpggkpcadefjaaDoor.Read Go.Proofs.YtnpggkpcadefjaaDoor.InetSum

/-- What is wrong with some bytes: the number of the first part that does not hold. -/
def perr (l : List Int) : Int :=
  if l.length < 20 then 8
  else if l.getD 0 0 / 16 ≠ 4 then 4
  else if l.getD 0 0 % 16 * 4 < 20 then 4
  else if (l.length : Int) < l.getD 0 0 % 16 * 4 then 8
  else if (l.length : Int) < 256 * l.getD 2 0 + l.getD 3 0 then 8
  else if 256 * l.getD 2 0 + l.getD 3 0 < l.getD 0 0 % 16 * 4 then 4
  else if 256 * l.getD 2 0 + l.getD 3 0 < (l.length : Int) then 4
  else if 32768 ≤ 256 * l.getD 6 0 + l.getD 7 0 then 4
  else if sums 0 (l.take (l.getD 0 0 % 16 * 4).toNat) ≠ 65535 then 5
  else 0

theorem perr_eq (m : Nat) (b0 b1 b2 b3 b4 b5 b6 b7 b8 b9 b10 b11 : Int) (r : List Int) (hr : r.length = m) (H T : Nat) (hH : b0 % 16 * 4 = (H : Int)) (hT : 256 * b2 + b3 = (T : Int)) :
    perr (b0 :: b1 :: b2 :: b3 :: b4 :: b5 :: b6 :: b7 :: b8 :: b9 :: b10 :: b11 :: r) = if m + 12 < 20 then 8 else if b0 / 16 ≠ 4 then 4 else if (H : Int) < 20 then 4 else if ((m + 12 : Nat) : Int) < (H : Int) then 8 else if ((m + 12 : Nat) : Int) < (T : Int) then 8
      else if (T : Int) < (H : Int) then 4 else if (T : Int) < ((m + 12 : Nat) : Int) then 4 else if 32768 ≤ 256 * b6 + b7 then 4 else if sums 0 ((b0 :: b1 :: b2 :: b3 :: b4 :: b5 :: b6 :: b7 :: b8 :: b9 :: b10 :: b11 :: r).take H) ≠ 65535 then 5 else 0 := by
  have hl : (b0 :: b1 :: b2 :: b3 :: b4 :: b5 :: b6 :: b7 :: b8 :: b9 :: b10 :: b11 :: r).length = m + 12 := by simp [hr]
  unfold perr
  rw [hl]
  simp only [List.getD_cons_zero, List.getD_cons_succ, hH, hT, Int.toNat_natCast]

def aggB : TypeDesc → Bool
  | .struct _ => true
  | .array _ _ => true
  | _ => false
theorem results_pair {fn : Func} {p q : Tmp} {ty : TypeId} (h : fn.results = #[.cell p ty, .tmp q]) (tmps : Array Value) (w : World) (g : Nat) (t : TypeId) (cs : Array Value) (fr : Nat × Nat) (d : TypeDesc) (v : Value)
    (hp : tmps.getD p undef = .pointer (some ⟨g, 0, none⟩)) (hq : tmps.getD q undef = v) (hg : w.heap[g]? = some (.cells cs t fr))
    (hu : Tryd.prog.underlying ty = some d) (hd : aggB d = true) (hi : (Tryd.prog.info? ty).map (·.size) = some cs.size) :
    (results fn tmps).run Tryd.prog w = .ok (.tuple #[.agg cs, v]) w := by
  have hp' : tmps[p]?.getD undef = .pointer (some ⟨g, 0, none⟩) := by simpa using hp
  have hq' : tmps[q]?.getD undef = v := by simpa using hq
  have e := run_loadVar_row (P := Tryd.prog) w g t ty cs fr d hg hu (by cases d <;> simp_all [aggB]) hi
  simp [results, h, hp', hq', asAddr, e]

theorem one8 (a0 a1 a2 a3 a4 a5 a6 a7 : Int) : (#[Value.int .i64 a0, .int .i64 a1, .int .i64 a2, .int .i64 a3, .int .i64 a4, .int .i64 a5, .int .i64 a6, .int .i64 a7] : Array Value).all (·.oneCell') = true := by
  simp [Value.oneCell']

end Go.Proofs.YtnpggkpcadefjaaDoor.Decode
