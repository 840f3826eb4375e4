/- Results of two, rows in blocks that are known whole. No function is named. -/
import Derived.Test.YtjeenmeoiidmnaaDoorSteps
import Derived.Test.YtjeenmeoiidmnaaDoorCut
import Derived.Test.YtjeenmeoiidmnaaDoorBlk
import Derived.Lib.QuietBelow
import Derived.BigQuiet
set_option linter.unusedVariables false
namespace Go.Proofs.YtjeenmeoiidmnaaDoor.Com
open Go.RowKit Go.Sort Go.Proofs.YtjeenmeoiidmnaaDoor.Sums Go.Proofs.YtjeenmeoiidmnaaDoor.Mem Go.Proofs.YtjeenmeoiidmnaaDoor.Blk Go.Proofs.YtjeenmeoiidmnaaDoor.Steps

def aggB : TypeDesc → Bool
  | .struct _ => true
  | .array _ _ => true
  | _ => false
theorem results_pair {fn : Func} {p q : Tmp} {ty : TypeId} (h : fn.results = #[.cell p ty, .tmp q]) (tmps : Array Value) (w : World) (g : Nat) (t : TypeId) (cs : Array Value) (fr : Nat × Nat) (d : TypeDesc) (v : Value)
    (hp : tmps.getD p undef = .pointer (some ⟨g, 0, none⟩)) (hq : tmps.getD q undef = v) (hg : w.heap[g]? = some (.cells cs t fr))
    (hu : Tryd.prog.underlying ty = some d) (hd : aggB d = true) (hi : (Tryd.prog.info? ty).map (·.size) = some cs.size) :
    (results fn tmps).run Tryd.prog w = .ok (.tuple #[.agg cs, v]) w := by
  have hp' : tmps[p]?.getD undef = .pointer (some ⟨g, 0, none⟩) := by simpa using hp
  have hq' : tmps[q]?.getD undef = v := by simpa using hq
  have e := run_loadVar_row (P := Tryd.prog) w g t ty cs fr d hg hu (by cases d <;> simp_all [aggB]) hi
  simp [results, h, hp', hq', asAddr, e]
theorem setRow_bel {w W : World} {g B : Nat} (h : Below B w W) (hg : B ≤ g) (cs : Array Value) : Below B w (W.setRow g cs) :=
  ⟨h.os, h.tape, h.output, by simpa [World.setRow] using h.size, fun k hk => (setRow_other W g k cs (by omega)).trans (h.block k hk)⟩
theorem grown_row (w : World) (g : Nat) (cs : Array Value) : w.grownBy (w.setRow g cs) (some g) := ⟨rfl, rfl, rfl, by simp [World.setRow], fun k _ hk => setRow_other w g k cs (fun e => hk (by rw [e]))⟩
theorem owns_ne {w : World} {base n k : Nat} {v : Value} {l : List Int} (h : Owns w base v n l) (hk : k < base) : v.ownBlock = none ∨ v.ownBlock ≠ some k := by
  refine .inr fun q => ?_
  have := (h.lt k q).1
  omega
theorem own_other {w : World} {base n q : Nat} {v : Value} {l : List Int} {t : TypeId} {cs : Array Value} (h : Owns w base v n l) (hq : Blk w q t cs) (ht : t ≠ 5) : v.ownBlock ≠ some q := by
  rcases h.2.2 with ⟨rfl, _⟩ | ⟨g, cap, cur, fz, rfl, _, hg, _⟩
  · simp [Value.ownBlock]
  · intro e
    have : g = q := by simpa [Value.ownBlock] using e
    subst this
    unfold Blk at hq
    rw [hg] at hq
    injection hq with e
    injection e with _ e _
    exact ht e.symm
theorem blk_setRow {w : World} {g k : Nat} {t : TypeId} {cs ds : Array Value} (h : Blk w k t cs) (hk : k ≠ g) : Blk (w.setRow g ds) k t cs := (setRow_other w g k ds hk).trans h
theorem owns_far {w : World} {base n k : Nat} {v : Value} {l : List Int} (h : Owns w base v n l) (hk : k < base) : some k ≠ v.ownBlock := fun q => by
  have := (h.lt k q.symm).1
  omega
theorem owns_made (w : World) (n base : Nat) (hb : base ≤ w.heap.size) (hn : n ≤ 1048576) :
    Owns (w.alloc (.cells (madeCells #[.int .u8 0] n) 5)) base (.slice (some ⟨w.heap.size, 0, none⟩) 0 n) 0 [] :=
  ⟨rfl, fun _ h => (by cases h), .inr ⟨w.heap.size, n, madeCells #[.int .u8 0] n, (0, 0), rfl, hb, heap_alloc_new w _, .inl rfl, Nat.zero_le _, by simp only [maxLen]; omega, by simp [madeCells], rfl⟩⟩
theorem load_row {w : World} {g : Nat} {ty : TypeId} {cs : Array Value} {d : TypeDesc} (h : Blk w g ty cs) (hu : Tryd.prog.underlying ty = some d) (hd : aggB d = true) (hi : (Tryd.prog.info? ty).map (·.size) = some cs.size) : (loadVar ty ⟨g, 0, none⟩).run Tryd.prog w = .ok (.agg cs) w :=
  run_loadVar_row (P := Tryd.prog) w g ty ty cs (0, 0) d h hu (by cases d <;> simp_all [aggB]) hi
end Go.Proofs.YtjeenmeoiidmnaaDoor.Com
