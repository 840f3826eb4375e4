/- Slices of rows; a row cloned. -/
import Derived.Test.YtnpggkpcadefjaaDoorSteps
import Derived.Test.YtnpggkpcadefjaaDoorBlk
import Derived.WalkSpells
import Derived.Lib.SliceRun
import Derived.Lib.QuietBelow
import Derived.BigQuiet
set_option linter.unusedVariables false
namespace Go.Proofs.YtnpggkpcadefjaaDoor.Cut
open Go.RowKit Go.Proofs.YtnpggkpcadefjaaDoor.Sums Go.Proofs.YtnpggkpcadefjaaDoor.Mem Go.Proofs.YtnpggkpcadefjaaDoor.Blk Go.Proofs.YtnpggkpcadefjaaDoor.Steps

theorem byte_elem (w : World) : (sizeOf (Tryd.prog.elem 30)).run Tryd.prog w = .ok 1 w := by kernel_rfl

theorem cut_lh (b p n c l h : Nat) (w : World) (h1 : l ≤ h) (h2 : h ≤ c) (h3 : l < c) :
    (Instr.sliceAt 30 (.slice (some ⟨b, p, none⟩) n c) (some (.int .i64 (l : Int))) (some (.int .i64 (h : Int))) none).run Tryd.prog w = .ok (.slice (some ⟨b, p + l, none⟩) (h - l) (c - l)) w := by
  have e := run_slice_lh (P := Tryd.prog) (w := w) (t := 30) (a := some ⟨b, p, none⟩) (len := n) (cap := c) (ht := (by kernel_rfl)) .i64 .i64 (l : Int) (h : Int) (by omega) (by omega) (by omega)
  have ne : ¬ c = l := by omega
  rw [run_sliceAt_slice (P := Tryd.prog) (h := (by kernel_rfl)), e, byte_elem]
  simp only [Result.andThen_ok, sliced, Int.toNat_natCast, if_neg ne, Option.map_some, Nat.mul_one, add_plain]

theorem cut_l (b p n c l : Nat) (w : World) (h1 : l ≤ n) (h2 : n ≤ c) (h3 : l < c) :
    (Instr.sliceAt 30 (.slice (some ⟨b, p, none⟩) n c) (some (.int .i64 (l : Int))) none none).run Tryd.prog w = .ok (.slice (some ⟨b, p + l, none⟩) (n - l) (c - l)) w := by
  have e := run_slice_l (P := Tryd.prog) (w := w) (t := 30) (a := some ⟨b, p, none⟩) (len := n) (cap := c) (ht := (by kernel_rfl)) .i64 (l : Int) (by omega) (by omega)
  have ne : ¬ c = l := by omega
  rw [run_sliceAt_slice (P := Tryd.prog) (h := (by kernel_rfl)), e, byte_elem]
  simp only [Result.andThen_ok, sliced, Int.toNat_natCast, if_neg ne, Option.map_some, Nat.mul_one, add_plain]

/-- Where a slice from a place on begins. -/
def adr (b p c lo : Nat) : Addr := if c = lo then ⟨b, p, none⟩ else ⟨b, p + lo, none⟩
theorem cutA_lh (b p n c l h : Nat) (w : World) (h1 : l ≤ h) (h2 : h ≤ c) :
    (Instr.sliceAt 30 (.slice (some ⟨b, p, none⟩) n c) (some (.int .i64 (l : Int))) (some (.int .i64 (h : Int))) none).run Tryd.prog w = .ok (.slice (some (adr b p c l)) (h - l) (c - l)) w := by
  have e := run_slice_lh (P := Tryd.prog) (w := w) (t := 30) (a := some ⟨b, p, none⟩) (len := n) (cap := c) (ht := (by kernel_rfl)) .i64 .i64 (l : Int) (h : Int) (by omega) (by omega) (by omega)
  rw [run_sliceAt_slice (P := Tryd.prog) (h := (by kernel_rfl)), e, byte_elem]
  unfold adr
  by_cases ne : c = l
  · simp only [Result.andThen_ok, sliced, Int.toNat_natCast, if_pos ne]
  · simp only [Result.andThen_ok, sliced, Int.toNat_natCast, if_neg ne, Option.map_some, Nat.mul_one, add_plain]
theorem cutA_l (b p n c l : Nat) (w : World) (h1 : l ≤ n) (h2 : n ≤ c) :
    (Instr.sliceAt 30 (.slice (some ⟨b, p, none⟩) n c) (some (.int .i64 (l : Int))) none none).run Tryd.prog w = .ok (.slice (some (adr b p c l)) (n - l) (c - l)) w := by
  have e := run_slice_l (P := Tryd.prog) (w := w) (t := 30) (a := some ⟨b, p, none⟩) (len := n) (cap := c) (ht := (by kernel_rfl)) .i64 (l : Int) (by omega) (by omega)
  rw [run_sliceAt_slice (P := Tryd.prog) (h := (by kernel_rfl)), e, byte_elem]
  unfold adr
  by_cases ne : c = l
  · simp only [Result.andThen_ok, sliced, Int.toNat_natCast, if_pos ne]
  · simp only [Result.andThen_ok, sliced, Int.toNat_natCast, if_neg ne, Option.map_some, Nat.mul_one, add_plain]
theorem cutA_holds {w : World} {B b p n c lo hi : Nat} {l : List Int} (h : Holds w B (some ⟨b, p, none⟩) n c l) (h1 : lo ≤ hi) (h2 : hi ≤ n) : Holds w B (some (adr b p c lo)) (hi - lo) (c - lo) ((l.drop lo).take (hi - lo)) := by
  have hnc := h.2.1
  by_cases hz : hi = lo
  · subst hz
    have hcm := h.2.2.1
    rw [Nat.sub_self, List.take_zero]
    exact ⟨rfl, Nat.zero_le _, by omega, fun _ h => (by cases h), fun h => absurd h (by omega)⟩
  · obtain ⟨b', o', e, hh⟩ := h.from_ (k := lo) (by omega)
    injection e with e
    injection e with e1 e2
    subst e1 e2
    have ne : ¬ c = lo := by omega
    unfold adr
    rw [if_neg ne]
    exact hh.upto (by omega)
theorem cutA_rest {w : World} {B b p n c lo : Nat} {l : List Int} (h : Holds w B (some ⟨b, p, none⟩) n c l) (h1 : lo ≤ n) : Holds w B (some (adr b p c lo)) (n - lo) (c - lo) (l.drop lo) := by
  have := cutA_holds h h1 (Nat.le_refl n)
  rwa [List.take_of_length_le (by rw [List.length_drop, h.1]; exact Nat.le_refl _)] at this

theorem clone_any (ad : Addr) (n c : Nat) (l : List Int) (w : World) (B : Nat) (h : Holds w B (some ad) n c l) (hB : B ≤ w.heap.size) (hn : n ≤ 1048576) :
    Calls Tryd.prog 45 #[.slice (some ad) n c] w fun e w' => ∃ A' c', e = .returned (.slice A' n c') ∧ Owns w' w.heap.size (.slice A' n c') n l ∧ Below w.heap.size w w' := by
  have qT : ∀ (w : World) (a : Option Addr) (n c n' c' : Nat), (binOp .eql 30 (.slice a n c) (.slice none n' c')).run Tryd.prog w = .ok (.bool a.isNone) w := fun w a n c n' c' => Lib.run_eql_slice_nil w _ _ a n c n' c' Tryd.underlying30
  have O0 := Lib.hid (Owns.lits w w.heap.size (Nat.le_refl _) [] 0 w.heap.size #[] rfl rfl rfl (by omega) (fun _ h => by cases h))
  have H0 := Lib.hid (h.below ((Below.refl B w).alloc hB (.cells #[] 5)))
  have B0 := Lib.hid ((Below.refl w.heap.size w).alloc (Nat.le_refl _) (.cells #[] 5))
  have hs : 0 + n ≤ 1048576 := by omega
  clear h
  go_enter Tryd.func45, Tryd.ntmps45
  go_wp2_with (at_builtin
               refine wpList_append_bytes rfl (.tmp 5) (.tmp 6) rfl w.heap.size _ 0 [] rfl O0.out B (some ad) n c l rfl H0.out hs (by simp) ?_
               intro v1 w1 o1 g1 _
               obtain ⟨A', c', rfl, _⟩ := o1.slice)
  go_ret
  rw [Nat.zero_add] at *
  exact ⟨A', c', rfl, by simpa using o1, B0.out.grown g1 (by simp) fun k hk => (O0.out.lt k hk).1⟩

end Go.Proofs.YtnpggkpcadefjaaDoor.Cut

/- Results of two, rows in blocks that are known whole. No function is named. -/
set_option linter.unusedVariables false
namespace Go.Proofs.YtnpggkpcadefjaaDoor.Com
open Go.RowKit Go.Sort Go.Proofs.YtnpggkpcadefjaaDoor.Sums Go.Proofs.YtnpggkpcadefjaaDoor.Mem Go.Proofs.YtnpggkpcadefjaaDoor.Blk Go.Proofs.YtnpggkpcadefjaaDoor.Steps

def aggB : TypeDesc → Bool
  | .struct _ => true
  | .array _ _ => true
  | _ => false
theorem results_pair {fn : Func} {p q : Tmp} {ty : TypeId} (h : fn.results = #[.cell p ty, .tmp q]) (tmps : Array Value) (w : World) (g : Nat) (t : TypeId) (cs : Array Value) (fr : Nat × Nat) (d : TypeDesc) (v : Value)
    (hp : tmps.getD p undef = .pointer (some ⟨g, 0, none⟩)) (hq : tmps.getD q undef = v) (hg : w.heap[g]? = some (.cells cs t fr))
    (hu : Tryd.prog.underlying ty = some d) (hd : aggB d = true) (hi : (Tryd.prog.info? ty).map (·.size) = some cs.size) :
    (results fn tmps).run Tryd.prog w = .ok (.tuple #[.agg cs, v]) w := by
  have hp' : tmps[p]?.getD undef = .pointer (some ⟨g, 0, none⟩) := by simpa using hp
  have hq' : tmps[q]?.getD undef = v := by simpa using hq
  have e := run_loadVar_row (P := Tryd.prog) w g t ty cs fr d hg hu (by cases d <;> simp_all [aggB]) hi
  simp [results, h, hp', hq', asAddr, e]
theorem setRow_bel {w W : World} {g B : Nat} (h : Below B w W) (hg : B ≤ g) (cs : Array Value) : Below B w (W.setRow g cs) :=
  ⟨h.os, h.tape, h.output, by simpa [World.setRow] using h.size, fun k hk => (setRow_other W g k cs (by omega)).trans (h.block k hk)⟩
theorem grown_row (w : World) (g : Nat) (cs : Array Value) : w.grownBy (w.setRow g cs) (some g) := ⟨rfl, rfl, rfl, by simp [World.setRow], fun k _ hk => setRow_other w g k cs (fun e => hk (by rw [e]))⟩
theorem owns_ne {w : World} {base n k : Nat} {v : Value} {l : List Int} (h : Owns w base v n l) (hk : k < base) : v.ownBlock = none ∨ v.ownBlock ≠ some k := by
  refine .inr fun q => ?_
  have := (h.lt k q).1
  omega
theorem own_other {w : World} {base n q : Nat} {v : Value} {l : List Int} {t : TypeId} {cs : Array Value} (h : Owns w base v n l) (hq : Blk w q t cs) (ht : t ≠ 5) : v.ownBlock ≠ some q := by
  rcases h.2.2 with ⟨rfl, _⟩ | ⟨g, cap, cur, fz, rfl, _, hg, _⟩
  · simp [Value.ownBlock]
  · intro e
    have : g = q := by simpa [Value.ownBlock] using e
    subst this
    unfold Blk at hq
    rw [hg] at hq
    injection hq with e
    injection e with _ e _
    exact ht e.symm
theorem blk_setRow {w : World} {g k : Nat} {t : TypeId} {cs ds : Array Value} (h : Blk w k t cs) (hk : k ≠ g) : Blk (w.setRow g ds) k t cs := (setRow_other w g k ds hk).trans h
theorem owns_far {w : World} {base n k : Nat} {v : Value} {l : List Int} (h : Owns w base v n l) (hk : k < base) : some k ≠ v.ownBlock := fun q => by
  have := (h.lt k q.symm).1
  omega
theorem owns_made (w : World) (n base : Nat) (hb : base ≤ w.heap.size) (hn : n ≤ 1048576) :
    Owns (w.alloc (.cells (madeCells #[.int .u8 0] n) 5)) base (.slice (some ⟨w.heap.size, 0, none⟩) 0 n) 0 [] :=
  ⟨rfl, fun _ h => (by cases h), .inr ⟨w.heap.size, n, madeCells #[.int .u8 0] n, (0, 0), rfl, hb, heap_alloc_new w _, .inl rfl, Nat.zero_le _, by simp only [maxLen]; omega, by simp [madeCells], rfl⟩⟩
theorem load_row {w : World} {g : Nat} {ty : TypeId} {cs : Array Value} {d : TypeDesc} (h : Blk w g ty cs) (hu : Tryd.prog.underlying ty = some d) (hd : aggB d = true) (hi : (Tryd.prog.info? ty).map (·.size) = some cs.size) : (loadVar ty ⟨g, 0, none⟩).run Tryd.prog w = .ok (.agg cs) w :=
  run_loadVar_row (P := Tryd.prog) w g ty ty cs (0, 0) d h hu (by cases d <;> simp_all [aggB]) hi
end Go.Proofs.YtnpggkpcadefjaaDoor.Com

