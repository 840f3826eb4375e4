/- SpdBehind: what its loops lean on. -/
import Derived.Test.YtmomkjgnopcobaaLawPl0
set_option linter.unusedVariables false
namespace Go.Proofs.Ytmomkjgnopcobaa.LawBh0
open Go.RowKit Go.Proofs.Ytmomkjgnopcobaa.Mem Go.Proofs.Ytmomkjgnopcobaa.Blk Go.Proofs.Ytmomkjgnopcobaa.Ahead Go.Proofs.Ytmomkjgnopcobaa.PickD Go.Proofs.Ytmomkjgnopcobaa.PickR1 Go.Proofs.Ytmomkjgnopcobaa.PickR2 Go.Proofs.Ytmomkjgnopcobaa.Pick1 Go.Proofs.Ytmomkjgnopcobaa.Pick2 Go.Proofs.Ytmomkjgnopcobaa.Pick3 Go.Proofs.Ytmomkjgnopcobaa.Pick4 Go.Proofs.Ytmomkjgnopcobaa.Free Go.Proofs.Ytmomkjgnopcobaa.Steps Go.Proofs.Ytmomkjgnopcobaa.Regs Go.Proofs.Ytmomkjgnopcobaa.ArgT Go.Proofs.Ytmomkjgnopcobaa.MapK Go.Proofs.Ytmomkjgnopcobaa.Quest Go.Proofs.Ytmomkjgnopcobaa.RowN Go.Proofs.Ytmomkjgnopcobaa.SpdD Go.Proofs.Ytmomkjgnopcobaa.Spd1 Go.Proofs.Ytmomkjgnopcobaa.Spd3 Go.Proofs.Ytmomkjgnopcobaa.Spd4 Go.Proofs.Ytmomkjgnopcobaa.Spd5 Go.Proofs.Ytmomkjgnopcobaa.Spd6 Go.Proofs.Ytmomkjgnopcobaa.Spd7 Go.Proofs.Ytmomkjgnopcobaa.Spd8 Go.Proofs.Ytmomkjgnopcobaa.SpdA Go.Proofs.Ytmomkjgnopcobaa.Com Go.Proofs.Ytmomkjgnopcobaa.LawL16 Go.Proofs.Ytmomkjgnopcobaa.Few16 Go.Proofs.Ytmomkjgnopcobaa.LawPl0

/-- An element appended to a row that the call owns. -/
theorem append_row {e sl : TypeId} {N : Nat} {i : TypeInfo} {z : Value} (hu : Try.prog.underlying sl = some (.slice e)) (hi : Try.prog.info? e = some i) (hz : i.zero = some z) (hN : i.size = N) (hzN : z.cells.size = N) (hb : i.bytes ≤ 4096)
    {A : Option Addr} {n c : Nat} {cs : List Value} {vb : Nat} {V : Array Value} {w : World} (h : RowAt e N w A n c cs) (hV : Blk w vb e V) (hs : V.size = N) (h1 : ∀ v ∈ V.toList, v.oneCell' = true) (hn : n ≤ 1000000) :
    ∃ A' c' w', (∀ ty, (Builtin.append_ #[sl, sl] ty #[.slice A n c, .slice (some ⟨vb, 0, none⟩) 1 1]).run Try.prog w = .ok (.slice A' (n + 1) c') w') ∧ RowAt e N w' A' (n + 1) c' (cs ++ V.toList) ∧ (A' = A ∨ ∃ k, A' = some ⟨k, 0, none⟩ ∧ w.heap.size ≤ k) ∧ Keep (fun k => ¬ own A k) w w' := by
  have hsrc : Src Try.prog i.size sl (.slice (some ⟨vb, 0, none⟩) 1 1) 1 V.toList w := Src.ofSlice w hu ⟨vb, 0, none⟩ 1 1 V.toList (by simp [hs, hN]) (fun j u hj => by
    rw [Addr.add_lit, Nat.zero_add, hV.cell]
    simpa using hj) h1
  have fl : (cs ++ V.toList).length = (n + 1) * N := by rw [List.length_append, h.len, Array.length_toList, hs, Nat.add_mul, Nat.one_mul]
  have f1 : ∀ v ∈ cs ++ V.toList, v.oneCell' = true := fun v hv => (List.mem_append.1 hv).elim (h.one v) (h1 v)
  by_cases room : n + 1 ≤ c
  · obtain ⟨b, X, rfl, hX, hXc, hXt⟩ : ∃ b X, A = some ⟨b, 0, none⟩ ∧ Blk w b e X ∧ c * N ≤ X.size ∧ X.toList.take (n * N) = cs := by
      rcases h.lies with ⟨_, h2⟩ | h'
      · omega
      · exact h'
    have mm : (n + 1) * N ≤ c * N := Nat.mul_le_mul_right N room
    have fit : n * i.size + V.toList.length ≤ X.size := by
      have e : n * N + N = (n + 1) * N := by rw [Nat.add_mul, Nat.one_mul]
      rw [hN, Array.length_toList, hs, e]
      exact Nat.le_trans mm hXc
    refine ⟨some ⟨b, 0, none⟩, c, w.setRow b (spl X (n * i.size) V.toList), fun ty => run_append_spl hu hi hX n c ⟨vb, 0, none⟩ 1 1 V.toList (by simp [hs, hN]) (fun j u hj => by
        rw [Addr.add_lit, Nat.zero_add, hV.cell]
        simpa using hj) h1 room fit ty, ⟨fl, room, h.big, f1, .inr ⟨b, _, rfl, setRow_heap _ _ _ (spl X (n * i.size) V.toList) _ _ hX, by rw [spl_size fit]; exact hXc, ?_⟩⟩, .inl rfl, Keep.row (F := fun k => ¬ own (some ⟨b, 0, none⟩) k) w b _ (fun z => z ⟨_, rfl, rfl⟩)⟩
    unfold spl
    rw [hN, hXt]
    exact List.take_left' fl
  · have hold : (Builtin.firstCells i.size n (.slice A n c)).run Try.prog w.drew = .ok cs.toArray w.drew := by
      rw [hN]
      rcases h.lies with ⟨rfl, h2⟩ | ⟨b, X, rfl, hX, hXc, hXt⟩
      · have : n = 0 := by have := h.le; omega
        subst this
        have hc : cs = [] := List.length_eq_zero_iff.1 (by simpa using h.len)
        rw [hc]
        exact run_firstCells_none w.drew N 0 0 c
      · exact run_firstCells_some w.drew N n ⟨b, 0, none⟩ n c cs h.len (fun j v hj => by
          rw [Addr.add_lit, Nat.zero_add]
          exact h.cell rfl hj)
    have g2 : grownCap w (n + 1) c e ≤ 9223372036854775807 := by
      have := grownCap_le_maxLen w (n + 1) c e (by unfold maxLen; omega)
      unfold maxLen at this
      omega
    have g1 := grownCap_ge w (n + 1) c e
    have hbb : (n + 1) * i.bytes ≤ 140737488355328 := Nat.le_trans (Nat.mul_le_mul (show n + 1 ≤ 1000001 by omega) hb) (by decide)
    refine ⟨some ⟨w.heap.size, 0, none⟩, grownCap w (n + 1) c e, _, fun ty => run_append_grow_src w sl sl ty e i z hu hi hz A n c cs hold _ 1 V.toList hsrc (by omega) (by omega) (growslice_fits (by omega) hbb), ⟨fl, g1, g2, f1, .inr ⟨_, _, rfl, Blk.new w.drew e _, ?_, ?_⟩⟩, .inr ⟨_, rfl, Nat.le_refl _⟩, Keep.of ((below_drewN (Below.refl w.heap.size w) 1).alloc (Nat.le_refl _) _)⟩
    · rw [Array.size_append, List.size_toArray, fl, size_zeroCells, hzN, ← Nat.add_mul]
      exact Nat.mul_le_mul_right N (by omega)
    · rw [Array.toList_append]
      exact List.take_left' fl
theorem info_int : ∃ i, Try.prog.info? 3 = some i ∧ i.zero = some (.int .i64 0) ∧ i.size = 1 ∧ i.bytes = 8 := by
  have h : (Try.prog.info? 3).map (fun i => (i.zero, i.size, i.bytes)) = some (some (.int .i64 0), 1, 8) := by kernel_rfl
  obtain ⟨i, hi, hz⟩ := Option.map_eq_some_iff.1 h
  simp only [Prod.mk.injEq] at hz
  exact ⟨i, hi, hz.1, hz.2.1, hz.2.2⟩
theorem append_int {A : Option Addr} {n c : Nat} {cs : List Value} {w : World} (v : Int) (h : RowAt 3 1 w A n c cs) (hn : n ≤ 1000000) :
    ∃ A' c' w', (∀ ty, (Builtin.append_ #[49, 49] ty #[.slice A n c, .slice (some ⟨w.heap.size, 0, none⟩) 1 1]).run Try.prog (w.alloc (.cells #[.int .i64 v] 3)) = .ok (.slice A' (n + 1) c') w') ∧ RowAt 3 1 w' A' (n + 1) c' (cs ++ [.int .i64 v]) ∧ (A' = A ∨ ∃ k, A' = some ⟨k, 0, none⟩ ∧ w.heap.size ≤ k) ∧ Keep (fun k => ¬ own A k) w w' := by
  obtain ⟨i, hi, hz, hsz, hby⟩ := info_int
  have hb := (Below.refl w.heap.size w).alloc (Nat.le_refl _) (.cells #[.int .i64 v] 3)
  obtain ⟨A', c', w', h1, h2, h3, h4⟩ := append_row (sl := 49) Try.underlying49 hi hz hsz rfl (by rw [hby]; decide) (h.below hb) (Blk.new w 3 #[.int .i64 v]) rfl (by simp [Value.oneCell']) hn
  exact ⟨A', c', w', h1, h2, h3.imp id fun ⟨k, e1, e2⟩ => ⟨k, e1, Nat.le_trans (by simp) e2⟩, (Keep.of hb).trans h4⟩
theorem SpdAt.keepW {F G : Nat → Prop} {w w' : World} {gs : Nat} {rs : List RuleR} (h : SpdAt F w gs rs) (hk : Keep G w w') (hG : ∀ k, ¬ F k → G k) : SpdAt (Fu F w.heap.size w'.heap.size) w' gs rs := by
  obtain ⟨⟨A, c, gm, es, h1, h2, h3, h4, h5, h6, h7⟩, ok, few⟩ := h
  refine ⟨⟨A, c, gm, es, (hk.block gs (hG gs h5) h1.lt).trans h1, h2.keep (fun k o hl => hk.block k (hG k (h7 k o)) hl), h3.same (hk.block gm (hG gm h6) h3.lt), h4, ?_, ?_, ?_⟩, ok, few⟩
  · have := h1.lt
    rintro (z | z)
    · exact h5 z
    · omega
  · have := h3.lt
    rintro (z | z)
    · exact h6 z
    · omega
  · intro k hk
    have := h2.lt hk
    rintro (z | z)
    · exact h7 k hk z
    · omega
def quF (f : FlowR) : Qu := ⟨f.x0, f.x1, f.x2, f.x3, f.x4, true⟩
/-- What the flows found, one by one. -/
def vals (rs : List RuleR) (fs : List FlowR) (i : Nat) : List Value := (fs.take i).map fun f => .int .i64 (firstI rs (quF f))
theorem vals_succ {rs : List RuleR} {fs : List FlowR} {i : Nat} {f : FlowR} (h : fs[i]? = some f) : vals rs fs i ++ [.int .i64 (firstI rs (quF f))] = vals rs fs (i + 1) := by
  unfold vals
  rw [List.take_add_one, h, List.map_append]
  rfl
theorem vals_at {rs : List RuleR} {fs : List FlowR} {n i : Nat} {f : FlowR} (hi : i < n) (h : fs[i]? = some f) : (vals rs fs n)[i]? = some (.int .i64 (firstI rs (quF f))) := by
  unfold vals
  rw [List.getElem?_map, List.getElem?_take, if_pos hi, h]
  rfl
theorem flows_at {w : World} {A : Option Addr} {n : Nat} {rs : List FlowR} (h : FlowRows w A n rs) {i : Nat} (hi : i < n) : ∃ b o f, A = some ⟨b, o, none⟩ ∧ b < w.heap.size ∧ rs[i]? = some f ∧ f.ok w ∧ Part.At w b (o + i * 5) f.cells := by
  obtain ⟨b, o, h1, h2, h3⟩ := h.2 (by omega)
  have hr : rs[i]? = some (rs[i]'(by rw [h.1]; exact hi)) := List.getElem?_eq_getElem _
  exact ⟨b, o, _, h1, h2, hr, (h3 i _ hr).1, (h3 i _ hr).2⟩
theorem flows_below {w w' : World} {A : Option Addr} {n : Nat} {rs : List FlowR} (h : FlowRows w A n rs) (hb : Below w.heap.size w w') : FlowRows w' A n rs := by
  refine ⟨h.1, fun hn => ?_⟩
  obtain ⟨b, o, h1, h2, h3⟩ := h.2 hn
  exact ⟨b, o, h1, Nat.lt_of_lt_of_le h2 hb.size, fun k r hr => ⟨(h3 k r hr).1, fun j v hj => (hb.cell (p := ⟨b, o + k * 5 + j, none⟩) h2).trans ((h3 k r hr).2 j v hj)⟩⟩
/-- A rule behind the others. -/
theorem first_behind (rs : List RuleR) (r : RuleR) (q : Qu) : (firstI rs q ≠ -1 → firstI (rs ++ [r]) q = firstI rs q) ∧ (firstI rs q = -1 → firstI (rs ++ [r]) q = -1 ∨ firstI (rs ++ [r]) q = (rs.length : Int)) := by
  have e : firstN (rs ++ [r]) q = (firstN rs q).or (if apB r q then some rs.length else none) := by
    unfold firstN
    rw [List.findIdx?_append]
    cases h : apB r q <;> simp [List.findIdx?_cons, h]
  unfold firstI
  rw [e]
  cases firstN rs q with
  | some j => exact ⟨fun _ => rfl, fun h => by simp at h⟩
  | none =>
    refine ⟨fun h => absurd rfl h, fun _ => ?_⟩
    cases apB r q
    · exact .inl rfl
    · exact .inr rfl
theorem first_ge (rs : List RuleR) (q : Qu) : firstI rs q = -1 ∨ ∃ j : Nat, firstI rs q = (j : Int) ∧ j < rs.length := by
  unfold firstI
  cases h : firstN rs q with
  | none => exact .inl rfl
  | some j =>
    refine .inr ⟨j, rfl, ?_⟩
    unfold firstN at h
    rw [List.findIdx?_eq_some_iff_getElem] at h
    exact h.1
end Go.Proofs.Ytmomkjgnopcobaa.LawBh0
