/- Routes appended; parts of a row of routes. -/
import Derived.Test.YtnabjhdamofpgaaTabR2
import Derived.Test.YtnabjhdamofpgaaRowP
set_option linter.unusedVariables false
namespace Go.Proofs.Ytnabjhdamofpgaa.TabA
open Go.RowKit Go.PlainAid Go.Proofs.Ytnabjhdamofpgaa.Sums Go.Proofs.Ytnabjhdamofpgaa.Mem Go.Proofs.Ytnabjhdamofpgaa.Blk Go.Proofs.Ytnabjhdamofpgaa.Grp Go.Proofs.Ytnabjhdamofpgaa.AdrD Go.Proofs.Ytnabjhdamofpgaa.AdrR Go.Proofs.Ytnabjhdamofpgaa.Steps Go.Proofs.Ytnabjhdamofpgaa.Com Go.Proofs.Ytnabjhdamofpgaa.RowN Go.Proofs.Ytnabjhdamofpgaa.RowA Go.Proofs.Ytnabjhdamofpgaa.ArgT Go.Proofs.Ytnabjhdamofpgaa.TabD Go.Proofs.Ytnabjhdamofpgaa.TabR1 Go.Proofs.Ytnabjhdamofpgaa.TabR2 Go.Proofs.Ytnabjhdamofpgaa.RowP

theorem info_rt : ∃ i, Try.prog.info? 33 = some i ∧ i.zero = some (.agg #[.string ⟨#[]⟩, .int .i64 0, .string ⟨#[]⟩, .int .i64 0]) ∧ i.size = 4 ∧ i.bytes = 48 := by
  have h : (Try.prog.info? 33).map (fun i => (i.zero, i.size, i.bytes)) = some (some (.agg #[.string ⟨#[]⟩, .int .i64 0, .string ⟨#[]⟩, .int .i64 0]), 4, 48) := by kernel_rfl
  obtain ⟨i, hi, hz⟩ := Option.map_eq_some_iff.1 h
  simp only [Prod.mk.injEq] at hz
  exact ⟨i, hi, hz.1, hz.2.1, hz.2.2⟩
theorem one_flat (rs : List RouteR) : ∀ v ∈ rs.flatMap RouteR.cells, v.oneCell' = true := fun v hv => by
  obtain ⟨r, _, h⟩ := List.mem_flatMap.1 hv
  exact one_ra r v h
/-- Routes appended to a row of routes. -/
theorem append_rt {A : Option Addr} {n c : Nat} {rs : List RouteR} {w : World} (hx : RowX RT 4 w A n c (rs.flatMap RouteR.cells)) (S : Option Addr) (m k : Nat) (ss : List RouteR) (hm : ss.length = m)
    (hsrc : (S = none ∧ m = 0) ∨ ∃ b o, S = some ⟨b, o, none⟩ ∧ Part.At w b o (ss.flatMap RouteR.cells)) (hn : n + m ≤ 1000000) :
    ∃ A' c' w', (∀ ty, (Builtin.append_ #[27, 27] ty #[.slice A n c, .slice S m k]).run Try.prog w = .ok (.slice A' (n + m) c') w') ∧ RowX RT 4 w' A' (n + m) c' ((rs ++ ss).flatMap RouteR.cells) ∧ (A' = A ∨ ∃ k, A' = some ⟨k, 0, none⟩ ∧ w.heap.size ≤ k) ∧ Keep (fun k => ¬ own A k) w w' := by
  obtain ⟨i, hi, hz, hsz, hby⟩ := info_rt
  have hA : A = none → n = 0 := fun e => by
    have := hx.row.le
    rcases hx.row.lies with ⟨_, h⟩ | ⟨b, X, h, _⟩
    · omega
    · rw [e] at h; cases h
  rw [List.flatMap_append]
  exact append_part Try.underlying27 hi hz hsz rfl (by rw [hby]; decide) hx hA S m k (ss.flatMap RouteR.cells) (by rw [flat_len, hm]) (hsrc.imp id fun ⟨b, o, e, h⟩ => ⟨_, e, fun j v hj => by
    rw [Addr.add_lit]
    exact h j v hj⟩) (one_flat ss) hn
theorem flat_take : ∀ (rs : List RouteR) (i : Nat), (rs.take i).flatMap RouteR.cells = (rs.flatMap RouteR.cells).take (i * 4)
  | [], i => by simp
  | a :: rs, 0 => by simp
  | a :: rs, i + 1 => by
    rw [List.take_succ_cons, List.flatMap_cons, List.flatMap_cons, flat_take rs i, show (i + 1) * 4 = a.cells.length + i * 4 by rw [len_ra]; omega, List.take_length_add_append]
theorem flat_drop : ∀ (rs : List RouteR) (i : Nat), (rs.drop i).flatMap RouteR.cells = (rs.flatMap RouteR.cells).drop (i * 4)
  | [], i => by simp
  | a :: rs, 0 => by simp
  | a :: rs, i + 1 => by
    rw [List.drop_succ_cons, List.flatMap_cons, flat_drop rs i, show (i + 1) * 4 = a.cells.length + i * 4 by rw [len_ra]; omega, List.drop_length_add_append]
theorem part_take {w : World} {b n c : Nat} {rs : List RouteR} (h : RowAt RT 4 w (some ⟨b, 0, none⟩) n c (rs.flatMap RouteR.cells)) (i : Nat) : Part.At w b 0 ((rs.take i).flatMap RouteR.cells) := fun j v hj => by
  rw [flat_take, List.getElem?_take] at hj
  rw [Nat.zero_add]
  split at hj
  · exact h.cell rfl hj
  · cases hj
def off (c i : Nat) : Nat := if c = i then 0 else i * 4
theorem part_drop {w : World} {b n c : Nat} {rs : List RouteR} (h : RowAt RT 4 w (some ⟨b, 0, none⟩) n c (rs.flatMap RouteR.cells)) (hn : rs.length = n) (i : Nat) (hi : i ≤ n) : Part.At w b (off c i) ((rs.drop i).flatMap RouteR.cells) := fun j v hj => by
  have hl := (List.getElem?_eq_some_iff.1 hj).1
  rw [flat_len, List.length_drop] at hl
  have := h.le
  unfold off
  rw [if_neg (by omega)]
  rw [flat_drop, List.getElem?_drop] at hj
  exact h.cell rfl hj
theorem elem_rt : Try.prog.elem 27 = 33 := by kernel_rfl
theorem size_rt (w : World) : (sizeOf (Try.prog.elem 27)).run Try.prog w = .ok 4 w := by kernel_rfl
theorem und_rt : Try.prog.underlying 27 = some (.slice (Try.prog.elem 27)) := by kernel_rfl
theorem run_take (A : Option Addr) (n c i : Nat) (x : Int) (hx : x = (i : Int)) (hi : i ≤ c) (h0 : A = none → i = c) (W : World) : (Instr.slice 27 (.slice A n c) none (some (.int .i64 x)) none).run Try.prog W = .ok (.slice A i c) W := by
  subst hx
  rw [run_slice_h W 27 A n c und_rt .i64 (i : Int) (by omega) (by omega), size_rt]
  simp only [Result.andThen_ok, sliced, Int.toNat_natCast, Nat.sub_zero, Nat.zero_mul]
  cases A with
  | none => simp
  | some a => simp [Addr.add]
theorem run_drop (b n c i : Nat) (x : Int) (hx : x = (i : Int)) (hi : i ≤ n) (W : World) : (Instr.slice 27 (.slice (some ⟨b, 0, none⟩) n c) (some (.int .i64 x)) none none).run Try.prog W = .ok (.slice (some ⟨b, off c i, none⟩) (n - i) (c - i)) W := by
  subst hx
  rw [run_slice_l W 27 (some ⟨b, 0, none⟩) n c und_rt .i64 (i : Int) (by omega) (by omega), size_rt]
  simp only [Result.andThen_ok, sliced, Int.toNat_natCast, off]
  split <;> simp [Addr.add_lit]
theorem run_drop0 (W : World) : (Instr.slice 27 (.slice none 0 0) (some (.int .i64 0)) none none).run Try.prog W = .ok (.slice none 0 0) W := by
  rw [run_slice_l W 27 none 0 0 und_rt .i64 0 (by omega) (by omega), size_rt]
  rfl
theorem there_some {rs : List RouteR} {a : ByteArray} {m : Int} (h : thereB rs a m = true) : placeN rs a m < rs.length ∧ ∃ r, rs[placeN rs a m]? = some r ∧ r.x0 = a ∧ r.x1 = m := by
  unfold thereB at h
  split at h
  · rename_i r hr
    simp only [Bool.and_eq_true, decide_eq_true_eq] at h
    exact ⟨(List.getElem?_eq_some_iff.1 hr).1, r, hr, h⟩
  · cases h
end Go.Proofs.Ytnabjhdamofpgaa.TabA
