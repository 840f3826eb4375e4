/- The contract of examineBytes: what the first 40 bytes show. -/
import Derived.Test.YtjfieoleoodfdaaRegs6
import Derived.Test.YtjfieoleoodfdaaCheck6
set_option linter.unusedVariables false
namespace Go.Proofs.Ytjfieoleoodfdaa.Exb6
open Go.RowKit Go.Proofs.Ytjfieoleoodfdaa.Sums Go.Proofs.Ytjfieoleoodfdaa.Mem Go.Proofs.Ytjfieoleoodfdaa.P6 Go.Proofs.Ytjfieoleoodfdaa.Blk Go.Proofs.Ytjfieoleoodfdaa.Regs

/-- What the first 40 bytes show. -/
def eb (l : List Int) : Int :=
  if l.length < 40 then 8
  else if l.getD 0 0 / 16 ≠ 6 then 4
  else if (l.length : Int) < 40 + (256 * l.getD 4 0 + l.getD 5 0) then 8
  else if 40 + (256 * l.getD 4 0 + l.getD 5 0) < (l.length : Int) then 4
  else 0
theorem perr_eb {l : List Int} (h : eb l ≠ 0) : perr l = eb l := by
  unfold eb at h ⊢
  unfold perr
  by_cases a1 : l.length < 40
  · rw [if_pos a1, if_pos a1]
  rw [if_neg a1] at h
  rw [if_neg a1, if_neg a1]
  by_cases a2 : l.getD 0 0 / 16 ≠ 6
  · rw [if_pos a2, if_pos a2]
  rw [if_neg a2] at h
  rw [if_neg a2, if_neg a2]
  by_cases a3 : (l.length : Int) < 40 + (256 * l.getD 4 0 + l.getD 5 0)
  · rw [if_pos a3, if_pos a3]
  rw [if_neg a3] at h
  rw [if_neg a3, if_neg a3]
  by_cases a4 : 40 + (256 * l.getD 4 0 + l.getD 5 0) < (l.length : Int)
  · rw [if_pos a4, if_pos a4]
  rw [if_neg a4] at h
  exact absurd rfl h
theorem eb_zero {l : List Int} (h : eb l = 0) : 40 ≤ l.length ∧ l.getD 0 0 / 16 = 6 ∧ (l.length : Int) = 40 + (256 * l.getD 4 0 + l.getD 5 0) ∧ perr l = if exts (l.getD 6 0) true (l.drop 40) = none then 4 else 0 := by
  unfold eb at h
  split at h
  · cases h
  rename_i a1
  split at h
  · cases h
  rename_i a2
  split at h
  · cases h
  rename_i a3
  split at h
  · cases h
  rename_i a4
  refine ⟨by omega, by omega, by omega, ?_⟩
  unfold perr
  rw [if_neg a1, if_neg a2, if_neg a3, if_neg a4]

/-- What a check of bytes gives. -/
def Gb (k : Int) (w : World) (e : Ending) (w' : World) : Prop := (k ≠ 0 ∧ (∃ s, e = .returned (.iface 64 (.agg #[.string s, .iface 28 (.int .i64 k)]))) ∧ (k = 1 ∨ k = 2 ∨ k = 4 ∨ k = 8) ∨ (k = 0 ∧ e = .returned .nilIface)) ∧ Below w.heap.size w w'

set_option maxHeartbeats 1000000 in
theorem exb_any (A : Option Addr) (n c : Nat) (l : List Int) (w : World) (B : Nat) (h : Holds w B A n c l) (hn : n ≤ 1048576) : Calls Try.prog 39 #[.slice A n c] w (Gb (eb l) w) := by
  have hl := h.1
  by_cases h40 : n < 40
  · have E : Hid (eb l = 8) := Lib.hid (by unfold eb; rw [if_pos (by omega)])
    clear h hl
    go_enter Try.func39, Try.ntmps39
    go_wp2_with fail
    go_ret
    exact ⟨.inl ⟨by rw [E.out]; decide, ⟨_, by rw [E.out]; rfl⟩, by rw [E.out]; decide⟩, Below.refl _ _⟩
  obtain ⟨b, p, rfl, _⟩ := h.2.2.2.2 (by omega)
  have c0 := cell_getD h 0 (by omega)
  have c4 := cell_getD h 4 (by omega)
  have c5 := cell_getD h 5 (by omega)
  have b0 := getD_in h.2.2.2.1 0
  have b4 := getD_in h.2.2.2.1 4
  have b5 := getD_in h.2.2.2.1 5
  have EB : Hid (eb l = if l.getD 0 0 / 16 ≠ 6 then 4 else if (n : Int) < 40 + (256 * l.getD 4 0 + l.getD 5 0) then 8 else if 40 + (256 * l.getD 4 0 + l.getD 5 0) < (n : Int) then 4 else 0) := Lib.hid (by unfold eb; rw [if_neg (by omega), hl])
  have hc := h.2.1
  clear h hl
  generalize l.getD 0 0 = z0 at *
  generalize l.getD 4 0 = z4 at *
  generalize l.getD 5 0 = z5 at *
  obtain ⟨T, hT⟩ : ∃ T : Nat, (T : Int) = 40 + (256 * z4 + z5) := ⟨(40 + (256 * z4 + z5)).toNat, by omega⟩
  have TT := Lib.hid hT
  have e1 : IntKind.i64.wrap (z4 * 256) = z4 * 256 := IntWalk.i64_in _ (by omega)
  have e2 : IntKind.i64.wrap (40 + z4 * 256) = 40 + z4 * 256 := IntWalk.i64_in _ (by omega)
  have e3 : IntKind.i64.wrap (40 + z4 * 256 + z5) = (T : Int) := by rw [hT, IntWalk.i64_in _ (by omega)]; omega
  have e4 : IntKind.i64.wrap z4 = z4 := IntWalk.i64_in _ (by omega)
  have e5 : IntKind.i64.wrap z5 = z5 := IntWalk.i64_in _ (by omega)
  have i0 : 0 < n := by omega
  have i4 : (4 : Int) < (n : Int) := by omega
  have i5 : (5 : Int) < (n : Int) := by omega
  clear hT
  go_enter Try.func39, Try.ntmps39
  go_wp2_with fail
  go_quiet (fail)
  clear e1 e2 e3 e4 e5 c4 c5
  have c0' : (w.drewN nq).cell? ⟨b, p, none⟩ = some (.int .u8 z0) := c0
  have BB : Hid (Below w.heap.size w (w.drewN nq)) := Lib.hid (below_drewN (Below.refl _ _) nq)
  clear c0
  generalize w.drewN nq = w1 at *
  have tz := TT.out
  by_cases q1 : z0 / 16 = 6
  · by_cases q2 : n < T
    · have E : Hid (eb l = 8) := Lib.hid (by rw [EB.out, if_neg (by simpa using q1), if_pos (by omega)])
      have q2' : decide (n < T) = true := decide_eq_true q2
      have q1' : (z0 / 16 != 6) = false := by rw [bne_eq_false_iff_eq]; exact q1
      clear EB tz TT
      go_wp2_with fail
      go_ret
      exact ⟨.inl ⟨by rw [E.out]; decide, ⟨_, by rw [E.out]; rfl⟩, by rw [E.out]; decide⟩, BB.out⟩
    · have q2' : decide (n < T) = false := decide_eq_false q2
      have q1' : (z0 / 16 != 6) = false := by rw [bne_eq_false_iff_eq]; exact q1
      by_cases q3 : T < n
      · have E : Hid (eb l = 4) := Lib.hid (by rw [EB.out, if_neg (by simpa using q1), if_neg (by omega), if_pos (by omega)])
        have q3' : decide (T < n) = true := decide_eq_true q3
        clear EB tz TT
        go_wp2_with fail
        go_ret
        exact ⟨.inl ⟨by rw [E.out]; decide, ⟨_, by rw [E.out]; rfl⟩, by rw [E.out]; decide⟩, BB.out⟩
      · have E : Hid (eb l = 0) := Lib.hid (by rw [EB.out, if_neg (by simpa using q1), if_neg (by omega), if_neg (by omega)])
        have q3' : decide (T < n) = false := decide_eq_false q3
        clear EB tz TT
        go_wp2_with fail
        go_ret
        exact ⟨.inr ⟨E.out, rfl⟩, BB.out⟩
  · have E : Hid (eb l = 4) := Lib.hid (by rw [EB.out, if_pos q1])
    have q1' : (z0 / 16 != 6) = true := by rw [bne_iff_ne]; exact q1
    clear EB tz TT
    go_wp2_with fail
    go_ret
    exact ⟨.inl ⟨by rw [E.out]; decide, ⟨_, by rw [E.out]; rfl⟩, by rw [E.out]; decide⟩, BB.out⟩
end Go.Proofs.Ytjfieoleoodfdaa.Exb6
