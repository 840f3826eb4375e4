/- The contract of the document's Parse. -/
import Derived.Test.YtjfieoleoodfdaaParse6
import Derived.Test.YtjfieoleoodfdaaBoth
set_option linter.unusedVariables false
namespace Go.Proofs.Ytjfieoleoodfdaa.ParseRef
open Go.RowKit Go.Proofs.Ytjfieoleoodfdaa.Sums Go.Proofs.Ytjfieoleoodfdaa.Mem Go.Proofs.Ytjfieoleoodfdaa.P6 Go.Proofs.Ytjfieoleoodfdaa.Blk Go.Proofs.Ytjfieoleoodfdaa.Regs Go.Proofs.Ytjfieoleoodfdaa.Small6 Go.Proofs.Ytjfieoleoodfdaa.Cut Go.Proofs.Ytjfieoleoodfdaa.Exb6 Go.Proofs.Ytjfieoleoodfdaa.First6 Go.Proofs.Ytjfieoleoodfdaa.Free Go.Proofs.Ytjfieoleoodfdaa.Steps Go.Proofs.Ytjfieoleoodfdaa.Bits Go.Proofs.Ytjfieoleoodfdaa.Exts Go.Proofs.Ytjfieoleoodfdaa.Opts Go.Proofs.Ytjfieoleoodfdaa.Dec6 Go.Proofs.Ytjfieoleoodfdaa.Parse6

set_option maxHeartbeats 2000000 in
set_option maxRecDepth 100000 in
theorem pref_short (A : Option Addr) (n c : Nat) (l : List Int) (w : World) (B : Nat) (h : Holds w B A n c l) (hB : B ≤ w.heap.size) (hn : n < 40) : Calls Try.prog 19 #[.slice A n c] w (Gp l w) := by
  have hl := h.1
  have PE : Hid (perr l = 8) := Lib.hid (by unfold perr; rw [if_pos (by omega)])
  have B0 := Lib.hid ((Below.refl w.heap.size w).alloc (Nat.le_refl _) (.cells #[.int .i64 0, .int .i64 0, .int .i64 0, .string ⟨#[]⟩, .string ⟨#[]⟩, .slice none 0 0, .int .i64 0, .slice none 0 0] 25))
  have R0 := Lib.hid (Blk.new w 25 #[.int .i64 0, .int .i64 0, .int .i64 0, .string ⟨#[]⟩, .string ⟨#[]⟩, .slice none 0 0, .int .i64 0, .slice none 0 0])
  clear h hl
  go_enter Try.func19, Try.ntmps19
  go_wp2_with (first
    | (refine wpList_store_row rfl 25 (.tmp 2) (.tmp 13) rfl w.heap.size #[.int .i64 0, .int .i64 0, .int .i64 0, .string ⟨#[]⟩, .string ⟨#[]⟩, .slice none 0 0, .int .i64 0, .slice none 0 0] rfl rfl 25 _ R0.out (by kernel_rfl) rfl (one8 _ _ _ _ _ _ _ _ _ _ _ _) ?_))
  exact bodyPost_ret (results_pair rfl _ _ w.heap.size 25 _ (0, 0) _ _ rfl rfl (setRow_heap _ _ _ _ _ _ R0.out) Try.underlying25 rfl (by kernel_rfl)) rfl ⟨.inr ⟨by rw [PE.out]; decide, by rw [PE.out]; rfl⟩, setRow_bel B0.out (Nat.le_refl _) _⟩

set_option maxHeartbeats 2000000 in
set_option maxRecDepth 100000 in
theorem pref_bad (b p n c : Nat) (l : List Int) (w : World) (B : Nat) (h : Holds w B (some ⟨b, p, none⟩) n c l) (hB : B ≤ w.heap.size) (hn : n ≤ 1048576) (h40 : 40 ≤ n) (he : eb l ≠ 0) : Calls Try.prog 19 #[.slice (some ⟨b, p, none⟩) n c] w (Gp l w) := by
  have hl := h.1
  have B0 := Lib.hid ((Below.refl w.heap.size w).alloc (Nat.le_refl _) (.cells #[.int .i64 0, .int .i64 0, .int .i64 0, .string ⟨#[]⟩, .string ⟨#[]⟩, .slice none 0 0, .int .i64 0, .slice none 0 0] 25))
  have R0 := Lib.hid (Blk.new w 25 #[.int .i64 0, .int .i64 0, .int .i64 0, .string ⟨#[]⟩, .string ⟨#[]⟩, .slice none 0 0, .int .i64 0, .slice none 0 0])
  have H0 := h.below (B0.out.mono hB)
  have c0 : (w.alloc (.cells #[.int .i64 0, .int .i64 0, .int .i64 0, .string ⟨#[]⟩, .string ⟨#[]⟩, .slice none 0 0, .int .i64 0, .slice none 0 0] 25)).cell? ⟨b, p, none⟩ = some (.int .u8 (l.getD 0 0)) := cell_getD H0 0 (by omega)
  have c4 := cell_getD H0 4 (by omega)
  have c5 := cell_getD H0 5 (by omega)
  have b0 := getD_in h.2.2.2.1 0
  have b4 := getD_in h.2.2.2.1 4
  have b5 := getD_in h.2.2.2.1 5
  have PB : Hid (perr l = eb l) := Lib.hid (perr_eb he)
  have EB : Hid (eb l = if l.getD 0 0 / 16 ≠ 6 then 4 else if (n : Int) < 40 + (256 * l.getD 4 0 + l.getD 5 0) then 8 else if 40 + (256 * l.getD 4 0 + l.getD 5 0) < (n : Int) then 4 else 0) := Lib.hid (by unfold eb; rw [if_neg (by omega), hl])
  rw [EB.out] at he
  have hc := h.2.1
  clear h hl H0
  generalize l.getD 0 0 = z0 at *
  generalize l.getD 4 0 = z4 at *
  generalize l.getD 5 0 = z5 at *
  obtain ⟨T, hT⟩ : ∃ T : Nat, (T : Int) = 40 + (256 * z4 + z5) := ⟨(40 + (256 * z4 + z5)).toNat, by omega⟩
  have TT := Lib.hid hT
  have e1 : IntKind.i64.wrap (256 * z4) = 256 * z4 := IntWalk.i64_in _ (by omega)
  have e2 : IntKind.i64.wrap (40 + 256 * z4) = 40 + 256 * z4 := IntWalk.i64_in _ (by omega)
  have e3 : IntKind.i64.wrap (40 + 256 * z4 + z5) = (T : Int) := by rw [hT, IntWalk.i64_in _ (by omega)]; omega
  have e4 : IntKind.i64.wrap z4 = z4 := IntWalk.i64_in _ (by omega)
  have e5 : IntKind.i64.wrap z5 = z5 := IntWalk.i64_in _ (by omega)
  have i0 : 0 < n := by omega
  have i4 : (4 : Int) < (n : Int) := by omega
  have i5 : (5 : Int) < (n : Int) := by omega
  have h40' : ¬ n < 40 := by omega
  rw [← hT] at he
  clear hT
  go_enter Try.func19, Try.ntmps19
  by_cases q1 : z0 / 16 = 6
  · have q1' : (z0 / 16 != 6) = false := by rw [bne_eq_false_iff_eq]; exact q1
    rw [if_neg (by simpa using q1)] at he
    go_wp2_with fail
    go_quiet (fail)
    clear e1 e2 e3 e4 e5 c4 c5 c0
    have B1 : Hid (Below w.heap.size w ((w.alloc (.cells #[.int .i64 0, .int .i64 0, .int .i64 0, .string ⟨#[]⟩, .string ⟨#[]⟩, .slice none 0 0, .int .i64 0, .slice none 0 0] 25)).drewN nq)) := Lib.hid (below_drewN B0.out nq)
    have R1 := Lib.hid (R0.out.drewN nq)
    generalize (w.alloc (.cells #[.int .i64 0, .int .i64 0, .int .i64 0, .string ⟨#[]⟩, .string ⟨#[]⟩, .slice none 0 0, .int .i64 0, .slice none 0 0] 25)).drewN nq = w1 at *
    have tz := TT.out
    by_cases q2 : n < T
    · have PE : Hid (perr l = 8) := Lib.hid (by rw [PB.out, EB.out, if_neg (by simpa using q1), if_pos (by omega)])
      have q2' : decide (n < T) = true := decide_eq_true q2
      clear EB tz TT he
      go_wp2_with (first
        | (refine wpList_store_row rfl 25 (.tmp 2) (.tmp 35) rfl w.heap.size #[.int .i64 0, .int .i64 0, .int .i64 0, .string ⟨#[]⟩, .string ⟨#[]⟩, .slice none 0 0, .int .i64 0, .slice none 0 0] rfl rfl 25 _ R1.out (by kernel_rfl) rfl (one8 _ _ _ _ _ _ _ _ _ _ _ _) ?_))
      exact bodyPost_ret (results_pair rfl _ _ w.heap.size 25 _ (0, 0) _ _ rfl rfl (setRow_heap _ _ _ _ _ _ R1.out) Try.underlying25 rfl (by kernel_rfl)) rfl ⟨.inr ⟨by rw [PE.out]; decide, by rw [PE.out]; rfl⟩, setRow_bel B1.out (Nat.le_refl _) _⟩
    · have q2' : decide (n < T) = false := decide_eq_false q2
      rw [if_neg (by omega)] at he
      have q3 : T < n := by
        rcases Nat.lt_or_ge T n with q | q
        · exact q
        · rw [if_neg (by omega)] at he; exact absurd rfl he
      have PE : Hid (perr l = 4) := Lib.hid (by rw [PB.out, EB.out, if_neg (by simpa using q1), if_neg (by omega), if_pos (by omega)])
      have q3' : decide (T < n) = true := decide_eq_true q3
      clear EB tz TT he
      go_wp2_with (first
        | (refine wpList_store_row rfl 25 (.tmp 2) (.tmp 40) rfl w.heap.size #[.int .i64 0, .int .i64 0, .int .i64 0, .string ⟨#[]⟩, .string ⟨#[]⟩, .slice none 0 0, .int .i64 0, .slice none 0 0] rfl rfl 25 _ R1.out (by kernel_rfl) rfl (one8 _ _ _ _ _ _ _ _ _ _ _ _) ?_))
      exact bodyPost_ret (results_pair rfl _ _ w.heap.size 25 _ (0, 0) _ _ rfl rfl (setRow_heap _ _ _ _ _ _ R1.out) Try.underlying25 rfl (by kernel_rfl)) rfl ⟨.inr ⟨by rw [PE.out]; decide, by rw [PE.out]; rfl⟩, setRow_bel B1.out (Nat.le_refl _) _⟩
  · have PE : Hid (perr l = 4) := Lib.hid (by rw [PB.out, EB.out, if_pos q1])
    have q1' : (z0 / 16 != 6) = true := by rw [bne_iff_ne]; exact q1
    clear EB TT he e1 e2 e3 e4 e5 c4 c5
    go_wp2_with (first
      | (refine wpList_store_row rfl 25 (.tmp 2) (.tmp 19) rfl w.heap.size #[.int .i64 0, .int .i64 0, .int .i64 0, .string ⟨#[]⟩, .string ⟨#[]⟩, .slice none 0 0, .int .i64 0, .slice none 0 0] rfl rfl 25 _ R0.out (by kernel_rfl) rfl (one8 _ _ _ _ _ _ _ _ _ _ _ _) ?_))
    exact bodyPost_ret (results_pair rfl _ _ w.heap.size 25 _ (0, 0) _ _ rfl rfl (setRow_heap _ _ _ _ _ _ R0.out) Try.underlying25 rfl (by kernel_rfl)) rfl ⟨.inr ⟨by rw [PE.out]; decide, by rw [PE.out]; rfl⟩, setRow_bel B0.out (Nat.le_refl _) _⟩
end Go.Proofs.Ytjfieoleoodfdaa.ParseRef
