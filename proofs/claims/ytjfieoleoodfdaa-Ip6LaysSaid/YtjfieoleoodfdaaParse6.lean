/- The contract of Parse of the code: any bytes. -/
import Derived.Test.YtjfieoleoodfdaaDec6
set_option linter.unusedVariables false
namespace Go.Proofs.Ytjfieoleoodfdaa.Parse6
open Go.RowKit Go.Proofs.Ytjfieoleoodfdaa.Sums Go.Proofs.Ytjfieoleoodfdaa.Mem Go.Proofs.Ytjfieoleoodfdaa.P6 Go.Proofs.Ytjfieoleoodfdaa.Blk Go.Proofs.Ytjfieoleoodfdaa.Regs Go.Proofs.Ytjfieoleoodfdaa.Small6 Go.Proofs.Ytjfieoleoodfdaa.Cut Go.Proofs.Ytjfieoleoodfdaa.Exb6 Go.Proofs.Ytjfieoleoodfdaa.First6 Go.Proofs.Ytjfieoleoodfdaa.Exts Go.Proofs.Ytjfieoleoodfdaa.Opts Go.Proofs.Ytjfieoleoodfdaa.Dec6 Go.Proofs.Ytjfieoleoodfdaa.Errno

set_option maxRecDepth 100000 in
theorem decode_bad (A : Option Addr) (n c : Nat) (l : List Int) (w : World) (B : Nat) (h : Holds w B A n c l) (hB : B ≤ w.heap.size) (hn : n ≤ 1048576) (he : eb l ≠ 0) : Calls Try.prog 32 #[.slice A n c] w (Dd l w) := by
  have B0 := Lib.hid ((Below.refl w.heap.size w).alloc (Nat.le_refl _) (.cells #[.int .i64 0, .int .i64 0, .int .i64 0, .string ⟨#[]⟩, .string ⟨#[]⟩, .slice none 0 0, .int .i64 0, .slice none 0 0] 25))
  have R0 := Lib.hid (Blk.new w 25 #[.int .i64 0, .int .i64 0, .int .i64 0, .string ⟨#[]⟩, .string ⟨#[]⟩, .slice none 0 0, .int .i64 0, .slice none 0 0])
  have EX := Lib.hid (exb_any A n c l (w.alloc (.cells #[.int .i64 0, .int .i64 0, .int .i64 0, .string ⟨#[]⟩, .string ⟨#[]⟩, .slice none 0 0, .int .i64 0, .slice none 0 0] 25)) B (h.below (B0.out.mono hB)) hn)
  have PE := Lib.hid (perr_eb he)
  have HE := Lib.hid he
  clear h he
  go_enter Try.func32, Try.ntmps32
  go_wp2_with fail
  refine EX.out.mono ?_
  rintro e w1 ⟨he, hb⟩
  have B1 := Lib.hid (B0.out.trans (hb.mono B0.out.size))
  have R1 := Lib.hid (R0.out.below hb R0.out.lt)
  clear hb EX
  rcases he with ⟨_, ⟨s, rfl⟩, hk⟩ | ⟨h0, _⟩
  case inr => exact absurd h0 HE.out
  have HK := Lib.hid hk
  clear hk
  go_wp2_with (first
    | (refine wpList_store_row rfl 25 (.tmp 2) (.tmp 13) rfl w.heap.size #[.int .i64 0, .int .i64 0, .int .i64 0, .string ⟨#[]⟩, .string ⟨#[]⟩, .slice none 0 0, .int .i64 0, .slice none 0 0] rfl rfl 25 _ R1.out (by kernel_rfl) rfl (one8 _ _ _ _ _ _ _ _ _ _ _ _) ?_))
  exact bodyPost_ret (results_pair rfl _ _ w.heap.size 25 _ (0, 0) _ _ rfl rfl (setRow_heap _ _ _ _ _ _ R1.out) Try.underlying25 rfl (by kernel_rfl)) rfl ⟨.inr ⟨by rw [PE.out]; exact HE.out, s, by rw [PE.out]; rfl, by rw [PE.out]; exact HK.out⟩, setRow_bel B1.out (Nat.le_refl _) _⟩

theorem decode_any (A : Option Addr) (n c : Nat) (l : List Int) (w : World) (B : Nat) (h : Holds w B A n c l) (hB : B ≤ w.heap.size) (hn : n ≤ 1048576) : Calls Try.prog 32 #[.slice A n c] w (Dd l w) := by
  by_cases he : eb l = 0
  · have h40 := (eb_zero he).1
    rw [h.1] at h40
    obtain ⟨b, p, rfl, _⟩ := h.2.2.2.2 (by omega)
    exact decode_ok b p n c l w B h hB hn h40 he
  · exact decode_bad A n c l w B h hB hn he

/-- What Parse gives. -/
def Gp (l : List Int) (w : World) (e : Ending) (w' : World) : Prop :=
  ((perr l = 0 ∧ ∃ E ce A' n' c', e = .returned (.tuple #[.agg #[.int .i64 (pkOf l).cls, .int .i64 (pkOf l).lab, .int .i64 (pkOf l).hop, .string (pkOf l).src, .string (pkOf l).dst, .slice E (pkOf l).exts.length ce, .int .i64 (pkOf l).next, .slice A' n' c'], .int .i64 0]) ∧ w'.ownsRow w.heap.size 43 2 (.slice E (pkOf l).exts.length ce) (pkOf l).exts.length (Opts.cells (pkOf l).exts) ∧ Owns w' w.heap.size (.slice A' n' c') n' (tail l).2.2) ∨
   (perr l ≠ 0 ∧ e = .returned (.tuple #[.agg #[.int .i64 0, .int .i64 0, .int .i64 0, .string ⟨#[]⟩, .string ⟨#[]⟩, .slice none 0 0, .int .i64 0, .slice none 0 0], .int .i64 (perr l)]))) ∧ Below w.heap.size w w'


set_option maxHeartbeats 2000000 in
set_option maxRecDepth 100000 in
theorem parse_any (A : Option Addr) (n c : Nat) (l : List Int) (w : World) (B : Nat) (h : Holds w B A n c l) (hB : B ≤ w.heap.size) (hn : n ≤ 1048576) : Calls Try.prog 18 #[.slice A n c] w (Gp l w) := by
  have B0 := Lib.hid ((Below.refl w.heap.size w).alloc (Nat.le_refl _) (.cells #[.int .i64 0, .int .i64 0, .int .i64 0, .string ⟨#[]⟩, .string ⟨#[]⟩, .slice none 0 0, .int .i64 0, .slice none 0 0] 25))
  have R0 := Lib.hid (Blk.new w 25 #[.int .i64 0, .int .i64 0, .int .i64 0, .string ⟨#[]⟩, .string ⟨#[]⟩, .slice none 0 0, .int .i64 0, .slice none 0 0])
  have DA := Lib.hid (decode_any A n c l (w.alloc (.cells #[.int .i64 0, .int .i64 0, .int .i64 0, .string ⟨#[]⟩, .string ⟨#[]⟩, .slice none 0 0, .int .i64 0, .slice none 0 0] 25)) B (h.below (B0.out.mono hB)) (by simp; omega) hn)
  have hz : (w.alloc (.cells #[.int .i64 0, .int .i64 0, .int .i64 0, .string ⟨#[]⟩, .string ⟨#[]⟩, .slice none 0 0, .int .i64 0, .slice none 0 0] 25)).heap.size = w.heap.size + 1 := by simp
  clear h
  go_enter Try.func18, Try.ntmps18
  go_wp2_with fail
  refine DA.out.mono ?_
  rintro e w1 ⟨he, hb⟩
  have B1 := Lib.hid (B0.out.trans (hb.mono B0.out.size))
  have R1 := Lib.hid (R0.out.below hb R0.out.lt)
  rw [hz] at he
  clear hb DA hz
  rcases he with ⟨pz, E, ce, A', n', c', rfl, ho, hd⟩ | ⟨pz, s, rfl, hk⟩
  · obtain ⟨q, hq⟩ : ∃ q, q = pkOf l := ⟨_, rfl⟩
    have PZ := Lib.hid pz
    have HQ := Lib.hid hq
    rw [← hq] at ho ⊢
    have Q2 := Lib.hid (Blk.new w1 25 #[.int .i64 q.cls, .int .i64 q.lab, .int .i64 q.hop, .string q.src, .string q.dst, .slice E q.exts.length ce, .int .i64 q.next, .slice A' n' c'])
    have R2 := Lib.hid (R1.out.alloc (.cells #[.int .i64 q.cls, .int .i64 q.lab, .int .i64 q.hop, .string q.src, .string q.dst, .slice E q.exts.length ce, .int .i64 q.next, .slice A' n' c'] 25))
    have B2 := Lib.hid (B1.out.alloc B1.out.size (.cells #[.int .i64 q.cls, .int .i64 q.lab, .int .i64 q.hop, .string q.src, .string q.dst, .slice E q.exts.length ce, .int .i64 q.next, .slice A' n' c'] 25))
    have O2 := Lib.hid (own_alloc ho (.cells #[.int .i64 q.cls, .int .i64 q.lab, .int .i64 q.hop, .string q.src, .string q.dst, .slice E q.exts.length ce, .int .i64 q.next, .slice A' n' c'] 25))
    have D2 := Lib.hid (hd.alloc (.cells #[.int .i64 q.cls, .int .i64 q.lab, .int .i64 q.hop, .string q.src, .string q.dst, .slice E q.exts.length ce, .int .i64 q.next, .slice A' n' c'] 25))
    clear pz hq ho hd
    go_wp2_with (first
      | (refine Loads.wpList_load_w rfl 25 (.tmp 4) rfl w1.heap.size rfl 25 #[.int .i64 q.cls, .int .i64 q.lab, .int .i64 q.hop, .string q.src, .string q.dst, .slice E q.exts.length ce, .int .i64 q.next, .slice A' n' c'] (0, 0) _ Q2.out (Try.underlying25) rfl (by kernel_rfl) ?_)
      | (refine wpList_store_row rfl 25 (.tmp 2) (.tmp 16) rfl w.heap.size #[.int .i64 q.cls, .int .i64 q.lab, .int .i64 q.hop, .string q.src, .string q.dst, .slice E q.exts.length ce, .int .i64 q.next, .slice A' n' c'] rfl rfl 25 _ R2.out (by kernel_rfl) rfl (one8 _ _ _ _ _ _ _ _ _ _ _ _) ?_))
    refine bodyPost_ret (results_pair rfl _ _ w.heap.size 25 _ (0, 0) _ _ rfl rfl (setRow_heap _ _ _ _ _ _ R2.out) Try.underlying25 rfl (by kernel_rfl)) rfl ⟨.inl ⟨PZ.out, E, ce, A', n', c', by rw [← HQ.out]; rfl, ?_, ?_⟩, setRow_bel B2.out (Nat.le_refl _) _⟩
    · rw [← HQ.out]
      exact own_mono (own_row O2.out (by omega) _) (by omega)
    · exact (D2.out.kept (row := some w.heap.size) (grown_row _ _ _) (owns_ne D2.out (by omega))).mono (by omega)
  · have PZ := Lib.hid pz
    have EF := Lib.hid (fun W => errno_fault s (perr l) W hk)
    obtain ⟨pe, hpe⟩ : ∃ pe, pe = perr l := ⟨_, rfl⟩
    have HP := Lib.hid hpe
    rw [← hpe] at EF ⊢
    have R2 := Lib.hid (R1.out.alloc (.cells #[.int .i64 0, .int .i64 0, .int .i64 0, .string ⟨#[]⟩, .string ⟨#[]⟩, .slice none 0 0, .int .i64 0, .slice none 0 0] 25))
    have B2 := Lib.hid (B1.out.alloc B1.out.size (.cells #[.int .i64 0, .int .i64 0, .int .i64 0, .string ⟨#[]⟩, .string ⟨#[]⟩, .slice none 0 0, .int .i64 0, .slice none 0 0] 25))
    clear pz hk hpe
    go_wp2_with fail
    refine (EF.out _).mono ?_
    rintro e w3 ⟨rfl, hb⟩
    have B3 := Lib.hid (B2.out.trans (hb.mono B2.out.size))
    have R3 := Lib.hid (R2.out.below hb R2.out.lt)
    clear hb
    go_wp2_with (first
      | (refine wpList_store_row rfl 25 (.tmp 2) (.tmp 13) rfl w.heap.size #[.int .i64 0, .int .i64 0, .int .i64 0, .string ⟨#[]⟩, .string ⟨#[]⟩, .slice none 0 0, .int .i64 0, .slice none 0 0] rfl rfl 25 _ R3.out (by kernel_rfl) rfl (one8 _ _ _ _ _ _ _ _ _ _ _ _) ?_))
    exact bodyPost_ret (results_pair rfl _ _ w.heap.size 25 _ (0, 0) _ _ rfl rfl (setRow_heap _ _ _ _ _ _ R3.out) Try.underlying25 rfl (by kernel_rfl)) rfl ⟨.inr ⟨PZ.out, by rw [← HP.out]; rfl⟩, setRow_bel B3.out (Nat.le_refl _) _⟩
end Go.Proofs.Ytjfieoleoodfdaa.Parse6
