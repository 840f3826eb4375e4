/- Contracts of the code: paired, sum, headSize, word, wide. -/
import Derived.Test.YtadjkidjkgnkoaaRef5
import Derived.Test.YtadjkidjkgnkoaaPseudo
import Derived.Test.YtadjkidjkgnkoaaSegD
import Derived.Lib.QuietBelow
import Derived.BigQuiet
import Derived.Test.YtadjkidjkgnkoaaRegs
import Derived.Test.YtadjkidjkgnkoaaLoads
import Derived.Deep.QuietTactic
set_option linter.unusedVariables false
namespace Go.Proofs.Ytadjkidjkgnkoaa.Seg2
open Go.RowKit Go.Sort Go.Proofs.Ytadjkidjkgnkoaa.Sums Go.Proofs.Ytadjkidjkgnkoaa.Words Go.Proofs.Ytadjkidjkgnkoaa.Mem Go.Proofs.Ytadjkidjkgnkoaa.Ahead Go.Proofs.Ytadjkidjkgnkoaa.SegD Go.Proofs.Ytadjkidjkgnkoaa.Blk Go.Proofs.Ytadjkidjkgnkoaa.Bits Go.Proofs.Ytadjkidjkgnkoaa.InetSum Go.Proofs.Ytadjkidjkgnkoaa.Steps Go.Proofs.Ytadjkidjkgnkoaa.Free Go.Proofs.Ytadjkidjkgnkoaa.Cut
open Go.Proofs.Ytadjkidjkgnkoaa.Regs (cell_getD)

theorem unpaired {s d : ByteArray} (h : paired s d = false) : Pseudo.lng s.size d.size < 0 := by
  unfold Pseudo.lng
  split
  · next q => rw [paired_make (by omega) (.inl q.1)] at h; cases h
  · split
    · next q => rw [paired_make (by omega) (.inr q.1)] at h; cases h
    · decide
theorem paired_any (s d : ByteArray) (w : World) : Calls Try.prog 24 #[.string s, .string d] w fun e w' => e = .returned (.bool (paired s d)) ∧ Below w.heap.size w w' := by
  cases h : paired s d with
  | true =>
    have P := Lib.hid (Ref5.pseudo_any s d 6 0 w h (by decide) (by decide) (by decide) (by decide))
    clear h
    go_enter Try.func24, Try.ntmps24
    go_wp2_with fail
    refine P.out.mono ?_
    rintro e w' ⟨rfl, hb⟩
    go_wp2_with fail
    go_ret
    exact ⟨rfl, hb⟩
  | false =>
    have P := Lib.hid (Pseudo.pseudo_refused s d 6 0 w (.inr (.inr (.inr (unpaired h)))))
    clear h
    go_enter Try.func24, Try.ntmps24
    go_wp2_with fail
    refine P.out.mono ?_
    rintro e w' ⟨rfl, rfl⟩
    go_wp2_with fail
    go_ret
    exact ⟨rfl, Below.refl _ _⟩

theorem sum_code (s d : ByteArray) (A : Option Addr) (n c : Nat) (l : List Int) (w : World) (B : Nat) (h : Holds w B A n c l) (hB : B ≤ w.heap.size) (hn : n ≤ 65535) (hp : paired s d = true) :
    Calls Try.prog 26 #[.slice A n c, .string s, .string d] w fun e w' => e = .returned (.int .i64 (whole s d 6 l)) ∧ Below w.heap.size w w' := by
  have HL := Lib.hid h.1
  have P := Lib.hid (Ref5.pseudo_any s d 6 n w hp (by decide) (by decide) (by omega) (by omega))
  have H := Lib.hid h
  have E : Hid (add (around s d 6 n) (sums 0 l) = whole s d 6 l) := Lib.hid (by unfold whole; rw [HL.out])
  clear h
  go_enter Try.func26, Try.ntmps26
  go_wp2_with fail
  refine P.out.mono ?_
  rintro e w1 ⟨rfl, hb⟩
  have B1 := Lib.hid hb
  have S := Lib.hid (sum_any A n c l w1 B (H.out.below (hb.mono hB)) (by omega))
  clear hb
  go_wp2_with fail
  refine S.out.mono ?_
  rintro e w' ⟨rfl, rfl⟩
  go_wp2_with fail
  refine (add_code _ _ _).mono ?_
  rintro e w' ⟨rfl, rfl⟩
  rw [E.out]
  go_wp2_with fail
  go_ret
  exact ⟨rfl, B1.out⟩

theorem head_any (A : Option Addr) (n c : Nat) (l : List Int) (w : World) (B : Nat) (h : Holds w B A n c l) (hn : 12 < n) :
    Calls Try.prog 33 #[.slice A n c] w fun e w' => e = .returned (.int .i64 (l.getD 12 0 / 16 * 4)) ∧ w = w' := by
  obtain ⟨b, p, rfl, _⟩ := h.2.2.2.2 (by omega)
  have c0 := cell_getD h 12 (by omega)
  have y := getD_in h.2.2.2.1 12
  have hm := h.2.2.1
  unfold maxLen at hm
  clear h
  have E : Hid (l.getD 12 0 / 16 * 4 = l.getD 12 0 / 16 * 4) := Lib.hid rfl
  generalize l.getD 12 0 = y0 at *
  obtain ⟨y1, y2⟩ := y
  have e3 : IntKind.i64.wrap (y0 / 16) = y0 / 16 := IntWalk.i64_in _ (by omega)
  have e1 : IntKind.i64.wrap (y0 / 16 * 4) = y0 / 16 * 4 := IntWalk.i64_in _ (by omega)
  go_enter Try.func33, Try.ntmps33
  go_wp2_with fail
  go_ret
  exact ⟨rfl, rfl⟩

theorem word_any (A : Option Addr) (n c : Nat) (l : List Int) (w : World) (B : Nat) (h : Holds w B A n c l) (i : Nat) (hi : i + 1 < n) :
    Calls Try.prog 34 #[.slice A n c, .int .i64 (i : Int)] w fun e w' => e = .returned (.int .i64 (w16 l i)) ∧ Below w.heap.size w w' := by
  obtain ⟨b, p, rfl, _⟩ := h.2.2.2.2 (by omega)
  have B0 := Lib.hid (Below.refl w.heap.size w)
  have c0 := cell_getD h i (by omega)
  have c1 : w.cell? ⟨b, p + (i + 1), none⟩ = some (.int .u8 (l.getD (i + 1) 0)) := cell_getD h (i + 1) hi
  have y := getD_in h.2.2.2.1 i
  have z := getD_in h.2.2.2.1 (i + 1)
  have E : Hid (256 * l.getD i 0 + l.getD (i + 1) 0 = w16 l i) := Lib.hid rfl
  have hm := h.2.2.1
  have hn := h.2.1
  unfold maxLen at hm
  clear h
  generalize l.getD i 0 = y0 at *
  generalize l.getD (i + 1) 0 = z0 at *
  obtain ⟨i1, hi1⟩ : ∃ i1, i1 = i + 1 := ⟨_, rfl⟩
  rw [← hi1] at c1 hi
  have e0 : IntKind.i64.wrap ((i : Int) + 1) = (i1 : Int) := by rw [IntWalk.i64_in _ (by omega)]; omega
  have e1 : IntKind.i64.wrap (y0 * 256) = y0 * 256 := IntWalk.i64_in _ (by omega)
  have e2 : bits .or .i64 (y0 * 256) z0 = 256 * y0 + z0 := or_byte y.1 y.2 z.1 z.2
  have e3 : IntKind.i64.wrap y0 = y0 := IntWalk.i64_in _ (by omega)
  have e4 : IntKind.i64.wrap z0 = z0 := IntWalk.i64_in _ (by omega)
  have j0 : i < n := by omega
  obtain ⟨y1, y2⟩ := y
  obtain ⟨z1, z2⟩ := z
  clear hi1
  go_enter Try.func34, Try.ntmps34
  go_wp2_with fail
  go_quiet (fail)
  clear e0 e1 e2 e3 e4
  go_wp2_with fail
  go_ret
  exact ⟨by rw [E.out]; rfl, below_drewN B0.out nq⟩

theorem wide_any (A : Option Addr) (n c : Nat) (l : List Int) (w : World) (B : Nat) (h : Holds w B A n c l) (hB : B ≤ w.heap.size) (i : Nat) (hi : i + 3 < n) :
    Calls Try.prog 35 #[.slice A n c, .int .i64 (i : Int)] w fun e w' => e = .returned (.int .i64 (w32 l i)) ∧ Below w.heap.size w w' := by
  have P := Lib.hid (word_any A n c l w B h i (by omega))
  have H := Lib.hid h
  have y := w16_in h.2.2.2.1 i
  have z := w16_in h.2.2.2.1 (i + 2)
  have E : Hid (65536 * w16 l i + w16 l (i + 2) = w32 l i) := Lib.hid rfl
  have hm := h.2.2.1
  have hn := h.2.1
  unfold maxLen at hm
  clear h
  obtain ⟨i1, hi1⟩ : ∃ i1, i1 = i + 2 := ⟨_, rfl⟩
  have N : Hid (i1 + 1 < n) := Lib.hid (by omega)
  have e0 : IntKind.i64.wrap ((i : Int) + 2) = (i1 : Int) := by rw [IntWalk.i64_in _ (by omega)]; omega
  rw [← hi1] at E z
  obtain ⟨y0, hy0⟩ : ∃ y0, y0 = w16 l i := ⟨_, rfl⟩
  have Z : Hid (w16 l i1 = w16 l i1) := Lib.hid rfl
  rw [← hy0] at P E y
  obtain ⟨z0, hz0⟩ : ∃ z0, z0 = w16 l i1 := ⟨_, rfl⟩
  have HZ := Lib.hid hz0
  rw [← hz0] at E z
  clear hz0 hy0 Z
  obtain ⟨y1, y2⟩ := y
  obtain ⟨z1, z2⟩ := z
  have e1 : IntKind.i64.wrap (y0 * 65536) = y0 * 65536 := IntWalk.i64_in _ (by omega)
  have e2 : bits .or .i64 (y0 * 65536) z0 = 65536 * y0 + z0 := by
    have := or_low 16 (a := y0) (b := z0) y1 (by show y0 * 65536 < _; omega) z1 (by show z0 < 65536; omega) (by decide)
    rw [show ((2 ^ 16 : Nat) : Int) = 65536 from rfl] at this
    rw [this]; omega
  go_enter Try.func35, Try.ntmps35
  go_wp2_with fail
  refine P.out.mono ?_
  rintro e w1 ⟨rfl, hb⟩
  have B1 := Lib.hid hb
  have S := Lib.hid (word_any A n c l w1 B (H.out.below (hb.mono hB)) i1 N.out)
  rw [← HZ.out] at S
  clear hb hi1
  go_wp2_with fail
  refine S.out.mono ?_
  rintro e w2 ⟨rfl, hb⟩
  have B2 := Lib.hid (B1.out.trans (hb.mono B1.out.size))
  go_wp2_with fail
  go_ret
  exact ⟨by rw [E.out]; rfl, B2.out⟩
end Go.Proofs.Ytadjkidjkgnkoaa.Seg2
