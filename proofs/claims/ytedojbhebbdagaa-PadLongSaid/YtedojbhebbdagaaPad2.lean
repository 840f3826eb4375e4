/- The contracts of the code's counted, Open. -/
import Derived.Test.YtedojbhebbdagaaPad1
import Derived.Test.YtedojbhebbdagaaPadO
import Derived.Test.YtedojbhebbdagaaCut
import Derived.BigQuiet
import Derived.WalkMore
set_option linter.unusedVariables false
namespace Go.Proofs.Ytedojbhebbdagaa.Pad2
open Go.RowKit Go.Proofs.Ytedojbhebbdagaa.Sums Go.Proofs.Ytedojbhebbdagaa.Mem Go.Proofs.Ytedojbhebbdagaa.Blk Go.Proofs.Ytedojbhebbdagaa.Bits Go.Proofs.Ytedojbhebbdagaa.Bits3 Go.Proofs.Ytedojbhebbdagaa.Ints Go.Proofs.Ytedojbhebbdagaa.Cut Go.Proofs.Ytedojbhebbdagaa.PadR Go.Proofs.Ytedojbhebbdagaa.PadO

/-- Are they one, two, ..? -/
def upB (l : List Int) (n : Nat) : Bool := (List.range n).all fun i => decide (l.getD i 0 = (i : Int) + 1)

set_option maxHeartbeats 1000000 in
theorem counted_no (A : Option Addr) (n c : Nat) (l : List Int) (w : World) (B : Nat) (h : Holds w B A n c l) (hn : n ≤ 1000000) :
    Calls Try.prog 16 #[.slice A n c] w fun e w' => e = .returned (.bool (upB l n)) ∧ w = w' := by
  have C1 : Hid (∀ j, j < n → ∃ b o, A = some ⟨b, o, none⟩ ∧ w.cell? ⟨b, o + j, none⟩ = some (.int .u8 (((nats l).getD j 0 : Nat) : Int)) ∧ (nats l).getD j 0 < 256 ∧ l.getD j 0 = (((nats l).getD j 0 : Nat) : Int)) := Lib.hid fun j hj => by
    obtain ⟨b, o, rfl, _, _⟩ := h.2.2.2.2 (by omega)
    have := cell_getD h j hj
    rw [nats_getD h.2.2.2.1 j] at this
    refine ⟨b, o, rfl, this, ?_, nats_getD h.2.2.2.1 j⟩
    have q := byte_bd h.2.2.2.1 j
    have e := nats_getD h.2.2.2.1 j
    omega
  clear h
  go_enter Try.func16, Try.ntmps16
  go_wp2_with fail
  go_step3
  go_wp2_with fail
  go_step3
  go_wp2_with fail
  go_loopw [3, 8] (fun rv kv wr => ∃ i : Nat, kv = .int .i64 (i : Int) ∧ rv = .int .i64 (i : Int) ∧ i ≤ n ∧ Hid (∀ t, t < i → l.getD t 0 = (t : Int) + 1) ∧ Hid (w = wr)) (fun _ kv _ => n - (intOf kv).toNat)
  case atStart => exact ⟨0, rfl, rfl, by omega, Lib.hid (fun t ht => by omega), Lib.hid (by trivial)⟩
  case round =>
    obtain ⟨i, rfl, rfl, hi, HA, HW⟩ := hrel
    obtain rfl := HW.out
    by_cases hlt : i < n
    · obtain ⟨b, o, rfl, k1, x1, y1⟩ := C1.out i hlt
      have NX : Hid (l.getD i 0 = (i : Int) + 1 → ∀ t, t < i + 1 → l.getD t 0 = (t : Int) + 1) := Lib.hid fun e t ht => by
        by_cases q : t = i
        · subst q; exact e
        · exact HA.out t (by omega)
      have BAD : Hid (l.getD i 0 ≠ (i : Int) + 1 → upB l n = false) := Lib.hid fun e => by
        unfold upB
        rw [List.all_eq_false]
        exact ⟨i, List.mem_range.2 hlt, by simpa using e⟩
      rw [y1] at NX BAD
      clear y1
      generalize (nats l).getD i 0 = Y at *
      have u1 : IntKind.i64.wrap (Y : Int) = (Y : Int) := IntWalk.i64_in _ (by omega)
      have u2 : IntKind.i64.wrap ((i : Int) + 1) = (i : Int) + 1 := IntWalk.i64_in _ (by omega)
      clear HA C1
      by_cases e : (Y : Int) = (i : Int) + 1
      · have g5 : ((Y : Int) == (i : Int) + 1) = true := by simp [e]
        have HA2 := Lib.hid (NX.out e)
        clear NX BAD e
        go_wp2_with fail
        go_roundw
        case rel => exact ⟨i + 1, by go_num, by go_num, by omega, HA2, Lib.hid (by trivial)⟩
        case measure => simp [intOf]; omega
      · have g5 : ((Y : Int) == (i : Int) + 1) = false := by rw [beq_eq_false_iff_ne]; exact e
        have g6 : ((i : Int) == (n : Int)) = false := by rw [beq_eq_false_iff_ne]; omega
        have g7 : (i == n) = false := by rw [beq_eq_false_iff_ne]; omega
        have F := Lib.hid (BAD.out e)
        clear NX BAD e
        go_wp2_with fail
        go_ret
        exact ⟨by rw [F.out]; rfl, rfl⟩
    · obtain rfl : i = n := by omega
      have OT : Hid (upB l i = true) := Lib.hid (by
        unfold upB
        rw [List.all_eq_true]
        intro t ht
        simpa using HA.out t (List.mem_range.1 ht))
      clear HA C1
      go_wp2_with fail
      go_ret
      exact ⟨by rw [OT.out]; rfl, rfl⟩

theorem open_more_no (A : Option Addr) (n c : Nat) (w : World) (hn : n < 2) : Calls Try.prog 10 #[.slice A n c] w fun e w' => e = .returned (.tuple #[.slice none 0 0, .int .i64 0, .int .i64 8]) ∧ w = w' := by
  have g : decide ((n : Int) < 2) = true := decide_eq_true (by omega)
  go_enter Try.func10, Try.ntmps10
  go_wp2_with fail
  go_ret3
  exact ⟨rfl, rfl⟩

set_option maxHeartbeats 1000000 in
set_option maxRecDepth 100000 in
/-- A row of two bytes and more is opened, or told that it is out of order. -/
theorem open_no (A : Option Addr) (n c : Nat) (l : List Int) (w : World) (B : Nat) (h : Holds w B A n c l) (hB : B ≤ w.heap.size) (hn : 2 ≤ n) (h3 : n ≤ 1000000) :
    Calls Try.prog 10 #[.slice A n c] w fun e w' => (okO l = false ∧ e = .returned (.tuple #[.slice none 0 0, .int .i64 0, .int .i64 130]) ∧ Below w.heap.size w w') ∨
      (okO l = true ∧ ∃ v, e = .returned (.tuple #[v, .int .i64 (l.getD (n - 1) 0), .int .i64 0]) ∧ Owns w' w.heap.size v (n - 2 - told l) (l.take (n - 2 - told l)) ∧ Below w.heap.size w w') := by
  obtain ⟨b, p, rfl, hbx⟩ := h.2.2.2.2 (by omega)
  clear hbx
  have HK := Lib.hid h
  have hnc := h.2.1
  have BY := Lib.hid (fun i => byte_bd h.2.2.2.1 i)
  obtain ⟨n2, hn2⟩ : ∃ n2, n2 = n - 2 := ⟨_, rfl⟩
  obtain ⟨n1, hn1⟩ : ∃ n1, n1 = n - 1 := ⟨_, rfl⟩
  have f0 : IntKind.i64.wrap ((n : Int) - 2) = (n2 : Int) := by rw [IntWalk.i64_in _ (by omega)]; omega
  have f1 : IntKind.i64.wrap ((n : Int) - 1) = (n1 : Int) := by rw [IntWalk.i64_in _ (by omega)]; omega
  have c2 := cell_getD h n2 (by omega)
  have c1 := cell_getD h n1 (by omega)
  obtain ⟨m, hm⟩ : ∃ m, m = told l := ⟨_, rfl⟩
  have TM : l.getD n2 0 = (m : Int) := by
    rw [hm, told, h.1, ← hn2]
    have := BY.out n2
    omega
  have mb : m ≤ 255 := by have := BY.out n2; omega
  rw [TM] at c2
  have OK : Hid (okO l = (decide (m + 2 ≤ n) && (List.range m).all fun i => decide (l.getD (n2 - m + i) 0 = (i : Int) + 1))) := Lib.hid (by unfold okO; rw [← hm, h.1, hn2])
  have NN : Hid (n2 + 2 = n ∧ n1 + 1 = n) := Lib.hid (by omega)
  have yb := BY.out n1
  rw [← hn1, ← hm]
  have u1 : IntKind.i64.wrap (m : Int) = (m : Int) := IntWalk.i64_in _ (by omega)
  have u2 : IntKind.i64.wrap (l.getD n1 0) = l.getD n1 0 := IntWalk.i64_in _ (by omega)
  have C1 : ∀ w, (Instr.sliceAt 22 (.slice (some ⟨b, p, none⟩) n c) none (some (.int .i64 (n2 : Int))) none).run Try.prog w = .ok (.slice (some ⟨b, p, none⟩) n2 c) w := fun w => by
    obtain ⟨A1, eA, CT⟩ := cut_to (some ⟨b, p, none⟩) n c n2 (by omega) hnc
    subst eA
    exact CT w
  have H2 : Hid (Holds w B (some ⟨b, p, none⟩) n2 c (l.take n2)) := Lib.hid (h.upto (by omega))
  have i1 : n1 < n := by omega
  have i2 : n2 < n := by omega
  have n2b : n2 ≤ 1000000 := by omega
  have n2c : n2 ≤ c := by omega
  have g : decide ((n : Int) < 2) = false := decide_eq_false (by omega)
  generalize l.getD n1 0 = y at *
  clear h hn2 hn1 hm TM
  by_cases hf : n2 < m
  · have OF : Hid (okO l = false) := Lib.hid (by rw [OK.out, decide_eq_false (by have := NN.out; omega), Bool.false_and])
    have g2 : decide ((n2 : Int) < (m : Int)) = true := decide_eq_true (by omega)
    have g3 : decide (n2 < m) = true := decide_eq_true hf
    have g4 : ((n2 : Int) < (m : Int)) = True := eq_true (by omega)
    clear OK
    go_enter Try.func10, Try.ntmps10
    go_wp2_with fail
    go_quiet (fail)
    clear f0 f1 u1 u2
    go_wp2_with fail
    go_ret3
    exact .inl ⟨OF.out, rfl, below_drewN (Below.refl w.heap.size w) nq⟩
  · obtain ⟨f, hfr⟩ : ∃ f, f = n2 - m := ⟨_, rfl⟩
    have g2 : decide ((n2 : Int) < (m : Int)) = false := decide_eq_false (by omega)
    have g3 : decide (n2 < m) = false := decide_eq_false hf
    have g4 : ((n2 : Int) < (m : Int)) = False := eq_false (by omega)
    have f2 : IntKind.i64.wrap ((n2 : Int) - (m : Int)) = (f : Int) := by rw [IntWalk.i64_in _ (by omega)]; omega
    have FE : Hid (n - 2 - m = f) := Lib.hid (by have := NN.out; omega)
    rw [FE.out]
    rw [decide_eq_true (show m + 2 ≤ n by have := NN.out; omega), Bool.true_and, ← hfr] at OK
    have C2 : ∀ w, (Instr.sliceAt 22 (.slice (some ⟨b, p, none⟩) n2 c) (some (.int .i64 (f : Int))) none none).run Try.prog w = .ok (.slice (some (adr b p c f)) m (c - f)) w := fun w => by
      have := cutA_l b p n2 c f w (by omega) n2c
      rwa [show n2 - f = m by omega] at this
    have C3 : ∀ w, (Instr.sliceAt 22 (.slice (some ⟨b, p, none⟩) n2 c) none (some (.int .i64 (f : Int))) none).run Try.prog w = .ok (.slice (some ⟨b, p, none⟩) f c) w := fun w => by
      obtain ⟨A1, eA, CT⟩ := cut_to (some ⟨b, p, none⟩) n2 c f (by omega) n2c
      subst eA
      exact CT w
    obtain ⟨k, hk⟩ : ∃ k, k = (l.take n2).drop f := ⟨_, rfl⟩
    have HT : Hid (Holds w B (some (adr b p c f)) m (c - f) k) := Lib.hid (by
      have := cutA_rest H2.out (lo := f) (by omega)
      rwa [show n2 - f = m by omega, ← hk] at this)
    have HF : Hid (Holds w B (some ⟨b, p, none⟩) f c (l.take f)) := Lib.hid (HK.out.upto (by omega))
    obtain ⟨r, hr⟩ : ∃ r, r = upB k m := ⟨_, rfl⟩
    have OR : Hid (okO l = r) := Lib.hid (by
      rw [OK.out, hr, upB, Bool.eq_iff_iff, List.all_eq_true, List.all_eq_true]
      have e : ∀ i, i < m → k.getD i 0 = l.getD (f + i) 0 := fun i hi => by
        rw [hk, List.getD_eq_getElem?_getD, List.getD_eq_getElem?_getD, List.getElem?_drop, List.getElem?_take, if_pos (by omega)]
      constructor
      · intro q i hi
        rw [e i (List.mem_range.1 hi)]
        exact q i hi
      · intro q i hi
        rw [← e i (List.mem_range.1 hi)]
        exact q i hi)
    have CC : Hid (∀ W : World, Below w.heap.size w W → Calls Try.prog 16 #[.slice (some (adr b p c f)) m (c - f)] W fun e w' => e = .returned (.bool r) ∧ W = w') := Lib.hid fun W hW => by
      rw [hr]
      exact counted_no _ _ _ k W B (HT.out.below (hW.mono hB)) (by omega)
    have CL : Hid (∀ W : World, Below w.heap.size w W → Calls Try.prog 17 #[.slice (some ⟨b, p, none⟩) f c] W fun e w' => ∃ A' c', e = .returned (.slice A' f c') ∧ Owns w' w.heap.size (.slice A' f c') f (l.take f) ∧ Below w.heap.size w w') := Lib.hid fun W hW =>
      (clone_any ⟨b, p, none⟩ f c (l.take f) W B (HF.out.below (hW.mono hB)) (Nat.le_trans hB hW.size) (by omega)).mono fun e w' ⟨A', c', h1, h2, h3⟩ => ⟨A', c', h1, h2.mono hW.size, hW.trans (h3.mono hW.size)⟩
    have HB2 := Lib.hid (Below.refl w.heap.size w)
    obtain ⟨lf, hlf⟩ : ∃ lf, lf = l.take f := ⟨_, rfl⟩
    rw [← hlf] at CL ⊢
    clear OK hk hr hlf HT HF hfr hf
    go_enter Try.func10, Try.ntmps10
    go_wp2_with fail
    go_quiet (fail)
    clear f0 f1 u1 u2 c1 c2 C1
    have B1 := Lib.hid (below_drewN (Below.refl w.heap.size w) nq)
    generalize w.drewN nq = w1 at *
    go_wp2_with fail
    refine (CC.out _ B1.out).mono ?_
    rintro e w' ⟨rfl, rfl⟩
    cases r with
    | false =>
      go_wp2_with fail
      go_ret3
      exact .inl ⟨OR.out, rfl, B1.out⟩
    | true =>
      go_wp2_with fail
      refine (CL.out _ B1.out).mono ?_
      rintro e w2 ⟨A', c', rfl, oo, hb⟩
      have OX := Lib.hid oo
      have BX := Lib.hid hb
      clear oo hb
      go_wp2_with fail
      go_ret3
      exact .inr ⟨OR.out, _, rfl, OX.out, BX.out⟩
end Go.Proofs.Ytedojbhebbdagaa.Pad2
