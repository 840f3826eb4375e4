/- Contracts of the code: within, paired, sum, word, faulty; a row cloned, whatever it is. -/
import Derived.Test.YthmleabmklnmcaaDoorRef5
import Derived.Test.YthmleabmklnmcaaDoorPseudo
import Derived.Test.YthmleabmklnmcaaDoorIcmD
import Derived.Lib.QuietBelow
import Derived.BigQuiet
import Derived.Test.YthmleabmklnmcaaDoorRegs
import Derived.Test.YthmleabmklnmcaaDoorLoads
import Derived.Test.YthmleabmklnmcaaDoorCom
import Derived.Deep.QuietTactic
set_option linter.unusedVariables false
namespace Go.Proofs.YthmleabmklnmcaaDoor.Icm1
open Go.RowKit Go.Sort Go.Proofs.YthmleabmklnmcaaDoor.Sums Go.Proofs.YthmleabmklnmcaaDoor.Words Go.Proofs.YthmleabmklnmcaaDoor.Mem Go.Proofs.YthmleabmklnmcaaDoor.Ahead Go.Proofs.YthmleabmklnmcaaDoor.IcmD Go.Proofs.YthmleabmklnmcaaDoor.Blk Go.Proofs.YthmleabmklnmcaaDoor.Bits Go.Proofs.YthmleabmklnmcaaDoor.InetSum Go.Proofs.YthmleabmklnmcaaDoor.Steps Go.Proofs.YthmleabmklnmcaaDoor.Free Go.Proofs.YthmleabmklnmcaaDoor.Cut
open Go.Proofs.YthmleabmklnmcaaDoor.Regs (cell_getD)

theorem within_any (n m : Int) (w : World) : Calls Tryd.prog 23 #[.int .i64 n, .int .i64 m] w fun e w' => e = .returned (.bool (wi n m)) ∧ w = w' := by
  by_cases h : 0 ≤ n <;> by_cases k : n ≤ m
  all_goals
    have e : Hid (wi n m = (decide (0 ≤ n) && decide (n ≤ m))) := Lib.hid rfl
    go_enter Tryd.func23, Tryd.ntmps23
    go_wp2
    go_ret
    rw [e.out]
    simp [h, k]
theorem paired_any (s d : ByteArray) (w : World) : Calls Tryd.prog 24 #[.string s, .string d] w fun e w' => e = .returned (.bool (paired s d)) ∧ w = w' := by
  have E : Hid (paired s d = (decide (s.size = d.size) && (decide (s.size = 4) || decide (s.size = 16)))) := Lib.hid rfl
  by_cases h : s.size = d.size
  · have g1 : ((s.size : Int) == (d.size : Int)) = true := by simp; omega
    by_cases h4 : s.size = 4
    · have g2 : ((s.size : Int) == 4) = true := by simp; omega
      have F : Hid (paired s d = true) := Lib.hid (by rw [E.out]; simp only [h4, ← h]; decide)
      clear h h4
      go_enter Tryd.func24, Tryd.ntmps24
      go_wp2_with fail
      go_ret
      exact ⟨by rw [F.out]; rfl, rfl⟩
    · have g2 : ((s.size : Int) == 4) = false := by simp; omega
      have F : Hid (paired s d = ((s.size : Int) == 16)) := Lib.hid (by
        rw [E.out]
        by_cases h16 : s.size = 16
        · simp only [h16, ← h]; decide
        · have : ((s.size : Int) == 16) = false := by simp; omega
          rw [this]; simp [h4, h16])
      clear h h4
      go_enter Tryd.func24, Tryd.ntmps24
      go_wp2_with fail
      go_ret
      exact ⟨by rw [F.out]; rfl, rfl⟩
  · have g1 : ((s.size : Int) == (d.size : Int)) = false := by simp; omega
    have F : Hid (paired s d = false) := Lib.hid (by rw [E.out]; simp [h])
    clear h
    go_enter Tryd.func24, Tryd.ntmps24
    go_wp2_with fail
    go_ret
    exact ⟨by rw [F.out]; rfl, rfl⟩

theorem sum_code (s d : ByteArray) (A : Option Addr) (n c : Nat) (l : List Int) (w : World) (B : Nat) (h : Holds w B A n c l) (hB : B ≤ w.heap.size) (hn : n ≤ 65535) (hp : paired s d = true) :
    Calls Tryd.prog 25 #[.slice A n c, .string s, .string d] w fun e w' => e = .returned (.int .i64 (summ s d l)) ∧ Below w.heap.size w w' := by
  have HL := Lib.hid h.1
  have P := Lib.hid (Ref5.pseudo_any s d 58 n w hp (by decide) (by decide) (by omega) (by omega))
  have S := Lib.hid (sum_any A n c l w B h (by omega))
  have pp := paired_true hp
  have B0 := Lib.hid (Below.refl w.heap.size w)
  clear h
  by_cases q : s.size = 4
  · have E : Hid (sums 0 l = summ s d l) := Lib.hid (by unfold summ; rw [if_neg (by omega)])
    have g1 : ((s.size : Int) == 4) = true := by simp; omega
    clear q pp hp
    go_enter Tryd.func25, Tryd.ntmps25
    go_wp2_with fail
    refine S.out.mono ?_
    rintro e w' ⟨rfl, rfl⟩
    rw [E.out]
    go_wp2_with fail
    go_ret
    exact ⟨rfl, B0.out⟩
  · have E : Hid (add (around s d 58 n) (sums 0 l) = summ s d l) := Lib.hid (by unfold summ whole; rw [if_pos (by omega), HL.out])
    have g1 : ((s.size : Int) == 4) = false := by simp; omega
    clear q pp hp
    go_enter Tryd.func25, Tryd.ntmps25
    go_wp2_with fail
    refine S.out.mono ?_
    rintro e w' ⟨rfl, rfl⟩
    go_wp2_with fail
    refine P.out.mono ?_
    rintro e w1 ⟨rfl, hb⟩
    have B1 := Lib.hid hb
    clear hb
    go_wp2_with fail
    refine (add_code _ _ _).mono ?_
    rintro e w' ⟨rfl, rfl⟩
    rw [E.out]
    go_wp2_with fail
    go_ret
    exact ⟨rfl, B1.out⟩

theorem word_any (A : Option Addr) (n c : Nat) (l : List Int) (w : World) (B : Nat) (h : Holds w B A n c l) (i : Nat) (hi : i + 1 < n) :
    Calls Tryd.prog 31 #[.slice A n c, .int .i64 (i : Int)] w fun e w' => e = .returned (.int .i64 (w16 l i)) ∧ Below w.heap.size w w' := by
  obtain ⟨b, p, rfl, _⟩ := h.2.2.2.2 (by omega)
  have B0 := Lib.hid (Below.refl w.heap.size w)
  have c0 := cell_getD h i (by omega)
  have c1 : w.cell? ⟨b, p + (i + 1), none⟩ = some (.int .u8 (l.getD (i + 1) 0)) := cell_getD h (i + 1) hi
  have y := getD_in h.2.2.2.1 i
  have z := getD_in h.2.2.2.1 (i + 1)
  have E : Hid (256 * l.getD i 0 + l.getD (i + 1) 0 = w16 l i) := Lib.hid rfl
  have hm := h.2.2.1
  have hn := h.2.1
  unfold maxLen at hm
  clear h
  generalize l.getD i 0 = y0 at *
  generalize l.getD (i + 1) 0 = z0 at *
  obtain ⟨i1, hi1⟩ : ∃ i1, i1 = i + 1 := ⟨_, rfl⟩
  rw [← hi1] at c1 hi
  have e0 : IntKind.i64.wrap ((i : Int) + 1) = (i1 : Int) := by rw [IntWalk.i64_in _ (by omega)]; omega
  have e1 : IntKind.i64.wrap (y0 * 256) = y0 * 256 := IntWalk.i64_in _ (by omega)
  have e2 : bits .or .i64 (y0 * 256) z0 = 256 * y0 + z0 := or_byte y.1 y.2 z.1 z.2
  have e3 : IntKind.i64.wrap y0 = y0 := IntWalk.i64_in _ (by omega)
  have e4 : IntKind.i64.wrap z0 = z0 := IntWalk.i64_in _ (by omega)
  have j0 : i < n := by omega
  obtain ⟨y1, y2⟩ := y
  obtain ⟨z1, z2⟩ := z
  clear hi1
  go_enter Tryd.func31, Tryd.ntmps31
  go_wp2_with fail
  go_quiet (fail)
  clear e0 e1 e2 e3 e4
  go_wp2_with fail
  go_ret
  exact ⟨by rw [E.out]; rfl, below_drewN B0.out nq⟩

theorem clone_nil (c : Nat) (w : World) : Calls Tryd.prog 32 #[.slice none 0 c] w fun e w' => e = .returned (.slice none 0 0) ∧ w = w' := by
  have qT : ∀ (w : World) (a : Option Addr) (n c n' c' : Nat), (binOp .eql 22 (.slice a n c) (.slice none n' c')).run Tryd.prog w = .ok (.bool a.isNone) w := fun w a n c n' c' => Lib.run_eql_slice_nil w _ _ a n c n' c' Tryd.underlying22
  go_enter Tryd.func32, Tryd.ntmps32
  go_wp2_with fail
  go_ret
  exact ⟨rfl, rfl⟩
theorem owns_nil (w : World) (base : Nat) : Owns w base (.slice none 0 0) 0 [] := ⟨rfl, fun _ h => (by cases h), .inl ⟨rfl, rfl⟩⟩
theorem clone_all (A : Option Addr) (n c : Nat) (l : List Int) (w : World) (B : Nat) (h : Holds w B A n c l) (hB : B ≤ w.heap.size) (hn : n ≤ 1048576) :
    Calls Tryd.prog 32 #[.slice A n c] w fun e w' => ∃ A' c', e = .returned (.slice A' n c') ∧ Owns w' w.heap.size (.slice A' n c') n l ∧ Below w.heap.size w w' := by
  cases A with
  | some ad => exact clone_any ad n c l w B h hB hn
  | none =>
    have n0 : n = 0 := by
      rcases Nat.eq_zero_or_pos n with q | q
      · exact q
      · obtain ⟨b, o, e, _⟩ := h.2.2.2.2 q
        cases e
    subst n0
    have l0 : l = [] := List.length_eq_zero_iff.1 h.1
    subst l0
    exact (clone_nil c w).mono fun e w' ⟨h1, h2⟩ => by
      subst h2
      exact ⟨none, 0, h1, owns_nil _ _, Below.refl _ _⟩

set_option maxHeartbeats 1000000 in
theorem faulty_any (s d : ByteArray) (A : Option Addr) (n c : Nat) (l : List Int) (w : World) (B : Nat) (h : Holds w B A n c l) (hB : B ≤ w.heap.size) (hn : n ≤ 1048576) :
    Calls Tryd.prog 30 #[.slice A n c, .string s, .string d] w fun e w' => e = .returned (.int .i64 (perr l s d)) ∧ Below w.heap.size w w' := by
  have hl := h.1
  have P := Lib.hid (paired_any s d w)
  have B0 := Lib.hid (Below.refl w.heap.size w)
  cases hp : paired s d with
  | false =>
    rw [hp] at P
    have E : Hid (perr l s d = 1) := Lib.hid (by unfold perr; rw [hp, if_pos rfl])
    clear h hp
    go_enter Tryd.func30, Tryd.ntmps30
    go_wp2_with fail
    refine P.out.mono ?_
    rintro e w1 ⟨rfl, rfl⟩
    go_wp2_with fail
    go_ret
    exact ⟨by rw [E.out]; rfl, B0.out⟩
  | true =>
  rw [hp] at P
  by_cases q0 : n < 8
  · have E : Hid (perr l s d = 8) := Lib.hid (by unfold perr; rw [hp, if_neg (by decide), if_pos (by omega)])
    have g1 : decide (n < 8) = true := decide_eq_true q0
    have g2 : decide ((n : Int) < 8) = true := decide_eq_true (by omega)
    clear h hp hl
    go_enter Tryd.func30, Tryd.ntmps30
    go_wp2_with fail
    refine P.out.mono ?_
    rintro e w1 ⟨rfl, rfl⟩
    go_wp2_with fail
    go_ret
    exact ⟨by rw [E.out]; rfl, B0.out⟩
  have g1 : decide (n < 8) = false := decide_eq_false q0
  have g2 : decide ((n : Int) < 8) = false := decide_eq_false (by omega)
  by_cases q2 : 65535 < n
  · have q2' : decide (65535 < n) = true := decide_eq_true q2
    have q2'' : decide ((65535 : Int) < (n : Int)) = true := decide_eq_true (by omega)
    have E : Hid (perr l s d = 2) := Lib.hid (by unfold perr; rw [hp, if_neg (by decide), if_neg (by omega), if_pos (by omega)])
    clear h hp hl q2
    go_enter Tryd.func30, Tryd.ntmps30
    go_wp2_with fail
    refine P.out.mono ?_
    rintro e w1 ⟨rfl, rfl⟩
    go_wp2_with fail
    go_ret
    exact ⟨by rw [E.out]; rfl, B0.out⟩
  have q2' : decide (65535 < n) = false := decide_eq_false q2
  have q2'' : decide ((65535 : Int) < (n : Int)) = false := decide_eq_false (by omega)
  have SM := Lib.hid (sum_code s d A n c l w B h hB (by omega) hp)
  have E : Hid (perr l s d = if summ s d l ≠ 65535 then 5 else 0) := Lib.hid (by unfold perr; rw [hp, if_neg (by decide), if_neg (by omega), if_neg (by omega)])
  clear h hp hl q2
  generalize summ s d l = t at *
  by_cases q5 : t = 65535
  · have q5' : (t != 65535) = false := by simpa using q5
    have F : Hid (perr l s d = 0) := Lib.hid (by rw [E.out, if_neg (by omega)])
    clear E q5
    go_enter Tryd.func30, Tryd.ntmps30
    go_wp2_with fail
    refine P.out.mono ?_
    rintro e w1 ⟨rfl, rfl⟩
    go_wp2_with fail
    refine SM.out.mono ?_
    rintro e w1 ⟨rfl, hb⟩
    have B1 := Lib.hid hb
    clear hb
    go_wp2_with fail
    go_ret
    exact ⟨by rw [F.out]; rfl, B1.out⟩
  · have q5' : (t != 65535) = true := by simpa using q5
    have F : Hid (perr l s d = 5) := Lib.hid (by rw [E.out, if_pos q5])
    clear E q5
    go_enter Tryd.func30, Tryd.ntmps30
    go_wp2_with fail
    refine P.out.mono ?_
    rintro e w1 ⟨rfl, rfl⟩
    go_wp2_with fail
    refine SM.out.mono ?_
    rintro e w1 ⟨rfl, hb⟩
    have B1 := Lib.hid hb
    clear hb
    go_wp2_with fail
    go_ret
    exact ⟨by rw [F.out]; rfl, B1.out⟩
end Go.Proofs.YthmleabmklnmcaaDoor.Icm1
