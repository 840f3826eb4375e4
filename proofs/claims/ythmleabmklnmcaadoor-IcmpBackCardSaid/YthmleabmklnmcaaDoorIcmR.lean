/- Contracts of the document: sum, Check, Same, Error, Kind. -/
import Derived.Test.YthmleabmklnmcaaDoorIcm1
import Derived.LoopTactic
set_option linter.unusedVariables false
namespace Go.Proofs.YthmleabmklnmcaaDoor.IcmR
open Go.RowKit Go.Sort Go.Proofs.YthmleabmklnmcaaDoor.Sums Go.Proofs.YthmleabmklnmcaaDoor.Words Go.Proofs.YthmleabmklnmcaaDoor.Mem Go.Proofs.YthmleabmklnmcaaDoor.Ahead Go.Proofs.YthmleabmklnmcaaDoor.IcmD Go.Proofs.YthmleabmklnmcaaDoor.Blk Go.Proofs.YthmleabmklnmcaaDoor.Bits Go.Proofs.YthmleabmklnmcaaDoor.InetSum Go.Proofs.YthmleabmklnmcaaDoor.Steps Go.Proofs.YthmleabmklnmcaaDoor.Free Go.Proofs.YthmleabmklnmcaaDoor.Cut
open Go.Proofs.YthmleabmklnmcaaDoor.Com Go.Proofs.YthmleabmklnmcaaDoor.RefSum

theorem sum_doc (s d : ByteArray) (A : Option Addr) (n c : Nat) (l : List Int) (w : World) (B : Nat) (h : Holds w B A n c l) (hB : B ≤ w.heap.size) (hn : n ≤ 65535) (hp : paired s d = true) :
    Calls Tryd.prog 28 #[.slice A n c, .string s, .string d] w fun e w' => e = .returned (.int .i64 (summ s d l)) ∧ Below w.heap.size w w' := by
  have P := Lib.hid (Ref5.sum_any5 s d 58 A n c l w B h hB hn hp (by decide) (by decide))
  have S := Lib.hid (sum_ref A n c l w B h (by omega))
  have pp := paired_true hp
  have B0 := Lib.hid (Below.refl w.heap.size w)
  clear h
  by_cases q : s.size = 16
  · have E : Hid (whole s d 58 l = summ s d l) := Lib.hid (by unfold summ; rw [if_pos q])
    have g1 : ((s.size : Int) == 16) = true := by simp; omega
    clear q pp hp
    go_enter Tryd.func28, Tryd.ntmps28
    go_wp2_with fail
    refine P.out.mono ?_
    rintro e w' ⟨rfl, hb⟩
    rw [E.out]
    go_wp2_with fail
    go_ret
    exact ⟨rfl, hb⟩
  · have E : Hid (sums 0 l = summ s d l) := Lib.hid (by unfold summ; rw [if_neg q])
    have g1 : ((s.size : Int) == 16) = false := by simp; omega
    clear q pp hp
    go_enter Tryd.func28, Tryd.ntmps28
    go_wp2_with fail
    refine S.out.mono ?_
    rintro e w' ⟨rfl, rfl⟩
    rw [E.out]
    go_wp2_with fail
    go_ret
    exact ⟨rfl, B0.out⟩

theorem err_valid {p : Ic} {s d : ByteArray} {n : Nat} (h : ¬ Valid p) : p.err s d n = 1 := by
  unfold Ic.err
  rw [if_neg fun q => by rw [Bool.and_eq_true] at q; exact h (Ic.ok_valid q.1)]
theorem err_pair {p : Ic} {s d : ByteArray} {n : Nat} (h : paired s d = false) : p.err s d n = 1 := by
  unfold Ic.err
  rw [if_neg fun q => by rw [h] at q; simp at q]
theorem err_long {p : Ic} {s d : ByteArray} {n : Nat} (h : Valid p) (hp : paired s d = true) : p.err s d n = if 65535 < 8 + n then 2 else 0 := by
  unfold Ic.err
  rw [h.ok, hp, if_pos (show (true && true) = true from rfl)]

set_option maxHeartbeats 1000000 in
theorem check_ref (p : Ic) (A : Option Addr) (n c : Nat) (s d : ByteArray) (w : World) (hn : n ≤ 1048576) :
    Calls Tryd.prog 11 #[.agg #[.int .i64 p.typ, .int .i64 p.code, .int .i64 p.rest, .slice A n c], .string s, .string d] w fun e w' => e = .returned (.int .i64 (p.err s d n)) ∧ Below w.heap.size w w' := by
  have B0 := Lib.hid ((Below.refl w.heap.size w).alloc (Nat.le_refl _) (.cells #[.int .i64 p.typ, .int .i64 p.code, .int .i64 p.rest, .slice A n c] 24))
  have K0 := Blk.new w 24 #[.int .i64 p.typ, .int .i64 p.code, .int .i64 p.rest, .slice A n c]
  have k0 := K0.cell 0
  have k1 := K0.cell 1
  have k2 := K0.cell 2
  have k3 := K0.cell 3
  clear K0
  have WP := Lib.hid (fun W => Ref5.pair_ref s d W)
  by_cases q0 : p.typ < 0
  · have F : Hid (p.err s d n = 1) := Lib.hid (err_valid fun V => by have := V.t0; omega)
    have g0 : decide (p.typ < 0) = true := decide_eq_true q0
    clear q0
    go_enter Tryd.func11, Tryd.ntmps11
    go_wp2_with fail
    go_ret
    exact ⟨by rw [F.out]; rfl, B0.out⟩
  have g0 : decide (p.typ < 0) = false := decide_eq_false q0
  by_cases q1 : 255 < p.typ
  · have F : Hid (p.err s d n = 1) := Lib.hid (err_valid fun V => by have := V.t1; omega)
    have g1 : decide (255 < p.typ) = true := decide_eq_true q1
    clear q1
    go_enter Tryd.func11, Tryd.ntmps11
    go_wp2_with fail
    go_ret
    exact ⟨by rw [F.out]; rfl, B0.out⟩
  have g1 : decide (255 < p.typ) = false := decide_eq_false q1
  by_cases q2 : p.code < 0
  · have F : Hid (p.err s d n = 1) := Lib.hid (err_valid fun V => by have := V.c0; omega)
    have g2 : decide (p.code < 0) = true := decide_eq_true q2
    clear q2
    go_enter Tryd.func11, Tryd.ntmps11
    go_wp2_with fail
    go_ret
    exact ⟨by rw [F.out]; rfl, B0.out⟩
  have g2 : decide (p.code < 0) = false := decide_eq_false q2
  by_cases q3 : 255 < p.code
  · have F : Hid (p.err s d n = 1) := Lib.hid (err_valid fun V => by have := V.c1; omega)
    have g3 : decide (255 < p.code) = true := decide_eq_true q3
    clear q3
    go_enter Tryd.func11, Tryd.ntmps11
    go_wp2_with fail
    go_ret
    exact ⟨by rw [F.out]; rfl, B0.out⟩
  have g3 : decide (255 < p.code) = false := decide_eq_false q3
  by_cases q4 : p.rest < 0
  · have F : Hid (p.err s d n = 1) := Lib.hid (err_valid fun V => by have := V.r0; omega)
    have g4 : decide (p.rest < 0) = true := decide_eq_true q4
    clear q4
    go_enter Tryd.func11, Tryd.ntmps11
    go_wp2_with fail
    go_ret
    exact ⟨by rw [F.out]; rfl, B0.out⟩
  have g4 : decide (p.rest < 0) = false := decide_eq_false q4
  by_cases q5 : 4294967295 < p.rest
  · have F : Hid (p.err s d n = 1) := Lib.hid (err_valid fun V => by have := V.r1; omega)
    have g5 : decide (4294967295 < p.rest) = true := decide_eq_true q5
    clear q5
    go_enter Tryd.func11, Tryd.ntmps11
    go_wp2_with fail
    go_ret
    exact ⟨by rw [F.out]; rfl, B0.out⟩
  have g5 : decide (4294967295 < p.rest) = false := decide_eq_false q5
  have V : Valid p := ⟨by omega, by omega, by omega, by omega, by omega, by omega⟩
  clear q0 q1 q2 q3 q4 q5
  cases hp : paired s d with
  | false =>
    have F : Hid (p.err s d n = 1) := Lib.hid (err_pair hp)
    rw [hp] at WP
    clear hp V
    go_enter Tryd.func11, Tryd.ntmps11
    go_wp2_with fail
    refine (WP.out _).mono ?_
    rintro e w' ⟨rfl, rfl⟩
    go_wp2_with fail
    go_ret
    exact ⟨by rw [F.out]; rfl, B0.out⟩
  | true =>
    have F0 := err_long (n := n) V hp
    rw [hp] at WP
    clear hp V
    by_cases q : 65535 < 8 + n
    · have F : Hid (p.err s d n = 2) := Lib.hid (by rw [F0, if_pos q])
      have g : ((65535 : Int) < 8 + (n : Int)) = True := eq_true (by omega)
      clear q F0
      go_enter Tryd.func11, Tryd.ntmps11
      go_wp2_with fail
      refine (WP.out _).mono ?_
      rintro e w' ⟨rfl, rfl⟩
      go_wp2_with fail
      go_ret
      exact ⟨by rw [F.out]; rfl, B0.out⟩
    · have F : Hid (p.err s d n = 0) := Lib.hid (by rw [F0, if_neg q])
      have g : ((65535 : Int) < 8 + (n : Int)) = False := eq_false (by omega)
      clear q F0
      go_enter Tryd.func11, Tryd.ntmps11
      go_wp2_with fail
      refine (WP.out _).mono ?_
      rintro e w' ⟨rfl, rfl⟩
      go_wp2_with fail
      go_ret
      exact ⟨by rw [F.out]; rfl, B0.out⟩

/-- Same of equal messages. -/
theorem same_yes (p : Ic) (A : Option Addr) (n c : Nat) (A2 : Option Addr) (n2 c2 : Nat) (l : List Int) (B : Nat) (w : World) (h : Holds w B A n c l) (h2 : Holds w B A2 n2 c2 l) (hB : B ≤ w.heap.size) :
    Calls Tryd.prog 12 #[.agg #[.int .i64 p.typ, .int .i64 p.code, .int .i64 p.rest, .slice A n c], .agg #[.int .i64 p.typ, .int .i64 p.code, .int .i64 p.rest, .slice A2 n2 c2]] w fun e w' => e = .returned (.bool true) ∧ Below w.heap.size w w' := by
  have B0 := Lib.hid (((Below.refl w.heap.size w).alloc (Nat.le_refl _) (.cells #[.int .i64 p.typ, .int .i64 p.code, .int .i64 p.rest, .slice A n c] 24)).alloc (by simp) (.cells #[.int .i64 p.typ, .int .i64 p.code, .int .i64 p.rest, .slice A2 n2 c2] 24))
  have K1 := (Blk.new w 24 #[.int .i64 p.typ, .int .i64 p.code, .int .i64 p.rest, .slice A n c]).alloc (.cells #[.int .i64 p.typ, .int .i64 p.code, .int .i64 p.rest, .slice A2 n2 c2] 24)
  have K2 := Blk.new (w.alloc (.cells #[.int .i64 p.typ, .int .i64 p.code, .int .i64 p.rest, .slice A n c] 24)) 24 #[.int .i64 p.typ, .int .i64 p.code, .int .i64 p.rest, .slice A2 n2 c2]
  rw [show (w.alloc (.cells #[.int .i64 p.typ, .int .i64 p.code, .int .i64 p.rest, .slice A n c] 24)).heap.size = w.heap.size + 1 by simp] at K2
  have k0 := K1.cell 0
  have j0 := K2.cell 0
  have k1 := K1.cell 1
  have j1 := K2.cell 1
  have k2 := K1.cell 2
  have j2 := K2.cell 2
  have k3 := K1.cell 3
  have j3 := K2.cell 3
  have v1 := run_string_bytes (h.below (B0.out.mono hB))
  have v2 := run_string_bytes (h2.below (B0.out.mono hB))
  clear K1 K2 h h2
  generalize strOfNums l = t at *
  go_enter Tryd.func12, Tryd.ntmps12
  go_wp2_with fail
  go_ret
  exact ⟨rfl, B0.out⟩

theorem error_ref (k : Int) (w : World) : Calls Tryd.prog 22 #[.int .i64 k] w fun e w' => e = .returned (.bool (tells k)) ∧ w = w' := by
  by_cases h : 3 ≤ k <;> by_cases g : k ≤ 6
  all_goals
    have e : Hid (tells k = (decide (3 ≤ k) && decide (k ≤ 6))) := Lib.hid rfl
    go_enter Tryd.func22, Tryd.ntmps22
    go_wp2
    go_ret
    rw [e.out]
    simp [h, g]

set_option maxHeartbeats 1000000 in
theorem kind_narrow (t c r : Int) (A : Option Addr) (n cc : Nat) (w : World) : Calls Tryd.prog 20 #[.agg #[.int .i64 t, .int .i64 c, .int .i64 r, .slice A n cc], .bool false] w fun e w' => e = .returned (.int .i64 (kind t c false)) ∧ Below w.heap.size w w' := by
  have B0 := Lib.hid ((Below.refl w.heap.size w).alloc (Nat.le_refl _) (.cells #[.int .i64 t, .int .i64 c, .int .i64 r, .slice A n cc] 24))
  have K0 := Blk.new w 24 #[.int .i64 t, .int .i64 c, .int .i64 r, .slice A n cc]
  have k0 := K0.cell 0
  have k1 := K0.cell 1
  clear K0
  by_cases h0 : t = 8
  · subst h0
    by_cases g : c = 0
    · subst g
      go_enter Tryd.func20, Tryd.ntmps20
      go_wp2_with fail
      go_ret
      exact ⟨rfl, B0.out⟩
    · have F : Hid (kind 8 c false = 0) := Lib.hid (by simp [kind, g])
      have g1 : (c == 0) = false := by simpa using g
      clear g
      go_enter Tryd.func20, Tryd.ntmps20
      go_wp2_with fail
      go_ret
      exact ⟨by rw [F.out]; rfl, B0.out⟩
  by_cases h1 : t = 0
  · subst h1
    by_cases g : c = 0
    · subst g
      go_enter Tryd.func20, Tryd.ntmps20
      go_wp2_with fail
      go_ret
      exact ⟨rfl, B0.out⟩
    · have F : Hid (kind 0 c false = 0) := Lib.hid (by simp [kind, g])
      have g1 : (c == 0) = false := by simpa using g
      clear g
      go_enter Tryd.func20, Tryd.ntmps20
      go_wp2_with fail
      go_ret
      exact ⟨by rw [F.out]; rfl, B0.out⟩
  by_cases h2 : t = 3
  · subst h2
    by_cases g : c = 4
    · subst g
      go_enter Tryd.func20, Tryd.ntmps20
      go_wp2_with fail
      go_ret
      exact ⟨rfl, B0.out⟩
    · have F : Hid (kind 3 c false = 3) := Lib.hid (by simp [kind, g])
      have g1 : (c == 4) = false := by simpa using g
      clear g
      go_enter Tryd.func20, Tryd.ntmps20
      go_wp2_with fail
      go_ret
      exact ⟨by rw [F.out]; rfl, B0.out⟩
  by_cases h3 : t = 11
  · subst h3
    go_enter Tryd.func20, Tryd.ntmps20
    go_wp2_with fail
    go_ret
    exact ⟨rfl, B0.out⟩
  by_cases h4 : t = 12
  · subst h4
    go_enter Tryd.func20, Tryd.ntmps20
    go_wp2_with fail
    go_ret
    exact ⟨rfl, B0.out⟩
  have F : Hid (kind t c false = 0) := Lib.hid (by simp [kind, h0, h1, h2, h3, h4])
  have g0 : (t == 8) = false := by simpa using h0
  have g1 : (t == 0) = false := by simpa using h1
  have g2 : (t == 3) = false := by simpa using h2
  have g3 : (t == 11) = false := by simpa using h3
  have g4 : (t == 12) = false := by simpa using h4
  clear h0 h1 h2 h3 h4
  go_enter Tryd.func20, Tryd.ntmps20
  go_wp2_with fail
  go_ret
  exact ⟨by rw [F.out]; rfl, B0.out⟩
set_option maxHeartbeats 1000000 in
theorem kind_broad (t c r : Int) (A : Option Addr) (n cc : Nat) (w : World) : Calls Tryd.prog 20 #[.agg #[.int .i64 t, .int .i64 c, .int .i64 r, .slice A n cc], .bool true] w fun e w' => e = .returned (.int .i64 (kind t c true)) ∧ Below w.heap.size w w' := by
  have B0 := Lib.hid ((Below.refl w.heap.size w).alloc (Nat.le_refl _) (.cells #[.int .i64 t, .int .i64 c, .int .i64 r, .slice A n cc] 24))
  have K0 := Blk.new w 24 #[.int .i64 t, .int .i64 c, .int .i64 r, .slice A n cc]
  have k0 := K0.cell 0
  have k1 := K0.cell 1
  clear K0
  by_cases h0 : t = 128
  · subst h0
    by_cases g : c = 0
    · subst g
      go_enter Tryd.func20, Tryd.ntmps20
      go_wp2_with fail
      go_ret
      exact ⟨rfl, B0.out⟩
    · have F : Hid (kind 128 c true = 0) := Lib.hid (by simp [kind, g])
      have g1 : (c == 0) = false := by simpa using g
      clear g
      go_enter Tryd.func20, Tryd.ntmps20
      go_wp2_with fail
      go_ret
      exact ⟨by rw [F.out]; rfl, B0.out⟩
  by_cases h1 : t = 129
  · subst h1
    by_cases g : c = 0
    · subst g
      go_enter Tryd.func20, Tryd.ntmps20
      go_wp2_with fail
      go_ret
      exact ⟨rfl, B0.out⟩
    · have F : Hid (kind 129 c true = 0) := Lib.hid (by simp [kind, g])
      have g1 : (c == 0) = false := by simpa using g
      clear g
      go_enter Tryd.func20, Tryd.ntmps20
      go_wp2_with fail
      go_ret
      exact ⟨by rw [F.out]; rfl, B0.out⟩
  by_cases h2 : t = 1
  · subst h2
    go_enter Tryd.func20, Tryd.ntmps20
    go_wp2_with fail
    go_ret
    exact ⟨rfl, B0.out⟩
  by_cases h3 : t = 2
  · subst h3
    go_enter Tryd.func20, Tryd.ntmps20
    go_wp2_with fail
    go_ret
    exact ⟨rfl, B0.out⟩
  by_cases h4 : t = 3
  · subst h4
    go_enter Tryd.func20, Tryd.ntmps20
    go_wp2_with fail
    go_ret
    exact ⟨rfl, B0.out⟩
  by_cases h5 : t = 4
  · subst h5
    go_enter Tryd.func20, Tryd.ntmps20
    go_wp2_with fail
    go_ret
    exact ⟨rfl, B0.out⟩
  have F : Hid (kind t c true = 0) := Lib.hid (by simp [kind, h0, h1, h2, h3, h4, h5])
  have g0 : (t == 128) = false := by simpa using h0
  have g1 : (t == 129) = false := by simpa using h1
  have g2 : (t == 1) = false := by simpa using h2
  have g3 : (t == 2) = false := by simpa using h3
  have g4 : (t == 3) = false := by simpa using h4
  have g5 : (t == 4) = false := by simpa using h5
  clear h0 h1 h2 h3 h4 h5
  go_enter Tryd.func20, Tryd.ntmps20
  go_wp2_with fail
  go_ret
  exact ⟨by rw [F.out]; rfl, B0.out⟩
theorem kind_ref (t c r : Int) (wide : Bool) (A : Option Addr) (n cc : Nat) (w : World) : Calls Tryd.prog 20 #[.agg #[.int .i64 t, .int .i64 c, .int .i64 r, .slice A n cc], .bool wide] w fun e w' => e = .returned (.int .i64 (kind t c wide)) ∧ Below w.heap.size w w' := by
  cases wide
  · exact kind_narrow t c r A n cc w
  · exact kind_broad t c r A n cc w
end Go.Proofs.YthmleabmklnmcaaDoor.IcmR
