/- The contracts of the code's counted, Open. -/
import Derived.Test.YtdnkbefpbehllaaDoorM23
import Derived.Test.YtdnkbefpbehllaaDoorM07
import Derived.Test.YtdnkbefpbehllaaDoorM19
import Derived.BigQuiet
import Derived.WalkMore
import Derived.Lib.SlBytesConst
set_option linter.unusedVariables false
namespace Go.Proofs.YtdnkbefpbehllaaDoor.Pad2
open Go.RowKit Go.Proofs.YtdnkbefpbehllaaDoor.Sums Go.Proofs.YtdnkbefpbehllaaDoor.Mem Go.Proofs.YtdnkbefpbehllaaDoor.Blk Go.Proofs.YtdnkbefpbehllaaDoor.Bits Go.Proofs.YtdnkbefpbehllaaDoor.Bits3 Go.Proofs.YtdnkbefpbehllaaDoor.Ints Go.Proofs.YtdnkbefpbehllaaDoor.Cut Go.Proofs.YtdnkbefpbehllaaDoor.PadR Go.Proofs.YtdnkbefpbehllaaDoor.PadO

/-- Are they one, two, ..? -/
def upB (l : List Int) (n : Nat) : Bool := (List.range n).all fun i => decide (l.getD i 0 = (i : Int) + 1)

set_option maxHeartbeats 1000000 in
theorem counted_no (A : Option Addr) (n c : Nat) (l : List Int) (w : World) (B : Nat) (h : Holds w B A n c l) (hn : n ≤ 1000000) :
    Calls Tryd.prog 41 #[.slice A n c] w fun e w' => e = .returned (.bool (upB l n)) ∧ w = w' := by
  have C1 : Hid (∀ j, j < n → ∃ b o, A = some ⟨b, o, none⟩ ∧ w.cell? ⟨b, o + j, none⟩ = some (.int .u8 (((nats l).getD j 0 : Nat) : Int)) ∧ (nats l).getD j 0 < 256 ∧ l.getD j 0 = (((nats l).getD j 0 : Nat) : Int)) := Lib.hid fun j hj => by
    obtain ⟨b, o, rfl, _, _⟩ := h.2.2.2.2 (by omega)
    have := cell_getD h j hj
    rw [nats_getD h.2.2.2.1 j] at this
    refine ⟨b, o, rfl, this, ?_, nats_getD h.2.2.2.1 j⟩
    have q := byte_bd h.2.2.2.1 j
    have e := nats_getD h.2.2.2.1 j
    omega
  clear h
  go_enter Tryd.func41, Tryd.ntmps41
  go_wp2_with fail
  go_step3
  go_wp2_with fail
  go_step3
  go_wp2_with fail
  go_loopw [3, 8] (fun rv kv wr => ∃ i : Nat, kv = .int .i64 (i : Int) ∧ rv = .int .i64 (i : Int) ∧ i ≤ n ∧ Hid (∀ t, t < i → l.getD t 0 = (t : Int) + 1) ∧ Hid (w = wr)) (fun _ kv _ => n - (intOf kv).toNat)
  case atStart => exact ⟨0, rfl, rfl, by omega, Lib.hid (fun t ht => by omega), Lib.hid (by trivial)⟩
  case round =>
    obtain ⟨i, rfl, rfl, hi, HA, HW⟩ := hrel
    obtain rfl := HW.out
    by_cases hlt : i < n
    · obtain ⟨b, o, rfl, k1, x1, y1⟩ := C1.out i hlt
      have NX : Hid (l.getD i 0 = (i : Int) + 1 → ∀ t, t < i + 1 → l.getD t 0 = (t : Int) + 1) := Lib.hid fun e t ht => by
        by_cases q : t = i
        · subst q; exact e
        · exact HA.out t (by omega)
      have BAD : Hid (l.getD i 0 ≠ (i : Int) + 1 → upB l n = false) := Lib.hid fun e => by
        unfold upB
        rw [List.all_eq_false]
        exact ⟨i, List.mem_range.2 hlt, by simpa using e⟩
      rw [y1] at NX BAD
      clear y1
      generalize (nats l).getD i 0 = Y at *
      have u1 : IntKind.i64.wrap (Y : Int) = (Y : Int) := IntWalk.i64_in _ (by omega)
      have u2 : IntKind.i64.wrap ((i : Int) + 1) = (i : Int) + 1 := IntWalk.i64_in _ (by omega)
      clear HA C1
      by_cases e : (Y : Int) = (i : Int) + 1
      · have g5 : ((Y : Int) == (i : Int) + 1) = true := by simp [e]
        have HA2 := Lib.hid (NX.out e)
        clear NX BAD e
        go_wp2_with fail
        go_roundw
        case rel => exact ⟨i + 1, by go_num, by go_num, by omega, HA2, Lib.hid (by trivial)⟩
        case measure => simp [intOf]; omega
      · have g5 : ((Y : Int) == (i : Int) + 1) = false := by rw [beq_eq_false_iff_ne]; exact e
        have g6 : ((i : Int) == (n : Int)) = false := by rw [beq_eq_false_iff_ne]; omega
        have g7 : (i == n) = false := by rw [beq_eq_false_iff_ne]; omega
        have F := Lib.hid (BAD.out e)
        clear NX BAD e
        go_wp2_with fail
        go_ret
        exact ⟨by rw [F.out]; rfl, rfl⟩
    · obtain rfl : i = n := by omega
      have OT : Hid (upB l i = true) := Lib.hid (by
        unfold upB
        rw [List.all_eq_true]
        intro t ht
        simpa using HA.out t (List.mem_range.1 ht))
      clear HA C1
      go_wp2_with fail
      go_ret
      exact ⟨by rw [OT.out]; rfl, rfl⟩

theorem open_more_no (A : Option Addr) (n c : Nat) (w : World) (hn : n < 2) : Calls Tryd.prog 35 #[.slice A n c] w fun e w' => e = .returned (.tuple #[.slice none 0 0, .int .i64 0, .int .i64 8]) ∧ w = w' := by
  have g : decide ((n : Int) < 2) = true := decide_eq_true (by omega)
  go_enter Tryd.func35, Tryd.ntmps35
  go_wp2_with fail
  go_ret3
  exact ⟨rfl, rfl⟩

set_option maxHeartbeats 1000000 in
set_option maxRecDepth 100000 in
/-- A row of two bytes and more is opened, or told that it is out of order. -/
theorem open_no (A : Option Addr) (n c : Nat) (l : List Int) (w : World) (B : Nat) (h : Holds w B A n c l) (hB : B ≤ w.heap.size) (hn : 2 ≤ n) (h3 : n ≤ 1000000) :
    Calls Tryd.prog 35 #[.slice A n c] w fun e w' => (okO l = false ∧ e = .returned (.tuple #[.slice none 0 0, .int .i64 0, .int .i64 130]) ∧ Below w.heap.size w w') ∨
      (okO l = true ∧ ∃ v, e = .returned (.tuple #[v, .int .i64 (l.getD (n - 1) 0), .int .i64 0]) ∧ Owns w' w.heap.size v (n - 2 - told l) (l.take (n - 2 - told l)) ∧ Below w.heap.size w w') := by
  obtain ⟨b, p, rfl, hbx⟩ := h.2.2.2.2 (by omega)
  clear hbx
  have HK := Lib.hid h
  have hnc := h.2.1
  have BY := Lib.hid (fun i => byte_bd h.2.2.2.1 i)
  obtain ⟨n2, hn2⟩ : ∃ n2, n2 = n - 2 := ⟨_, rfl⟩
  obtain ⟨n1, hn1⟩ : ∃ n1, n1 = n - 1 := ⟨_, rfl⟩
  have f0 : IntKind.i64.wrap ((n : Int) - 2) = (n2 : Int) := by rw [IntWalk.i64_in _ (by omega)]; omega
  have f1 : IntKind.i64.wrap ((n : Int) - 1) = (n1 : Int) := by rw [IntWalk.i64_in _ (by omega)]; omega
  have c2 := cell_getD h n2 (by omega)
  have c1 := cell_getD h n1 (by omega)
  obtain ⟨m, hm⟩ : ∃ m, m = told l := ⟨_, rfl⟩
  have TM : l.getD n2 0 = (m : Int) := by
    rw [hm, told, h.1, ← hn2]
    have := BY.out n2
    omega
  have mb : m ≤ 255 := by have := BY.out n2; omega
  rw [TM] at c2
  have OK : Hid (okO l = (decide (m + 2 ≤ n) && (List.range m).all fun i => decide (l.getD (n2 - m + i) 0 = (i : Int) + 1))) := Lib.hid (by unfold okO; rw [← hm, h.1, hn2])
  have NN : Hid (n2 + 2 = n ∧ n1 + 1 = n) := Lib.hid (by omega)
  have yb := BY.out n1
  rw [← hn1, ← hm]
  have u1 : IntKind.i64.wrap (m : Int) = (m : Int) := IntWalk.i64_in _ (by omega)
  have u2 : IntKind.i64.wrap (l.getD n1 0) = l.getD n1 0 := IntWalk.i64_in _ (by omega)
  have C1 : ∀ w, (Instr.sliceAt 25 (.slice (some ⟨b, p, none⟩) n c) none (some (.int .i64 (n2 : Int))) none).run Tryd.prog w = .ok (.slice (some ⟨b, p, none⟩) n2 c) w := fun w => by
    obtain ⟨A1, eA, CT⟩ := cut_to (some ⟨b, p, none⟩) n c n2 (by omega) hnc
    subst eA
    exact CT w
  have H2 : Hid (Holds w B (some ⟨b, p, none⟩) n2 c (l.take n2)) := Lib.hid (h.upto (by omega))
  have i1 : n1 < n := by omega
  have i2 : n2 < n := by omega
  have n2b : n2 ≤ 1000000 := by omega
  have n2c : n2 ≤ c := by omega
  have g : decide ((n : Int) < 2) = false := decide_eq_false (by omega)
  generalize l.getD n1 0 = y at *
  clear h hn2 hn1 hm TM
  by_cases hf : n2 < m
  · have OF : Hid (okO l = false) := Lib.hid (by rw [OK.out, decide_eq_false (by have := NN.out; omega), Bool.false_and])
    have g2 : decide ((n2 : Int) < (m : Int)) = true := decide_eq_true (by omega)
    have g3 : decide (n2 < m) = true := decide_eq_true hf
    have g4 : ((n2 : Int) < (m : Int)) = True := eq_true (by omega)
    clear OK
    go_enter Tryd.func35, Tryd.ntmps35
    go_wp2_with fail
    go_quiet (fail)
    clear f0 f1 u1 u2
    go_wp2_with fail
    go_ret3
    exact .inl ⟨OF.out, rfl, below_drewN (Below.refl w.heap.size w) nq⟩
  · obtain ⟨f, hfr⟩ : ∃ f, f = n2 - m := ⟨_, rfl⟩
    have g2 : decide ((n2 : Int) < (m : Int)) = false := decide_eq_false (by omega)
    have g3 : decide (n2 < m) = false := decide_eq_false hf
    have g4 : ((n2 : Int) < (m : Int)) = False := eq_false (by omega)
    have f2 : IntKind.i64.wrap ((n2 : Int) - (m : Int)) = (f : Int) := by rw [IntWalk.i64_in _ (by omega)]; omega
    have FE : Hid (n - 2 - m = f) := Lib.hid (by have := NN.out; omega)
    rw [FE.out]
    rw [decide_eq_true (show m + 2 ≤ n by have := NN.out; omega), Bool.true_and, ← hfr] at OK
    have C2 : ∀ w, (Instr.sliceAt 25 (.slice (some ⟨b, p, none⟩) n2 c) (some (.int .i64 (f : Int))) none none).run Tryd.prog w = .ok (.slice (some (adr b p c f)) m (c - f)) w := fun w => by
      have := cutA_l b p n2 c f w (by omega) n2c
      rwa [show n2 - f = m by omega] at this
    have C3 : ∀ w, (Instr.sliceAt 25 (.slice (some ⟨b, p, none⟩) n2 c) none (some (.int .i64 (f : Int))) none).run Tryd.prog w = .ok (.slice (some ⟨b, p, none⟩) f c) w := fun w => by
      obtain ⟨A1, eA, CT⟩ := cut_to (some ⟨b, p, none⟩) n2 c f (by omega) n2c
      subst eA
      exact CT w
    obtain ⟨k, hk⟩ : ∃ k, k = (l.take n2).drop f := ⟨_, rfl⟩
    have HT : Hid (Holds w B (some (adr b p c f)) m (c - f) k) := Lib.hid (by
      have := cutA_rest H2.out (lo := f) (by omega)
      rwa [show n2 - f = m by omega, ← hk] at this)
    have HF : Hid (Holds w B (some ⟨b, p, none⟩) f c (l.take f)) := Lib.hid (HK.out.upto (by omega))
    obtain ⟨r, hr⟩ : ∃ r, r = upB k m := ⟨_, rfl⟩
    have OR : Hid (okO l = r) := Lib.hid (by
      rw [OK.out, hr, upB, Bool.eq_iff_iff, List.all_eq_true, List.all_eq_true]
      have e : ∀ i, i < m → k.getD i 0 = l.getD (f + i) 0 := fun i hi => by
        rw [hk, List.getD_eq_getElem?_getD, List.getD_eq_getElem?_getD, List.getElem?_drop, List.getElem?_take, if_pos (by omega)]
      constructor
      · intro q i hi
        rw [e i (List.mem_range.1 hi)]
        exact q i hi
      · intro q i hi
        rw [← e i (List.mem_range.1 hi)]
        exact q i hi)
    have CC : Hid (∀ W : World, Below w.heap.size w W → Calls Tryd.prog 41 #[.slice (some (adr b p c f)) m (c - f)] W fun e w' => e = .returned (.bool r) ∧ W = w') := Lib.hid fun W hW => by
      rw [hr]
      exact counted_no _ _ _ k W B (HT.out.below (hW.mono hB)) (by omega)
    have CL : Hid (∀ W : World, Below w.heap.size w W → Calls Tryd.prog 42 #[.slice (some ⟨b, p, none⟩) f c] W fun e w' => ∃ A' c', e = .returned (.slice A' f c') ∧ Owns w' w.heap.size (.slice A' f c') f (l.take f) ∧ Below w.heap.size w w') := Lib.hid fun W hW =>
      (clone_any ⟨b, p, none⟩ f c (l.take f) W B (HF.out.below (hW.mono hB)) (Nat.le_trans hB hW.size) (by omega)).mono fun e w' ⟨A', c', h1, h2, h3⟩ => ⟨A', c', h1, h2.mono hW.size, hW.trans (h3.mono hW.size)⟩
    have HB2 := Lib.hid (Below.refl w.heap.size w)
    obtain ⟨lf, hlf⟩ : ∃ lf, lf = l.take f := ⟨_, rfl⟩
    rw [← hlf] at CL ⊢
    clear OK hk hr hlf HT HF hfr hf
    go_enter Tryd.func35, Tryd.ntmps35
    go_wp2_with fail
    go_quiet (fail)
    clear f0 f1 u1 u2 c1 c2 C1
    have B1 := Lib.hid (below_drewN (Below.refl w.heap.size w) nq)
    generalize w.drewN nq = w1 at *
    go_wp2_with fail
    refine (CC.out _ B1.out).mono ?_
    rintro e w' ⟨rfl, rfl⟩
    cases r with
    | false =>
      go_wp2_with fail
      go_ret3
      exact .inl ⟨OR.out, rfl, B1.out⟩
    | true =>
      go_wp2_with fail
      refine (CL.out _ B1.out).mono ?_
      rintro e w2 ⟨A', c', rfl, oo, hb⟩
      have OX := Lib.hid oo
      have BX := Lib.hid hb
      clear oo hb
      go_wp2_with fail
      go_ret3
      exact .inr ⟨OR.out, _, rfl, OX.out, BX.out⟩
end Go.Proofs.YtdnkbefpbehllaaDoor.Pad2

/- Seal and Open, of the code and of the document: one contract each, whether they answer or refuse; what is sealed opens as itself. -/
set_option linter.unusedVariables false
namespace Go.Proofs.YtdnkbefpbehllaaDoor.PadU
open Go.RowKit Go.Proofs.YtdnkbefpbehllaaDoor.Sums Go.Proofs.YtdnkbefpbehllaaDoor.Mem Go.Proofs.YtdnkbefpbehllaaDoor.Blk Go.Proofs.YtdnkbefpbehllaaDoor.Bits Go.Proofs.YtdnkbefpbehllaaDoor.Bits3 Go.Proofs.YtdnkbefpbehllaaDoor.Ints Go.Proofs.YtdnkbefpbehllaaDoor.Cut Go.Proofs.YtdnkbefpbehllaaDoor.PadR Go.Proofs.YtdnkbefpbehllaaDoor.PadO Go.Proofs.YtdnkbefpbehllaaDoor.Pad1 Go.Proofs.YtdnkbefpbehllaaDoor.Pad2

def slE (n : Nat) (x : Int) : Int := if x < 0 ∨ 255 < x then 1 else if 65535 < n then 2 else 0
def slO (l : List Int) (x : Int) : List Int := if x < 0 ∨ 255 < x then [] else if 65535 < l.length then [] else sealed l x
def opE (l : List Int) : Int := if l.length < 2 then 8 else if okO l then 0 else 130
def opY (l : List Int) : Int := if l.length < 2 then 0 else if okO l then l.getD (l.length - 1) 0 else 0
def opO (l : List Int) : List Int := if l.length < 2 then [] else if okO l then l.take (l.length - 2 - told l) else []
/-- Bytes and an error; bytes, a number and an error. -/
def Ans (w : World) (X : List Int) (er : Int) (e : Ending) (w' : World) : Prop := ∃ A c, e = .returned (.tuple #[.slice A X.length c, .int .i64 er]) ∧ Holds w' w'.heap.size A X.length c X ∧ Below w.heap.size w w'
def Ans3 (w : World) (X : List Int) (y er : Int) (e : Ending) (w' : World) : Prop := ∃ A c, e = .returned (.tuple #[.slice A X.length c, .int .i64 y, .int .i64 er]) ∧ Holds w' w'.heap.size A X.length c X ∧ Below w.heap.size w w'
theorem sealed_len (l : List Int) (x : Int) : (sealed l x).length = long l.length := by
  have := cnt_long l.length
  simp [sealed, ups_len]
  omega

section
variable (A : Option Addr) (n c : Nat) (l : List Int) (x : Int) (w : World) (B : Nat)
theorem seal_u (h : Holds w B A n c l) (hB : B ≤ w.heap.size) (h3 : n ≤ 140737488355328) : Calls Tryd.prog 19 #[.slice A n c, .int .i64 x] w (Ans w (slO l x) (slE n x)) := by
  obtain rfl := h.1
  by_cases q : x < 0 ∨ 255 < x
  · rw [slO, slE, if_pos q, if_pos q]
    refine (seal_arg_no A _ c x w q).mono ?_
    rintro e w' ⟨he, rfl⟩
    exact ⟨none, 0, he, Holds.nil _ _ _, Below.refl _ _⟩
  · by_cases q2 : 65535 < l.length
    · rw [slO, slE, if_neg q, if_neg q, if_pos q2, if_pos q2]
      refine (seal_long_no A _ c x w (by omega) (by omega) q2 h3).mono ?_
      rintro e w' ⟨he, rfl⟩
      exact ⟨none, 0, he, Holds.nil _ _ _, Below.refl _ _⟩
    · rw [slO, slE, if_neg q, if_neg q, if_neg q2, if_neg q2]
      refine (seal_no A _ c l x w B h hB (by omega) (by omega) (by omega)).mono ?_
      rintro e w' ⟨v, he, o, hb⟩
      rw [← sealed_len l x] at o
      obtain ⟨A', c', rfl, hh⟩ := o.slice
      exact ⟨A', c', he, hh, hb⟩
theorem open_u (h : Holds w B A n c l) (hB : B ≤ w.heap.size) (h3 : n ≤ 1000000) : Calls Tryd.prog 35 #[.slice A n c] w (Ans3 w (opO l) (opY l) (opE l)) := by
  obtain rfl := h.1
  by_cases q : l.length < 2
  · rw [opO, opY, opE, if_pos q, if_pos q, if_pos q]
    refine (open_more_no A _ c w q).mono ?_
    rintro e w' ⟨he, rfl⟩
    exact ⟨none, 0, he, Holds.nil _ _ _, Below.refl _ _⟩
  · rw [opO, opY, opE, if_neg q, if_neg q, if_neg q]
    refine (open_no A _ c l w B h hB (by omega) h3).mono ?_
    rintro e w' (⟨k, he, hb⟩ | ⟨k, v, he, o, hb⟩)
    · rw [k]
      exact ⟨none, 0, he, Holds.nil _ _ _, hb⟩
    · rw [k]
      have hl : (l.take (l.length - 2 - told l)).length = l.length - 2 - told l := by rw [List.length_take]; omega
      obtain ⟨A', c', rfl, hh⟩ := o.slice
      rw [if_pos rfl, if_pos rfl, if_pos rfl]
      unfold Ans3
      rw [hl]
      exact ⟨A', c', he, hh, hb⟩
end

/-! ### What is sealed -/
theorem ups_at {m i : Nat} (h : i < m) : (ups m)[i]? = some ((i : Int) + 1) := by simp [ups, List.getElem?_range h]
theorem row_at (l : List Int) (m : Nat) (x : Int) : (l ++ ups m ++ [(m : Int), x]).length = l.length + m + 2 ∧ (l ++ ups m ++ [(m : Int), x]).getD (l.length + m) 0 = (m : Int) ∧ (l ++ ups m ++ [(m : Int), x]).getD (l.length + m + 1) 0 = x ∧
    ∀ i, i < m → (l ++ ups m ++ [(m : Int), x]).getD (l.length + i) 0 = (i : Int) + 1 := by
  refine ⟨by simp [ups_len]; omega, ?_, ?_, fun i hi => ?_⟩
  · rw [List.getD_eq_getElem?_getD, List.getElem?_append_right (by simp [ups_len])]
    simp [ups_len]
  · rw [List.getD_eq_getElem?_getD, List.getElem?_append_right (by rw [List.length_append, ups_len]; omega)]
    have e : l.length + m + 1 - (l ++ ups m).length = 1 := by rw [List.length_append, ups_len]; omega
    rw [e]
    rfl
  · rw [List.getD_eq_getElem?_getD, List.append_assoc, List.getElem?_append_right (by omega), List.getElem?_append_left (by rw [ups_len]; omega), show l.length + i - l.length = i by omega, ups_at hi]
    rfl
theorem told_row (l : List Int) (m : Nat) (x : Int) : told (l ++ ups m ++ [(m : Int), x]) = m := by
  obtain ⟨h1, h2, h3, h4⟩ := row_at l m x
  unfold told
  rw [h1, show l.length + m + 2 - 2 = l.length + m by omega, h2]
  rfl
theorem open_row (l : List Int) (m : Nat) (x : Int) : opE (l ++ ups m ++ [(m : Int), x]) = 0 ∧ opO (l ++ ups m ++ [(m : Int), x]) = l ∧ opY (l ++ ups m ++ [(m : Int), x]) = x := by
  obtain ⟨h1, h2, h3, h4⟩ := row_at l m x
  have ht := told_row l m x
  have ok : okO (l ++ ups m ++ [(m : Int), x]) = true := by
    unfold okO
    rw [ht, h1, decide_eq_true (by omega), Bool.true_and, List.all_eq_true]
    intro i hi
    rw [show l.length + m + 2 - 2 - m + i = l.length + i by omega, h4 i (List.mem_range.1 hi)]
    simp
  have hn : ¬ (l ++ ups m ++ [(m : Int), x]).length < 2 := by rw [h1]; omega
  refine ⟨by rw [opE, if_neg hn, ok]; rfl, ?_, ?_⟩
  · rw [opO, if_neg hn, ok, if_pos rfl, ht, h1, show l.length + m + 2 - 2 - m = l.length by omega, List.append_assoc, List.take_left]
  · rw [opY, if_neg hn, ok, if_pos rfl, h1, show l.length + m + 2 - 1 = l.length + m + 1 by omega, h3]
theorem open_bad (l : List Int) (m k : Nat) (x z : Int) (hk : k < m) (hz : z ≠ (k : Int) + 1) : opE ((l ++ ups m ++ [(m : Int), x]).set (l.length + k) z) = 130 ∧ opO ((l ++ ups m ++ [(m : Int), x]).set (l.length + k) z) = [] ∧ opY ((l ++ ups m ++ [(m : Int), x]).set (l.length + k) z) = 0 := by
  obtain ⟨h1, h2, h3, h4⟩ := row_at l m x
  have gs : ∀ i, i ≠ l.length + k → ((l ++ ups m ++ [(m : Int), x]).set (l.length + k) z).getD i 0 = (l ++ ups m ++ [(m : Int), x]).getD i 0 := fun i hi => by
    rw [List.getD_eq_getElem?_getD, List.getElem?_set_ne (Ne.symm hi), ← List.getD_eq_getElem?_getD]
  have gk : ((l ++ ups m ++ [(m : Int), x]).set (l.length + k) z).getD (l.length + k) 0 = z := by
    rw [List.getD_eq_getElem?_getD, List.getElem?_set_self (by rw [h1]; omega)]
    rfl
  have hl : ((l ++ ups m ++ [(m : Int), x]).set (l.length + k) z).length = l.length + m + 2 := by rw [List.length_set, h1]
  have ht : told ((l ++ ups m ++ [(m : Int), x]).set (l.length + k) z) = m := by
    unfold told
    rw [hl, gs _ (by omega), show l.length + m + 2 - 2 = l.length + m by omega, h2]
    rfl
  have ok : okO ((l ++ ups m ++ [(m : Int), x]).set (l.length + k) z) = false := by
    unfold okO
    rw [ht, hl, Bool.and_eq_false_iff]
    refine .inr ?_
    rw [List.all_eq_false]
    refine ⟨k, List.mem_range.2 hk, ?_⟩
    rw [show l.length + m + 2 - 2 - m + k = l.length + k by omega, gk]
    simpa using hz
  have hn : ¬ ((l ++ ups m ++ [(m : Int), x]).set (l.length + k) z).length < 2 := by rw [hl]; omega
  refine ⟨by rw [opE, if_neg hn, ok]; rfl, by rw [opO, if_neg hn, ok]; rfl, by rw [opY, if_neg hn, ok]; rfl⟩

/-! ### Literals -/
theorem Holds.laid (w : World) (l : List Nat) (cs : Array Value) (fz : Nat × Nat) (n g : Nat) (hc : cs = bcells l) (hb : ∀ x ∈ l, x < 256) (hn : l.length = n) (hg : w.heap.size = g) (hm : n ≤ 1048576) : Holds (w.alloc (.cells cs 5 fz)) (g + 1) (some ⟨g, 0, none⟩) n n (ints l) := by
  subst hc hn hg
  refine ⟨by simp [ints], Nat.le_refl _, by simp only [maxLen]; omega, fun z hz => ints_in hb z hz, fun _ => ⟨w.heap.size, 0, rfl, by omega, fun j z hz => ?_⟩⟩
  have hj : j < l.length := by
    rcases Nat.lt_or_ge j l.length with h' | h'
    · exact h'
    · rw [List.getElem?_eq_none (by simpa [ints] using h')] at hz; cases hz
  rw [Nat.zero_add, cell_of_row _ w.heap.size j _ 5 fz (heap_alloc_new w _), bcells_get l j hj, ← ints_getD, List.getD_eq_getElem?_getD, hz]
  rfl
theorem cvt (w : World) (C : Array Value) (n : Nat) : (convert 25 25 (.slice (some ⟨w.heap.size, 0, none⟩) n n)).run Tryd.prog (w.alloc (.cells C 5)) = .ok (.slice (some ⟨w.heap.size, 0, none⟩) n n) (w.alloc (.cells C 5 (C.size, C.size + 1))) :=
  Lib.run_convert_bytes_const w 25 5 C n n Tryd.underlying25 Tryd.underlying5

theorem both_one (A : Option Addr) (n c : Nat) (l : List Int) (w : World) (B : Nat) (h : Holds w B A n c l) (hB : B ≤ w.heap.size) (hn : n ≤ 1048576) (g : Nat) (hg : w.heap.size = g) (cs : Array Value) (hc : cs = #[.slice A n c]) :
    Calls Tryd.prog 15 #[.slice (some ⟨g, 0, none⟩) 1 1] (w.alloc (.cells cs 25)) fun e w' => ∃ A' c', e = .returned (.slice A' n c') ∧ Holds w' w'.heap.size A' n c' l ∧ Owns w' w.heap.size (.slice A' n c') n l ∧ Below w.heap.size w w' := by
  have q := Both.both_lit hB [⟨A, n, c, l⟩] cs 25 (by rw [hc]; rfl) (Both.mem1 h) g 1 hg rfl (by decide) (by show n + 0 ≤ 1048576; omega)
  rw [show Both.total [⟨A, n, c, l⟩] = n from rfl, show Both.flat [⟨A, n, c, l⟩] = l by simp [Both.flat]] at q
  exact q

/-! ### Texts -/
theorem toList_eq (a b : ByteArray) : (a.toList == b.toList) = decide (a = b) := by
  by_cases h : a = b
  · subst h; simp
  · have : a.toList ≠ b.toList := fun e => h (by
      cases a; cases b
      rw [ByteArray.toList_eq, ByteArray.toList_eq] at e
      simp at e
      rw [e])
    simp [h, this]
theorem ex_seal : slO (ints [97, 98, 99]) 6 = ints [97, 98, 99, 1, 2, 3, 3, 6] ∧ slE 3 6 = 0 := by decide
theorem ex_open : opO (ints [97, 98, 99, 1, 2, 3, 3, 6]) = ints [97, 98, 99] ∧ opY (ints [97, 98, 99, 1, 2, 3, 3, 6]) = 6 ∧ opE (ints [97, 98, 99, 1, 2, 3, 3, 6]) = 0 := by decide
theorem ex_bad : opO (ints [1, 3, 2, 6]) = [] ∧ opY (ints [1, 3, 2, 6]) = 0 ∧ opE (ints [1, 3, 2, 6]) = 130 := by decide
theorem ex_str1 : strOfNums (ints [97, 98, 99, 1, 2, 3, 3, 6]) = ⟨#[97, 98, 99, 1, 2, 3, 3, 6]⟩ := by kernel_rfl
theorem ex_str2 : strOfNums (ints [97, 98, 99]) = ⟨#[97, 98, 99]⟩ := by kernel_rfl
end Go.Proofs.YtdnkbefpbehllaaDoor.PadU

