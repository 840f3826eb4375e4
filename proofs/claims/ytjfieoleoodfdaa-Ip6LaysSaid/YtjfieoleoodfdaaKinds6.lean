/- Contracts: size, ext of the document; kindAt of the code, kind of the document. -/
import Derived.Test.YtjfieoleoodfdaaBehind6
set_option linter.unusedVariables false
namespace Go.Proofs.Ytjfieoleoodfdaa.Kinds6
open Go.RowKit Go.Proofs.Ytjfieoleoodfdaa.Sums Go.Proofs.Ytjfieoleoodfdaa.Mem Go.Proofs.Ytjfieoleoodfdaa.P6 Go.Proofs.Ytjfieoleoodfdaa.Blk Go.Proofs.Ytjfieoleoodfdaa.Exts Go.Proofs.Ytjfieoleoodfdaa.Loads6 Go.Proofs.Ytjfieoleoodfdaa.Small6

theorem kind_at {l : P6.Exts} {i : Nat} {q : Int} {d : ByteArray} (h : l[i]? = some (q, d)) (nx : Int) : kindOf (l.drop i) nx = q := by
  obtain ⟨hi, e⟩ := List.getElem?_eq_some_iff.1 h
  rw [List.drop_eq_getElem_cons hi, e]
  rfl
theorem kind_end {l : P6.Exts} {i : Nat} (h : l.length ≤ i) (nx : Int) : kindOf (l.drop i) nx = nx := by
  rw [List.drop_eq_nil_of_le h]
  rfl

theorem kindAt_any (p : Pkt) (E : Option Addr) (m ce : Nat) (A : Option Addr) (n c : Nat) (w : World) (i : Nat) (hr : Row w (.slice E m ce) p.exts) (hm : m ≤ 65536) (hi : i ≤ 65537) :
    Calls Try.prog 21 #[.agg #[.int .i64 p.cls, .int .i64 p.lab, .int .i64 p.hop, .string p.src, .string p.dst, .slice E m ce, .int .i64 p.next, .slice A n c], .int .i64 (i : Int)] w fun e w' => e = .returned (.int .i64 (kindOf (p.exts.drop i) p.next)) ∧ Below w.heap.size w w' := by
  have B0 := Lib.hid ((Below.refl w.heap.size w).alloc (Nat.le_refl _) (.cells #[.int .i64 p.cls, .int .i64 p.lab, .int .i64 p.hop, .string p.src, .string p.dst, .slice E m ce, .int .i64 p.next, .slice A n c] 25))
  by_cases h : i < m
  · obtain ⟨a, q, d, rfl, hq, hab, c1, c2, c3⟩ := (hr.below B0.out).at_ h
    have KE := Lib.hid (kind_at hq p.next)
    have hlt : decide (i < m) = true := by rw [decide_eq_true_eq]; exact h
    clear hq hr
    go_enter Try.func21, Try.ntmps21
    go_wp2_with fail
    go_ret
    exact ⟨by rw [KE.out]; rfl, B0.out⟩
  · have KE := Lib.hid (kind_end (l := p.exts) (i := i) (by rw [hr.len]; omega) p.next)
    have hlt : decide (i < m) = false := by rw [decide_eq_false_iff_not]; exact h
    clear hr
    go_enter Try.func21, Try.ntmps21
    go_wp2_with fail
    go_ret
    exact ⟨by rw [KE.out]; rfl, B0.out⟩

theorem kind_any (p : Pkt) (E : Option Addr) (m ce : Nat) (A : Option Addr) (n c : Nat) (w : World) (i : Nat) (hr : Row w (.slice E m ce) p.exts) (hm : m ≤ 65536) (hi : i ≤ 65537) (k0 : 0 ≤ kindOf (p.exts.drop i) p.next) (k1 : kindOf (p.exts.drop i) p.next ≤ 255) :
    Calls Try.prog 31 #[.agg #[.int .i64 p.cls, .int .i64 p.lab, .int .i64 p.hop, .string p.src, .string p.dst, .slice E m ce, .int .i64 p.next, .slice A n c], .int .i64 (i : Int)] w fun e w' => e = .returned (.int .u8 (kindOf (p.exts.drop i) p.next)) ∧ Below w.heap.size w w' := by
  have B0 := Lib.hid ((Below.refl w.heap.size w).alloc (Nat.le_refl _) (.cells #[.int .i64 p.cls, .int .i64 p.lab, .int .i64 p.hop, .string p.src, .string p.dst, .slice E m ce, .int .i64 p.next, .slice A n c] 25))
  by_cases h : i < m
  · obtain ⟨a, q, d, rfl, hq, hab, c1, c2, c3⟩ := (hr.below B0.out).at_ h
    have KE := Lib.hid (kind_at hq p.next)
    rw [KE.out] at k0 k1
    have hlt : decide (i < m) = true := by rw [decide_eq_true_eq]; exact h
    have e1 : IntKind.u8.wrap q = q := by rw [IntKind.wrap_u8]; omega
    clear hq hr
    go_enter Try.func31, Try.ntmps31
    go_wp2_with fail
    go_ret
    exact ⟨by rw [KE.out]; rfl, B0.out⟩
  · have KE := Lib.hid (kind_end (l := p.exts) (i := i) (by rw [hr.len]; omega) p.next)
    rw [KE.out] at k0 k1
    have hlt : decide (i < m) = false := by rw [decide_eq_false_iff_not]; exact h
    have e1 : IntKind.u8.wrap p.next = p.next := by rw [IntKind.wrap_u8]; omega
    clear hr
    go_enter Try.func31, Try.ntmps31
    go_wp2_with fail
    go_ret
    exact ⟨by rw [KE.out]; rfl, B0.out⟩

theorem size_ref (p : Pkt) (E : Option Addr) (m ce : Nat) (A : Option Addr) (n c : Nat) (w : World) (hr : Row w (.slice E m ce) p.exts) (hz : Small p.exts) (hm : m ≤ 65536) (hn : n ≤ 1048576) :
    Calls Try.prog 25 #[.agg #[.int .i64 p.cls, .int .i64 p.lab, .int .i64 p.hop, .string p.src, .string p.dst, .slice E m ce, .int .i64 p.next, .slice A n c]] w fun e w' => e = .returned (.int .i64 ((n + behind p.exts : Nat) : Int)) ∧ Below w.heap.size w w' := by
  have L := Lib.hid hr.len
  have BL : behind p.exts ≤ 68719607808 := by
    have := behind_le _ hz
    rw [hr.len] at this
    have h2 : m * 1048578 ≤ 65536 * 1048578 := Nat.mul_le_mul_right _ hm
    omega
  have B0 := Lib.hid ((Below.refl w.heap.size w).alloc (Nat.le_refl _) (.cells #[.int .i64 p.cls, .int .i64 p.lab, .int .i64 p.hop, .string p.src, .string p.dst, .slice E m ce, .int .i64 p.next, .slice A n c] 25))
  have K0 := Lib.hid (Blk.new w 25 #[.int .i64 p.cls, .int .i64 p.lab, .int .i64 p.hop, .string p.src, .string p.dst, .slice E m ce, .int .i64 p.next, .slice A n c])
  have R0 := Lib.hid (hr.below B0.out)
  have HZ := Lib.hid hz
  clear hr hz
  go_enter Try.func25, Try.ntmps25
  go_wp2_with fail
  generalize w.alloc (.cells #[.int .i64 p.cls, .int .i64 p.lab, .int .i64 p.hop, .string p.src, .string p.dst, .slice E m ce, .int .i64 p.next, .slice A n c] 25) = w1 at *
  go_loopw [3, 4] (fun s i wr => ∃ k : Nat, i = .int .i64 (k : Int) ∧ k ≤ m ∧ s = .int .i64 ((n + behind (p.exts.take k) : Nat) : Int) ∧ Below w1.heap.size w1 wr) (fun _ i _ => m - (intOf i).toNat)
  case atStart => exact ⟨0, rfl, by omega, by simp [behind], Below.refl _ _⟩
  case round =>
    obtain ⟨k, rfl, hk, rfl, hb⟩ := hrel
    have x5 := (K0.out.below hb K0.out.lt).cell 5
    by_cases hk2 : k = m
    · have hlt : decide (k < m) = false := by simp [hk2]
      have full : p.exts.take k = p.exts := List.take_of_length_le (by rw [L.out]; omega)
      rw [full]
      have HB := Lib.hid hb
      clear hk2 hb full
      go_wp2_with fail
      go_ret
      exact ⟨rfl, B0.out.trans (HB.out.mono B0.out.size)⟩
    · have hlt : decide (k < m) = true := by rw [decide_eq_true_eq]; omega
      obtain ⟨a, q, d, rfl, hq, hab, c1, c2, c3⟩ := (R0.out.below hb).at_ (k := k) (by omega)
      have hi : k < m := by omega
      have SZ := HZ.out.at_ hq
      have BT := Lib.hid (behind_take hq)
      have btl := behind_take_le p.exts k
      have HB := Lib.hid hb
      clear hq hb hk2
      by_cases h44 : q = 44
      · subst h44
        have NX : Hid (((n + behind (p.exts.take k) : Nat) : Int) + (d.size : Int) + 2 - 1 = ((n + behind (p.exts.take (k + 1)) : Nat) : Int)) := Lib.hid (by rw [BT.out]; show _ = ((n + (behind (p.exts.take k) + (1 + d.size)) : Nat) : Int); omega)
        have S0 : (0 : Int) ≤ ((n + behind (p.exts.take k) : Nat) : Int) := by omega
        have S1 : ((n + behind (p.exts.take k) : Nat) : Int) ≤ 70000000000 := by omega
        generalize ((n + behind (p.exts.take k) : Nat) : Int) = S at *
        go_wp2_with fail
        rw [NX.out]
        go_roundw
        case rel => exact ⟨k + 1, by go_num, by omega, rfl, HB.out⟩
        case measure => simp [intOf]; omega
      · have h4b : (q == 44) = false := beq_eq_false_iff_ne.2 h44
        have NX : Hid (((n + behind (p.exts.take k) : Nat) : Int) + (d.size : Int) + 2 = ((n + behind (p.exts.take (k + 1)) : Nat) : Int)) := Lib.hid (by rw [BT.out]; unfold sz opn; rw [if_neg h44]; simp only; omega)
        have S0 : (0 : Int) ≤ ((n + behind (p.exts.take k) : Nat) : Int) := by omega
        have S1 : ((n + behind (p.exts.take k) : Nat) : Int) ≤ 70000000000 := by omega
        generalize ((n + behind (p.exts.take k) : Nat) : Int) = S at *
        go_wp2_with fail
        rw [NX.out]
        go_roundw
        case rel => exact ⟨k + 1, by go_num, by omega, rfl, HB.out⟩
        case measure => simp [intOf]; omega

theorem ext_ref (k : Int) (d : ByteArray) (i : Nat) (w : World) (hd : d.size ≤ 1048576) (hi : i ≤ 65537) : Calls Try.prog 24 #[.agg #[.int .i64 k, .string d], .int .i64 (i : Int)] w fun e w' => e = .returned (.bool (fits (k, d) (i == 0))) ∧ Below w.heap.size w w' := by
  have B0 := Lib.hid ((Below.refl w.heap.size w).alloc (Nat.le_refl _) (.cells #[.int .i64 k, .string d] 43))
  have F0 : Hid (fits (k, d) (i == 0) = (btw k && (((i == 0) || k != 0) && (if k = 44 then d.size == 7 else d.size % 8 == 6 && decide (d.size ≤ 2046))))) := Lib.hid rfl
  cases hb : btw k
  · have FX : Hid (fits (k, d) (i == 0) = false) := Lib.hid (by rw [F0.out, hb]; rfl)
    have T := Lib.hid (fun W => between_ref k W)
    rw [hb] at T
    clear hb F0
    go_enter Try.func24, Try.ntmps24
    go_wp2_with fail
    refine (T.out _).mono ?_
    rintro e w1 ⟨rfl, rfl⟩
    go_wp2_with fail
    go_ret
    exact ⟨by rw [FX.out]; rfl, B0.out⟩
  have T := Lib.hid (fun W => between_ref k W)
  rw [hb] at T F0
  clear hb
  by_cases h0 : k = 0
  · subst h0
    by_cases hi0 : i = 0
    · subst hi0
      by_cases q1 : d.size % 8 = 6
      · by_cases q2 : d.size ≤ 2046
        all_goals
          go_enter Try.func24, Try.ntmps24
          go_wp2_with fail
          refine (T.out _).mono ?_
          rintro e w1 ⟨rfl, rfl⟩
          go_wp2_with fail
          all_goals go_ret
          all_goals exact ⟨by rw [F0.out]; first | (simp [q1, q2]; done) | (simp [q1, q2]; omega), B0.out⟩
      · go_enter Try.func24, Try.ntmps24
        go_wp2_with fail
        refine (T.out _).mono ?_
        rintro e w1 ⟨rfl, rfl⟩
        go_wp2_with fail
        all_goals go_ret
        all_goals exact ⟨by rw [F0.out]; first | (simp [q1]; done) | (simp [q1]; omega), B0.out⟩
    · have hib : (i == 0) = false := beq_eq_false_iff_ne.2 hi0
      have FX : Hid (fits (0, d) (i == 0) = false) := Lib.hid (by rw [F0.out, hib]; simp)
      have hip : (0 : Int) < (i : Int) := by omega
      clear hib F0
      go_enter Try.func24, Try.ntmps24
      go_wp2_with fail
      refine (T.out _).mono ?_
      rintro e w1 ⟨rfl, rfl⟩
      go_wp2_with fail
      all_goals go_ret
      all_goals exact ⟨by rw [FX.out]; rfl, B0.out⟩
  · have h0b : (k == 0) = false := beq_eq_false_iff_ne.2 h0
    have h0c : (k != 0) = true := by rw [bne, h0b]; rfl
    rw [h0c, Bool.or_true, Bool.true_and, Bool.true_and] at F0
    clear h0c
    by_cases h4 : k = 44
    · subst h4
      by_cases q1 : d.size = 7
      · have FX : Hid (fits (44, d) (i == 0) = true) := Lib.hid (by rw [F0.out, if_pos rfl, q1]; rfl)
        have p1 : ((d.size : Int) == 7) = true := by rw [beq_iff_eq]; omega
        clear F0 q1
        go_enter Try.func24, Try.ntmps24
        go_wp2_with fail
        refine (T.out _).mono ?_
        rintro e w1 ⟨rfl, rfl⟩
        go_wp2_with fail
        go_ret
        exact ⟨by rw [FX.out]; rfl, B0.out⟩
      · have FX : Hid (fits (44, d) (i == 0) = false) := Lib.hid (by rw [F0.out, if_pos rfl]; exact beq_eq_false_iff_ne.2 q1)
        have p1 : ((d.size : Int) == 7) = false := by rw [beq_eq_false_iff_ne]; omega
        clear F0 q1
        go_enter Try.func24, Try.ntmps24
        go_wp2_with fail
        refine (T.out _).mono ?_
        rintro e w1 ⟨rfl, rfl⟩
        go_wp2_with fail
        go_ret
        exact ⟨by rw [FX.out]; rfl, B0.out⟩
    · have h4b : (k == 44) = false := beq_eq_false_iff_ne.2 h4
      rw [if_neg h4] at F0
      by_cases q1 : d.size % 8 = 6
      · by_cases q2 : d.size ≤ 2046
        all_goals
          go_enter Try.func24, Try.ntmps24
          go_wp2_with fail
          refine (T.out _).mono ?_
          rintro e w1 ⟨rfl, rfl⟩
          go_wp2_with fail
          all_goals go_ret
          all_goals exact ⟨by rw [F0.out]; first | (simp [q1, q2]; done) | (simp [q1, q2]; omega), B0.out⟩
      · go_enter Try.func24, Try.ntmps24
        go_wp2_with fail
        refine (T.out _).mono ?_
        rintro e w1 ⟨rfl, rfl⟩
        go_wp2_with fail
        all_goals go_ret
        all_goals exact ⟨by rw [F0.out]; first | (simp [q1]; done) | (simp [q1]; omega), B0.out⟩
end Go.Proofs.Ytjfieoleoodfdaa.Kinds6
