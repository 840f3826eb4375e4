/- Contracts of within, examine, Check of the code; in, Check of the document. -/
import Derived.Test.YtnpggkpcadefjaaDoorM16
import Derived.Test.YtnpggkpcadefjaaDoorM14
namespace Go.Proofs.YtnpggkpcadefjaaDoor.Check
open Go.RowKit Go.Proofs.YtnpggkpcadefjaaDoor.Sums Go.Proofs.YtnpggkpcadefjaaDoor.Mem Go.Proofs.YtnpggkpcadefjaaDoor.Pkt Go.Proofs.YtnpggkpcadefjaaDoor.Errno

theorem within_any (n m : Int) (w : World) : Calls Tryd.prog 70 #[.int .i64 n, .int .i64 m] w fun e w' => e = .returned (.bool (wi n m)) ∧ w = w' := by
  by_cases h : 0 ≤ n <;> by_cases k : n ≤ m
  all_goals
    have e : Hid (wi n m = (decide (0 ≤ n) && decide (n ≤ m))) := Lib.hid rfl
    go_enter Tryd.func70, Tryd.ntmps70
    go_wp2
    go_ret
    rw [e.out]
    simp [h, k]
theorem in_any (n m : Int) (w : World) : Calls Tryd.prog 52 #[.int .i64 n, .int .i64 m] w fun e w' => e = .returned (.bool (wi n m)) ∧ w = w' := by
  by_cases h : 0 ≤ n <;> by_cases k : n ≤ m
  all_goals
    have e : Hid (wi n m = (decide (0 ≤ n) && decide (n ≤ m))) := Lib.hid rfl
    go_enter Tryd.func52, Tryd.ntmps52
    go_wp2
    go_ret
    rw [e.out]
    simp [h, k]

/-- The packet as a value, with the data's slice. -/
def val (p : Pkt) (D : Value) : Value := .agg #[.int .i64 p.tos, .int .i64 p.id, .int .i64 p.ttl, .int .i64 p.proto, .bool p.df, .bool p.mf, .int .i64 p.off, .string p.src, .string p.dst, .string p.opt, D]

theorem chk_one {p : Pkt} {n : Nat} (h : ¬ Valid p) : p.chk n = 1 := by
  unfold Pkt.chk
  rw [if_neg fun e => h (Pkt.ok_valid e)]
theorem chk_two {p : Pkt} {n : Nat} (h : Valid p) (k : 65535 < 20 + p.opt.size + n) : p.chk n = 2 := by
  unfold Pkt.chk
  rw [if_pos h.ok, if_pos k]
theorem chk_ok {p : Pkt} {n : Nat} (h : Valid p) (k : 20 + p.opt.size + n ≤ 65535) : p.chk n = 0 := by
  unfold Pkt.chk
  rw [if_pos h.ok, if_neg (by omega)]
theorem chk_zero {p : Pkt} {n : Nat} (h : p.chk n = 0) : Valid p ∧ 20 + p.opt.size + n ≤ 65535 := by
  unfold Pkt.chk at h
  split at h
  · rename_i ho
    refine ⟨Pkt.ok_valid ho, ?_⟩
    split at h
    · cases h
    · omega
  · cases h

/-- What is known of a valid packet, as a walk meets it. -/
theorem Valid.seen {p : Pkt} (h : Valid p) : wi p.tos 255 = true ∧ wi p.ttl 255 = true ∧ wi p.proto 255 = true ∧ wi p.id 65535 = true ∧ wi p.off 65528 = true ∧ p.off.tmod 8 = 0 ∧ (p.src.size : Int) = 4 ∧ (p.dst.size : Int) = 4 ∧ (p.opt.size : Int) ≤ 40 ∧ (p.opt.size : Int) % 4 = 0 := by
  have := h.s; have := h.d; have := h.z; have := h.z4; have := h.o8
  refine ⟨wi_make h.t0 h.t1, wi_make h.l0 h.l1, wi_make h.p0 h.p1, wi_make h.i0 h.i1, wi_make h.o0 h.o1, ?_, by omega, by omega, by omega, by omega⟩
  rw [Int.tmod_eq_emod_of_nonneg h.o0]; exact h.o8
theorem tmod_off {x : Int} (h : wi x 65528 = true) : x.tmod 8 = x % 8 := Int.tmod_eq_emod_of_nonneg (wi_true h).1

theorem valid_of {p : Pkt} (h1 : (!wi p.tos 255) = false) (h2 : (!wi p.ttl 255) = false) (h3 : (!wi p.proto 255) = false) (h4 : (!wi p.id 65535) = false) (h5 : wi p.off 65528 = true) (h6 : (p.off.tmod 8 != 0) = false)
    (h7 : (p.src.size : Int) = 4) (h8 : ((p.dst.size : Int) != 4) = false) (h10 : (p.opt.size : Int) ≤ 40 ∧ ((p.opt.size : Int) % 4 != 0) = false) : Valid p := by
  rw [tmod_off h5] at h6
  simp only [Bool.not_eq_false', bne_eq_false_iff_eq] at *
  have a1 := wi_true h1; have a2 := wi_true h2; have a3 := wi_true h3; have a4 := wi_true h4; have a5 := wi_true h5
  exact ⟨a1.1, a1.2, a2.1, a2.2, a3.1, a3.2, a4.1, a4.2, a5.1, a5.2, h6, by omega, by omega, by omega, by omega⟩

theorem examine_any (p : Pkt) (A : Option Addr) (n c : Nat) (w : World) (hz : p.opt.size ≤ 1048576) (hn : n ≤ 1048576) :
    Calls Tryd.prog 54 #[val p (.slice A n c)] w fun e w' => ((∃ s k, e = .returned (.iface 108 (.agg #[.string s, .iface 39 (.int .i64 k)])) ∧ p.chk n = k ∧ k ≠ 0) ∨ (e = .returned .nilIface ∧ p.chk n = 0)) ∧ Below w.heap.size w w' := by
  unfold val
  go_enter Tryd.func54, Tryd.ntmps54
  go_wp2_with (go_at_call 70; refine (within_any _ _ _).mono ?_; rintro e w' ⟨rfl, rfl⟩)
  all_goals go_ret
  all_goals first
    | exact ⟨.inl ⟨_, 1, rfl, chk_one fun hv => by
        obtain ⟨s1, s2, s3, s4, s5, s6, s7, s8, s9, s10⟩ := Valid.seen hv
        first
          | omega
          | (simp_all; done)
          | (simp only [bne_iff_ne, ne_eq] at *; omega), by decide⟩, (Below.refl _ _).alloc (Nat.le_refl _) _⟩
    | exact ⟨.inl ⟨_, 2, rfl, chk_two (valid_of (by assumption) (by assumption) (by assumption) (by assumption) (by assumption) (by assumption) (by assumption) (by assumption) (by assumption)) (by omega), by decide⟩, (Below.refl _ _).alloc (Nat.le_refl _) _⟩
    | exact ⟨.inr ⟨rfl, chk_ok (valid_of (by assumption) (by assumption) (by assumption) (by assumption) (by assumption) (by assumption) (by assumption) (by assumption) (by assumption)) (by omega)⟩, (Below.refl _ _).alloc (Nat.le_refl _) _⟩

theorem check_code (p : Pkt) (A : Option Addr) (n c : Nat) (w : World) (hg : Handle w) (hz : p.opt.size ≤ 1048576) (hn : n ≤ 1048576) :
    Calls Tryd.prog 36 #[val p (.slice A n c)] w fun e w' => e = .returned (.int .i64 (p.chk n)) ∧ Below w.heap.size w w' := by
  have X := Lib.hid (fun W => examine_any p A n c W hz hn)
  unfold val at X ⊢
  go_enter Tryd.func36, Tryd.ntmps36
  go_wp2_with fail
  refine (X.out _).mono ?_
  rintro e w' ⟨he, hb⟩
  have b0 : Below w.heap.size w (w.alloc (.cells #[.int .i64 p.tos, .int .i64 p.id, .int .i64 p.ttl, .int .i64 p.proto, .bool p.df, .bool p.mf, .int .i64 p.off, .string p.src, .string p.dst, .string p.opt, .slice A n c] 32)) := (Below.refl _ _).alloc (Nat.le_refl _) _
  have b1 := b0.trans (hb.mono b0.size)
  rcases he with ⟨s, k, rfl, hk, _⟩ | ⟨rfl, hk⟩
  · go_wp2_with fail
    refine (errno_fault s k _ (hg.keep b1)).mono ?_
    rintro e w'' ⟨rfl, hb2⟩
    go_wp2_with fail
    go_ret
    exact ⟨by rw [hk]; rfl, b1.trans (hb2.mono b1.size)⟩
  · go_wp2_with fail
    refine (errno_nil _).mono ?_
    rintro e w'' ⟨rfl, hb2⟩
    go_wp2_with fail
    go_ret
    exact ⟨by rw [hk]; rfl, b1.trans (hb2.mono b1.size)⟩

theorem valid_of' {p : Pkt} (h1 : wi p.tos 255 = true) (h2 : wi p.ttl 255 = true) (h3 : wi p.proto 255 = true) (h4 : wi p.id 65535 = true) (h5 : wi p.off 65528 = true) (h6 : p.off.tmod 8 = 0)
    (h7 : (p.src.size : Int) = 4) (h8 : (p.dst.size : Int) = 4) (h9 : (p.opt.size : Int) % 4 = 0) (h10 : (p.opt.size : Int) ≤ 40) : Valid p := by
  rw [tmod_off h5] at h6
  have a1 := wi_true h1; have a2 := wi_true h2; have a3 := wi_true h3; have a4 := wi_true h4; have a5 := wi_true h5
  exact ⟨a1.1, a1.2, a2.1, a2.2, a3.1, a3.2, a4.1, a4.2, a5.1, a5.2, h6, by omega, by omega, by omega, by omega⟩

theorem check_ref (p : Pkt) (A : Option Addr) (n c : Nat) (w : World) (hz : p.opt.size ≤ 1048576) (hn : n ≤ 1048576) :
    Calls Tryd.prog 30 #[val p (.slice A n c)] w fun e w' => e = .returned (.int .i64 (p.chk n)) ∧ Below w.heap.size w w' := by
  unfold val
  go_enter Tryd.func30, Tryd.ntmps30
  go_wp2_with (go_at_call 52; refine (in_any _ _ _).mono ?_; rintro e w' ⟨rfl, rfl⟩)
  all_goals go_ret
  all_goals first
    | exact ⟨by rw [chk_ok (valid_of' (by assumption) (by assumption) (by assumption) (by assumption) (by assumption) (by assumption) (by assumption) (by assumption) (by assumption) (by assumption)) (by omega)]; rfl, (Below.refl _ _).alloc (Nat.le_refl _) _⟩
    | exact ⟨by rw [chk_two (valid_of' (by assumption) (by assumption) (by assumption) (by assumption) (by assumption) (by assumption) (by assumption) (by assumption) (by assumption) (by assumption)) (by omega)]; rfl, (Below.refl _ _).alloc (Nat.le_refl _) _⟩
    | exact ⟨by
        rw [chk_one fun hv => by
          obtain ⟨s1, s2, s3, s4, s5, s6, s7, s8, s9, s10⟩ := Valid.seen hv
          first
            | omega
            | (simp_all; done)]
        rfl, (Below.refl _ _).alloc (Nat.le_refl _) _⟩
end Go.Proofs.YtnpggkpcadefjaaDoor.Check
