/- The law InetWhole: its walk, for any bytes, any place, any word. -/
import Derived.Test.YtajjncmbgncnhaaAwake
import Derived.Test.YtajjncmbgncnhaaBoth
import Derived.Test.YtajjncmbgncnhaaRefSum
import Derived.Test.YtajjncmbgncnhaaTot
import Derived.Deep.QuietTactic
import Derived.BigQuiet
namespace Go.Proofs.Ytajjncmbgncnhaa.LawWhole
open Go.RowKit Go.Proofs.Ytajjncmbgncnhaa.Sums Go.Proofs.Ytajjncmbgncnhaa.Words Go.Proofs.Ytajjncmbgncnhaa.Mem Go.Proofs.Ytajjncmbgncnhaa.InetSum Go.Proofs.Ytajjncmbgncnhaa.RefSum Go.Proofs.Ytajjncmbgncnhaa.Both Go.Proofs.Ytajjncmbgncnhaa.Awake

set_option maxHeartbeats 4000000 in
/-- Let go. -/
theorem outer (A : Option Addr) (n c : Nat) (l : List Int) (i x : Int) (w : World) (h : Holds w w.heap.size A n c l)
    (k : 1000 < n ∨ (n ≤ 1000 ∧ i < 0) ∨ (n ≤ 1000 ∧ 0 ≤ i ∧ 1000 < i) ∨ (n ≤ 1000 ∧ 0 ≤ i ∧ i ≤ 1000 ∧ (n : Int) < 2 * i + 2) ∨ (n ≤ 1000 ∧ 0 ≤ i ∧ i ≤ 1000 ∧ 2 * i + 2 ≤ (n : Int) ∧ x < 0) ∨ (n ≤ 1000 ∧ 0 ≤ i ∧ i ≤ 1000 ∧ 2 * i + 2 ≤ (n : Int) ∧ 0 ≤ x ∧ 65535 < x)) :
    Calls Try.prog 6 #[.slice A n c, .int .i64 i, .int .i64 x] w fun e w' => e = .returned (.bool true) ∧ Below w.heap.size w w' := by
  have hc := h.2.1
  have hm := h.2.2.1
  unfold maxLen at hm
  rcases k with k1 | ⟨k1, k2⟩ | ⟨k1, k2, k3⟩ | ⟨k1, k2, k3, k4⟩ | ⟨k1, k2, k3, k4, k5⟩ | ⟨k1, k2, k3, k4, k5, k6⟩
  all_goals
    go_enter Try.func6, Try.ntmps6
    go_wp2_with (go_at_call 10; refine (awake_any _).mono ?_; rintro e w2 ⟨rfl, hb2⟩)
    all_goals
      go_ret
      exact ⟨rfl, hb2⟩

theorem turn_is {a b c d : Int} (h : turn a b c = d) (w : World) : Calls Try.prog 19 #[.int .i64 a, .int .i64 b, .int .i64 c] w fun e w' => e = .returned (.int .i64 d) ∧ w = w' := by
  rw [← h]; exact turn_code a b c w

theorem sum_is {l : List Int} {d : Int} (e : sums 0 l = d) (A : Option Addr) (n c : Nat) (w : World) (B : Nat) (h : Holds w B A n c l) (hs : n ≤ 65536) :
    Calls Try.prog 11 #[.slice A n c] w fun e w' => e = .returned (.int .i64 d) ∧ w = w' := by
  rw [← e]; exact sum_any A n c l w B h hs
theorem check_is {l : List Int} {d : Int} (e : check l = d) (A : Option Addr) (n c : Nat) (w : World) (B : Nat) (h : Holds w B A n c l) (hs : n ≤ 65536) :
    Calls Try.prog 13 #[.slice A n c] w fun e w' => e = .returned (.int .i64 d) ∧ w = w' := by
  rw [← e]; exact check_any A n c l w B h hs

theorem inner (A : Option Addr) (n c i : Nat) (l : List Int) (x : Int) (w : World) (h : Holds w w.heap.size A n c l) (hn : n ≤ 1000) (hi : 2 * i + 2 ≤ n) (x0 : 0 ≤ x) (x1 : x ≤ 65535) :
    Calls Try.prog 6 #[.slice A n c, .int .i64 (i : Int), .int .i64 x] w fun e w' => e = .returned (.bool true) ∧ Below w.heap.size w w' := by
  go_enter Try.func6, Try.ntmps6
  go_wp2_with fail
  refine (both_lit (Nat.le_refl _) [⟨A, n, c, l⟩] _ _ rfl (mem1 h) _ _ rfl rfl (by simp) (by simp [total]; omega)).mono ?_
  rintro e w1 ⟨A1, c1, rfl, h1, o1, hb1⟩
  have ht : total [⟨A, n, c, l⟩] = n := by simp [total]
  have hf : flat [⟨A, n, c, l⟩] = l := by simp [flat]
  rw [ht] at h1 o1 ⊢
  rw [hf] at h1 o1
  clear ht hf
  obtain ⟨g, rfl, hg, hg'⟩ := o1.form (by omega)
  obtain ⟨u, hu, cu, u0, u1⟩ := byte_at h1 (k := 2 * i) (by omega)
  obtain ⟨v, hv, cv, v0, v1⟩ := byte_at h1 (k := 2 * i + 1) (by omega)
  rw [Nat.zero_add] at cu cv
  go_wp2_with fail
  have e1 : IntKind.i64.wrap (2 * (i : Int)) = 2 * (i : Int) := IntWalk.i64_in _ (by omega)
  have e2 : IntKind.i64.wrap (2 * (i : Int) + 1) = 2 * (i : Int) + 1 := IntWalk.i64_in _ (by omega)
  have e3 : (2 * (i : Int)).toNat = 2 * i := by omega
  have e4 : (2 * (i : Int) + 1).toNat = 2 * i + 1 := by omega
  have e5 : IntKind.i64.wrap (256 * u) = 256 * u := IntWalk.i64_in _ (by omega)
  have e6 : IntKind.i64.wrap (256 * u + v) = 256 * u + v := IntWalk.i64_in _ (by omega)
  have e7 : IntKind.i64.wrap u = u := IntWalk.i64_in _ (by omega)
  have e8 : IntKind.i64.wrap v = v := IntWalk.i64_in _ (by omega)
  go_quiet (fail)
  clear e1 e2 e3 e4 e5 e6 e7 e8 cu cv
  have o2 : Owns (w1.drewN nq) w.heap.size (.slice (some ⟨g, 0, none⟩) n c1) n l := o1
  have b2 : Below w.heap.size w (w1.drewN nq) := hb1.trans ⟨rfl, rfl, rfl, Nat.le_refl _, fun _ _ => rfl⟩
  clear o1 h1 hb1
  generalize w1.drewN nq = w2 at *
  go_wp2_with fail
  refine (check_any _ _ _ _ _ _ o2.holds (by omega)).mono ?_
  rintro e w' ⟨rfl, rfl⟩
  have o3 := o2.set (2 * i) (x / 256) (by omega) (by omega)
  have o4 : Owns ((w2.setCell ⟨g, 2 * i, none⟩ (.int .u8 (x / 256))).setCell ⟨g, 2 * i + 1, none⟩ (.int .u8 (x % 256))) w.heap.size (.slice (some ⟨g, 0, none⟩) n c1) n (put l i (x / 256) (x % 256)) := o3.set (2 * i + 1) (x % 256) (by omega) (by omega)
  have c2 := o2.cell hu.out
  have f2 := o2.free (2 * i) (by omega)
  have c3 := o3.cell (j := 2 * i + 1) (z := v) (by rw [List.getElem?_set_ne (by omega)]; exact hv.out)
  have f3 := o3.free (2 * i + 1) (by omega)
  go_wp2_with fail
  have b4 : Below w.heap.size w ((w2.setCell ⟨g, 2 * i, none⟩ (.int .u8 (x / 256))).setCell ⟨g, 2 * i + 1, none⟩ (.int .u8 (x % 256))) := (b2.setCell hg _).setCell hg _
  clear c2 f2 c3 f3 o2 o3 b2
  generalize (w2.setCell ⟨g, 2 * i, none⟩ (.int .u8 (x / 256))).setCell ⟨g, 2 * i + 1, none⟩ (.int .u8 (x % 256)) = w4 at *
  have hl : 2 * i + 1 < l.length := by rw [h.1]; omega
  have o5 := o4.set (2 * i) 0 (by omega) (by omega)
  have o6 : Owns ((w4.setCell ⟨g, 2 * i, none⟩ (.int .u8 0)).setCell ⟨g, 2 * i + 1, none⟩ (.int .u8 0)) w.heap.size (.slice (some ⟨g, 0, none⟩) n c1) n (put l i 0 0) := by
    rw [← put_put l i (x / 256) (x % 256) 0 0]
    exact o5.set (2 * i + 1) 0 (by omega) (by omega)
  have c4 := o4.cell (put_at0 (l := l) (i := i) (x := x / 256) (y := x % 256) (by omega))
  have f4 := o4.free (2 * i) (by omega)
  have c5 := o5.cell (j := 2 * i + 1) (z := x % 256) (by rw [List.getElem?_set_ne (by omega)]; exact put_at1 hl)
  have f5 := o5.free (2 * i + 1) (by omega)
  have k := Lib.hid (check_in (put l i 0 0))
  have k0 := k.out.1
  have k1 := k.out.2
  clear k
  refine (sum_any _ _ _ _ _ _ o4.holds (by omega)).mono ?_
  rintro e w' ⟨rfl, rfl⟩
  by_cases hz : sums 0 (put l i (x / 256) (x % 256)) = 0
  · have z : (sums 0 (put l i (x / 256) (x % 256)) != 0) = false := by simp [hz]
    clear hz
    go_wp2_with fail
    refine (check_any _ _ _ _ _ _ o6.holds (by omega)).mono ?_
    rintro e w' ⟨rfl, rfl⟩
    have b6 : Below w.heap.size w ((w4.setCell ⟨g, 2 * i, none⟩ (.int .u8 0)).setCell ⟨g, 2 * i + 1, none⟩ (.int .u8 0)) := (b4.setCell hg _).setCell hg _
    clear c4 f4 c5 f5 o4 o5 b4
    generalize (w4.setCell ⟨g, 2 * i, none⟩ (.int .u8 0)).setCell ⟨g, 2 * i + 1, none⟩ (.int .u8 0) = w6 at *
    have w' := Lib.hid (whole_put l h.2.2.2.1 i hl)
    generalize check (put l i 0 0) = q at *
    have o7 := o6.set (2 * i) (q / 256) (by omega) (by omega)
    have o8 : Owns ((w6.setCell ⟨g, 2 * i, none⟩ (.int .u8 (q / 256))).setCell ⟨g, 2 * i + 1, none⟩ (.int .u8 (q % 256))) w.heap.size (.slice (some ⟨g, 0, none⟩) n c1) n (put l i (q / 256) (q % 256)) := by
      rw [← put_put l i 0 0 (q / 256) (q % 256)]
      exact o7.set (2 * i + 1) (q % 256) (by omega) (by omega)
    have c6 := o6.cell (put_at0 (l := l) (i := i) (x := 0) (y := 0) (by omega))
    have f6 := o6.free (2 * i) (by omega)
    have c7 := o7.cell (j := 2 * i + 1) (z := 0) (by rw [List.getElem?_set_ne (by omega)]; exact put_at1 hl)
    have f7 := o7.free (2 * i + 1) (by omega)
    have b8 : Below w.heap.size w ((w6.setCell ⟨g, 2 * i, none⟩ (.int .u8 (q / 256))).setCell ⟨g, 2 * i + 1, none⟩ (.int .u8 (q % 256))) := (b6.setCell hg _).setCell hg _
    go_wp2_with fail
    clear c6 f6 c7 f7 o6 o7 b6
    generalize (w6.setCell ⟨g, 2 * i, none⟩ (.int .u8 (q / 256))).setCell ⟨g, 2 * i + 1, none⟩ (.int .u8 (q % 256)) = w8 at *
    refine (awake_any _).mono ?_
    rintro e w9 ⟨rfl, hb9⟩
    have b9 := b8.trans (hb9.mono b8.size)
    have h9 := o8.holds.below hb9
    go_wp2_with fail
    refine (sum_is w'.out _ _ _ _ _ h9 (by omega)).mono ?_
    rintro e w0 ⟨rfl, rfl⟩
    go_wp2_with fail
    refine (check_is (d := 0) (by unfold check; rw [w'.out]; rfl) _ _ _ _ _ h9 (by omega)).mono ?_
    rintro e w0 ⟨rfl, rfl⟩
    go_wp2_with fail
    go_ret
    exact ⟨rfl, b9⟩
  · have T := Lib.hid (turn_put l h.2.2.2.1 i u v (x / 256) (x % 256) hu.out hv.out (by omega) (by omega) (by omega) (by omega) hz)
    rw [show 256 * (x / 256) + x % 256 = x by omega] at T
    have z : (sums 0 (put l i (x / 256) (x % 256)) != 0) = true := by simp [hz]
    clear hz
    go_wp2_with fail
    refine (turn_is T.out _).mono ?_
    rintro e w' ⟨rfl, rfl⟩
    go_wp2_with fail
    refine (check_any _ _ _ _ _ _ o4.holds (by omega)).mono ?_
    rintro e w' ⟨rfl, rfl⟩
    go_wp2_with fail
    refine (check_any _ _ _ _ _ _ o6.holds (by omega)).mono ?_
    rintro e w' ⟨rfl, rfl⟩
    have b6 : Below w.heap.size w ((w4.setCell ⟨g, 2 * i, none⟩ (.int .u8 0)).setCell ⟨g, 2 * i + 1, none⟩ (.int .u8 0)) := (b4.setCell hg _).setCell hg _
    clear c4 f4 c5 f5 o4 o5 b4
    generalize (w4.setCell ⟨g, 2 * i, none⟩ (.int .u8 0)).setCell ⟨g, 2 * i + 1, none⟩ (.int .u8 0) = w6 at *
    have w' := Lib.hid (whole_put l h.2.2.2.1 i hl)
    generalize check (put l i 0 0) = q at *
    have o7 := o6.set (2 * i) (q / 256) (by omega) (by omega)
    have o8 : Owns ((w6.setCell ⟨g, 2 * i, none⟩ (.int .u8 (q / 256))).setCell ⟨g, 2 * i + 1, none⟩ (.int .u8 (q % 256))) w.heap.size (.slice (some ⟨g, 0, none⟩) n c1) n (put l i (q / 256) (q % 256)) := by
      rw [← put_put l i 0 0 (q / 256) (q % 256)]
      exact o7.set (2 * i + 1) (q % 256) (by omega) (by omega)
    have c6 := o6.cell (put_at0 (l := l) (i := i) (x := 0) (y := 0) (by omega))
    have f6 := o6.free (2 * i) (by omega)
    have c7 := o7.cell (j := 2 * i + 1) (z := 0) (by rw [List.getElem?_set_ne (by omega)]; exact put_at1 hl)
    have f7 := o7.free (2 * i + 1) (by omega)
    have b8 : Below w.heap.size w ((w6.setCell ⟨g, 2 * i, none⟩ (.int .u8 (q / 256))).setCell ⟨g, 2 * i + 1, none⟩ (.int .u8 (q % 256))) := (b6.setCell hg _).setCell hg _
    go_wp2_with fail
    clear c6 f6 c7 f7 o6 o7 b6
    generalize (w6.setCell ⟨g, 2 * i, none⟩ (.int .u8 (q / 256))).setCell ⟨g, 2 * i + 1, none⟩ (.int .u8 (q % 256)) = w8 at *
    refine (awake_any _).mono ?_
    rintro e w9 ⟨rfl, hb9⟩
    have b9 := b8.trans (hb9.mono b8.size)
    have h9 := o8.holds.below hb9
    go_wp2_with fail
    refine (sum_is w'.out _ _ _ _ _ h9 (by omega)).mono ?_
    rintro e w0 ⟨rfl, rfl⟩
    go_wp2_with fail
    refine (check_is (d := 0) (by unfold check; rw [w'.out]; rfl) _ _ _ _ _ h9 (by omega)).mono ?_
    rintro e w0 ⟨rfl, rfl⟩
    go_wp2_with fail
    go_ret
    exact ⟨rfl, b9⟩

theorem walk (A : Option Addr) (n c : Nat) (l : List Int) (i x : Int) (w : World) (h : Holds w w.heap.size A n c l) :
    Calls Try.prog 6 #[.slice A n c, .int .i64 i, .int .i64 x] w fun e w' => e = .returned (.bool true) ∧ Below w.heap.size w w' := by
  by_cases k : n ≤ 1000 ∧ 0 ≤ i ∧ 2 * i + 2 ≤ (n : Int) ∧ 0 ≤ x ∧ x ≤ 65535
  · obtain ⟨k1, k2, k3, k4, k5⟩ := k
    obtain ⟨j, rfl⟩ := Int.eq_ofNat_of_zero_le k2
    exact inner A n c j l x w h k1 (by omega) k4 k5
  · exact outer A n c l i x w h (by omega)

end Go.Proofs.Ytajjncmbgncnhaa.LawWhole
