/- The law InetErrors: its walk, for any two texts and any two numbers. -/
import Derived.Test.YtajjncmbgncnhaaAwake
import Derived.Test.YtajjncmbgncnhaaPseudo
namespace Go.Proofs.Ytajjncmbgncnhaa.LawErrors
open Go.RowKit Go.Proofs.Ytajjncmbgncnhaa.Sums Go.Proofs.Ytajjncmbgncnhaa.Words Go.Proofs.Ytajjncmbgncnhaa.Mem Go.Proofs.Ytajjncmbgncnhaa.InetSum Go.Proofs.Ytajjncmbgncnhaa.Pseudo Go.Proofs.Ytajjncmbgncnhaa.Awake

theorem walk4 (s d : ByteArray) (p n : Int) (w : World) (hs : s.size = 4) (hd : d.size = 4) (p0 : 0 ≤ p) (p1 : p ≤ 255) (n0 : 0 ≤ n) (n1 : n ≤ 65535) :
    Calls Try.prog 7 #[.string s, .string d, .int .i64 p, .int .i64 n] w fun e w' => e = .returned (.bool true) ∧ Below w.heap.size w w' := by
  have c := pseudo4 s d p n w hs hd p0 p1 n0 n1
  have i := sums_in (nums s ++ (nums d ++ [0, p, n / 256, n % 256])) 0 (by omega) (by omega)
  have i0 := i.1
  have i1 := i.2
  have C := Lib.hid c
  clear c i
  have g1 : ((s.size : Int) == 4) = true := by simp; omega
  have g2 : ((s.size : Int) == (d.size : Int)) = true := by simp; omega
  clear hs hd
  go_enter Try.func7, Try.ntmps7
  go_wp2_with fail
  refine C.out.mono ?_
  rintro e w1 ⟨rfl, hb1⟩
  go_wp2_with fail
  refine (awake_any _).mono ?_
  rintro e w2 ⟨rfl, hb2⟩
  go_wp2_with fail
  go_ret
  exact ⟨rfl, hb1.trans (hb2.mono hb1.size)⟩

theorem walk6 (s d : ByteArray) (p n : Int) (w : World) (hs : s.size = 16) (hd : d.size = 16) (p0 : 0 ≤ p) (p1 : p ≤ 255) (n0 : 0 ≤ n) (n1 : n ≤ 4294967295) :
    Calls Try.prog 7 #[.string s, .string d, .int .i64 p, .int .i64 n] w fun e w' => e = .returned (.bool true) ∧ Below w.heap.size w w' := by
  have c := pseudo6 s d p n w hs hd p0 p1 n0 n1
  have i := sums_in (nums s ++ (nums d ++ [n / 16777216, n / 65536 % 256, n / 256 % 256, n % 256, 0, 0, 0, p])) 0 (by omega) (by omega)
  have i0 := i.1
  have i1 := i.2
  have C := Lib.hid c
  clear c i
  have g1 : ((s.size : Int) == 4) = false := by simp; omega
  have g3 : ((s.size : Int) == 16) = true := by simp; omega
  have g2 : ((s.size : Int) == (d.size : Int)) = true := by simp; omega
  clear hs hd
  go_enter Try.func7, Try.ntmps7
  go_wp2_with fail
  refine C.out.mono ?_
  rintro e w1 ⟨rfl, hb1⟩
  go_wp2_with fail
  refine (awake_any _).mono ?_
  rintro e w2 ⟨rfl, hb2⟩
  go_wp2_with fail
  go_ret
  exact ⟨rfl, hb1.trans (hb2.mono hb1.size)⟩

set_option maxHeartbeats 1600000 in
theorem refused (s d : ByteArray) (p n : Int) (w : World) (h : p < 0 ∨ 255 < p ∨ n < 0 ∨ lng s.size d.size < n) :
    Calls Try.prog 7 #[.string s, .string d, .int .i64 p, .int .i64 n] w fun e w' => e = .returned (.bool true) ∧ Below w.heap.size w w' := by
  have C := Lib.hid (pseudo_refused s d p n w h)
  have way : ((s.size : Int) == (d.size : Int)) = false ∨
      (((s.size : Int) == (d.size : Int)) = true ∧ ((s.size : Int) == 4) = false ∧ ((s.size : Int) == 16) = false) ∨
      (((s.size : Int) == (d.size : Int)) = true ∧ ((s.size : Int) == 4) = true ∧ ((s.size : Int) == 16) = false ∧ (¬ n ≤ 65535 ∨ (n ≤ 65535 ∧ ¬ 0 ≤ n) ∨ (n ≤ 65535 ∧ 0 ≤ n ∧ ¬ 0 ≤ p) ∨ (n ≤ 65535 ∧ 0 ≤ n ∧ 0 ≤ p ∧ decide (p ≤ 255) = false))) ∨
      (((s.size : Int) == (d.size : Int)) = true ∧ ((s.size : Int) == 4) = false ∧ ((s.size : Int) == 16) = true ∧ (¬ n ≤ 4294967295 ∨ (n ≤ 4294967295 ∧ ¬ 0 ≤ n) ∨ (n ≤ 4294967295 ∧ 0 ≤ n ∧ ¬ 0 ≤ p) ∨ (n ≤ 4294967295 ∧ 0 ≤ n ∧ 0 ≤ p ∧ decide (p ≤ 255) = false))) := by
    by_cases hsd : s.size = d.size
    · right
      by_cases h4 : s.size = 4
      · right; left
        have e : lng s.size d.size = 65535 := by unfold lng; rw [if_pos ⟨h4, hsd ▸ h4⟩]
        rw [e] at h
        exact ⟨by simp; omega, by simp; omega, by simp; omega, by rw [decide_eq_false_iff_not]; omega⟩
      · by_cases h6 : s.size = 16
        · right; right
          have e : lng s.size d.size = 4294967295 := by unfold lng; rw [if_neg (by omega), if_pos ⟨h6, hsd ▸ h6⟩]
          rw [e] at h
          exact ⟨by simp; omega, by simp; omega, by simp; omega, by rw [decide_eq_false_iff_not]; omega⟩
        · left
          exact ⟨by simp; omega, by simp; omega, by simp; omega⟩
    · left
      simp; omega
  clear h
  rcases way with g1 | ⟨g1, g2, g3⟩ | ⟨g1, g2, g3, n1 | ⟨n0, n1⟩ | ⟨n0, n1, p0⟩ | ⟨n0, n1, p0, p1⟩⟩ | ⟨g1, g2, g3, n1 | ⟨n0, n1⟩ | ⟨n0, n1, p0⟩ | ⟨n0, n1, p0, p1⟩⟩
  all_goals
    go_enter Try.func7, Try.ntmps7
    go_wp2_with fail
    refine C.out.mono ?_
    rintro e w1 ⟨rfl, rfl⟩
    go_wp2_with fail
    refine (awake_any _).mono ?_
    rintro e w2 ⟨rfl, hb2⟩
    go_wp2_with fail
    go_ret
    exact ⟨rfl, hb2⟩

theorem walk (s d : ByteArray) (p n : Int) (w : World) :
    Calls Try.prog 7 #[.string s, .string d, .int .i64 p, .int .i64 n] w fun e w' => e = .returned (.bool true) ∧ Below w.heap.size w w' := by
  by_cases h : p < 0 ∨ 255 < p ∨ n < 0 ∨ lng s.size d.size < n
  · exact refused s d p n w h
  · by_cases h4 : s.size = 4 ∧ d.size = 4
    · have e : lng s.size d.size = 65535 := by unfold lng; rw [if_pos h4]
      exact walk4 s d p n w h4.1 h4.2 (by omega) (by omega) (by omega) (by omega)
    · by_cases h6 : s.size = 16 ∧ d.size = 16
      · have e : lng s.size d.size = 4294967295 := by unfold lng; rw [if_neg h4, if_pos h6]
        exact walk6 s d p n w h6.1 h6.2 (by omega) (by omega) (by omega) (by omega)
      · have e : lng s.size d.size = -1 := by unfold lng; rw [if_neg h4, if_neg h6]
        omega

end Go.Proofs.Ytajjncmbgncnhaa.LawErrors
