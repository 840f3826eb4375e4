/- The contract of inet.Pseudo: the sum of what stands ahead, or the error. -/
import Derived.Test.YthmleabmklnmcaaDoorAppend
import Derived.Test.YthmleabmklnmcaaDoorInetSum
namespace Go.Proofs.YthmleabmklnmcaaDoor.Pseudo
open Go.RowKit Go.Proofs.YthmleabmklnmcaaDoor.Sums Go.Proofs.YthmleabmklnmcaaDoor.Words Go.Proofs.YthmleabmklnmcaaDoor.Mem Go.Proofs.YthmleabmklnmcaaDoor.InetSum

/-- How long what stands ahead lets be. -/
def lng (a b : Nat) : Int := if a = 4 ∧ b = 4 then 65535 else if a = 16 ∧ b = 16 then 4294967295 else -1

theorem longest_any (s d : ByteArray) (w : World) :
    Calls Tryd.prog 41 #[.string s, .string d] w fun e w' => e = .returned (.int .i64 (lng s.size d.size)) ∧ w = w' := by
  by_cases h1 : s.size = 4
  · by_cases h2 : d.size = 4
    · have e : Hid (lng s.size d.size = 65535) := by unfold lng; rw [if_pos ⟨h1, h2⟩]; exact Lib.hid rfl
      go_enter Tryd.func41, Tryd.ntmps41
      go_wp2
      go_ret
      exact ⟨by rw [e.out]; rfl, rfl⟩
    · have e : Hid (lng s.size d.size = -1) := by unfold lng; rw [if_neg (by omega), if_neg (by omega)]; exact Lib.hid rfl
      have f : ((d.size : Int) == 4) = false := by simp; omega
      go_enter Tryd.func41, Tryd.ntmps41
      go_wp2
      go_ret
      exact ⟨by rw [e.out]; rfl, rfl⟩
  · have g : ((s.size : Int) == 4) = false := by simp; omega
    by_cases h3 : s.size = 16
    · by_cases h2 : d.size = 16
      · have e : Hid (lng s.size d.size = 4294967295) := by unfold lng; rw [if_neg (by omega), if_pos ⟨h3, h2⟩]; exact Lib.hid rfl
        go_enter Tryd.func41, Tryd.ntmps41
        go_wp2
        go_ret
        exact ⟨by rw [e.out]; rfl, rfl⟩
      · have e : Hid (lng s.size d.size = -1) := by unfold lng; rw [if_neg (by omega), if_neg (by omega)]; exact Lib.hid rfl
        have f : ((d.size : Int) == 16) = false := by simp; omega
        go_enter Tryd.func41, Tryd.ntmps41
        go_wp2
        go_ret
        exact ⟨by rw [e.out]; rfl, rfl⟩
    · have e : Hid (lng s.size d.size = -1) := by unfold lng; rw [if_neg (by omega), if_neg (by omega)]; exact Lib.hid rfl
      have f : ((s.size : Int) == 16) = false := by simp; omega
      go_enter Tryd.func41, Tryd.ntmps41
      go_wp2
      go_ret
      exact ⟨by rw [e.out]; rfl, rfl⟩


theorem wf_i64 {n : Int} (h : (Lit.int .i64 n).wf = true) : -9223372036854775808 ≤ n ∧ n ≤ 9223372036854775807 := by
  simp [Lit.wf, IntKind.min, IntKind.max, IntKind.signed, IntKind.bits] at h; omega

theorem pseudo_refused (s d : ByteArray) (p n : Int) (w : World) (h : p < 0 ∨ 255 < p ∨ n < 0 ∨ lng s.size d.size < n) :
    Calls Tryd.prog 36 #[.string s, .string d, .int .i64 p, .int .i64 n] w fun e w' => e = .returned (.tuple #[.int .i64 0, .int .i64 1]) ∧ w = w' := by
  by_cases h1 : p < 0
  · go_enter Tryd.func36, Tryd.ntmps36
    go_wp2
    go_ret2
    exact ⟨rfl, rfl⟩
  by_cases h2 : 255 < p
  · go_enter Tryd.func36, Tryd.ntmps36
    go_wp2
    go_ret2
    exact ⟨rfl, rfl⟩
  by_cases h3 : n < 0
  · go_enter Tryd.func36, Tryd.ntmps36
    go_wp2
    go_ret2
    exact ⟨rfl, rfl⟩
  have h4 : lng s.size d.size < n := by omega
  clear h
  go_enter Tryd.func36, Tryd.ntmps36
  go_wp2_with (go_at_call 41; refine (longest_any _ _ _).mono ?_; rintro e w' ⟨rfl, rfl⟩)
  go_ret2
  exact ⟨rfl, rfl⟩

theorem pseudo4 (s d : ByteArray) (p n : Int) (w : World) (hs : s.size = 4) (hd : d.size = 4) (p0 : 0 ≤ p) (p1 : p ≤ 255) (n0 : 0 ≤ n) (n1 : n ≤ 65535) :
    Calls Tryd.prog 36 #[.string s, .string d, .int .i64 p, .int .i64 n] w fun e w' =>
      e = .returned (.tuple #[.int .i64 (sums 0 (nums s ++ (nums d ++ [0, p, n / 256, n % 256]))), .int .i64 0]) ∧ Below w.heap.size w w' := by
  have h4 : Hid (lng s.size d.size = 65535) := by unfold lng; rw [if_pos ⟨hs, hd⟩]; exact Lib.hid rfl
  have g1 : ((s.size : Int) == 4) = true := by simp; omega
  obtain ⟨w1, v1, hr, ho, hb⟩ := run_bytes_string w s (by simp only [maxLen]; omega)
  have hb1 := hb.size
  have hsd : s.size + d.size ≤ 32 := by omega
  have hB : Bytes [0, p, n / 256, n % 256] := by intro z hz; simp at hz; omega
  clear hs hd
  go_enter Tryd.func36, Tryd.ntmps36
  go_wp2_with fail
  refine (longest_any _ _ _).mono ?_
  rintro e w' ⟨rfl, rfl⟩
  rw [h4.out]
  go_wp2_with (first
    | (at_builtin
       refine wpList_append_text rfl (.tmp 29) (.tmp 30) rfl w.heap.size v1 _ _ rfl ho d rfl (by omega) hb1 ?_
       intro v2 w2 ho2 hg2)
    | (at_builtin
       refine wpList_append_bytes rfl (.tmp 35) (.tmp 43) rfl w.heap.size v2 _ _ rfl (ho2.alloc _) _ _ 4 4 [0, p, n / 256, n % 256] rfl (Holds.lit w2 [0, p, n / 256, n % 256] _ rfl (by simp [maxLen]) hB) (by omega) (by have := hg2.size; simp; omega) ?_
       intro v3 w3 ho3 hg3 hat3
       obtain ⟨A3, c3, rfl, hh3⟩ := ho3.slice))
  refine (sum_any _ _ _ _ _ _ hh3 (by omega)).mono ?_
  rintro e w' ⟨rfl, rfl⟩
  have hb2 : Below w.heap.size w w2 := hb.grown hg2 hb1 fun k hk => (ho.lt k hk).1
  have hb3 := (hb2.alloc hb2.size _).grown hg3 (by have := hb2.size; simp; omega) fun k hk => (ho2.lt k hk).1
  go_wp2_with fail
  go_ret2
  exact ⟨rfl, hb3⟩

theorem pseudo6 (s d : ByteArray) (p n : Int) (w : World) (hs : s.size = 16) (hd : d.size = 16) (p0 : 0 ≤ p) (p1 : p ≤ 255) (n0 : 0 ≤ n) (n1 : n ≤ 4294967295) :
    Calls Tryd.prog 36 #[.string s, .string d, .int .i64 p, .int .i64 n] w fun e w' =>
      e = .returned (.tuple #[.int .i64 (sums 0 (nums s ++ (nums d ++ [n / 16777216, n / 65536 % 256, n / 256 % 256, n % 256, 0, 0, 0, p]))), .int .i64 0]) ∧ Below w.heap.size w w' := by
  have h4 : Hid (lng s.size d.size = 4294967295) := by unfold lng; rw [if_neg (by omega), if_pos ⟨hs, hd⟩]; exact Lib.hid rfl
  have g1 : ((s.size : Int) == 4) = false := by simp; omega
  obtain ⟨w1, v1, hr, ho, hb⟩ := run_bytes_string w s (by simp only [maxLen]; omega)
  have hb1 := hb.size
  have hsd : s.size + d.size ≤ 32 := by omega
  have hB : Bytes [n / 16777216, n / 65536 % 256, n / 256 % 256, n % 256, 0, 0, 0, p] := by intro z hz; simp at hz; omega
  clear hs hd
  go_enter Tryd.func36, Tryd.ntmps36
  go_wp2_with fail
  refine (longest_any _ _ _).mono ?_
  rintro e w' ⟨rfl, rfl⟩
  rw [h4.out]
  go_wp2_with (first
    | (at_builtin
       refine wpList_append_text rfl (.tmp 29) (.tmp 30) rfl w.heap.size v1 _ _ rfl ho d rfl (by omega) hb1 ?_
       intro v2 w2 ho2 hg2)
    | (at_builtin
       refine wpList_append_bytes rfl (.tmp 45) (.tmp 59) rfl w.heap.size v2 _ _ rfl (ho2.alloc _) _ _ 8 8 [n / 16777216, n / 65536 % 256, n / 256 % 256, n % 256, 0, 0, 0, p] rfl (Holds.lit w2 [n / 16777216, n / 65536 % 256, n / 256 % 256, n % 256, 0, 0, 0, p] _ rfl (by simp [maxLen]) hB) (by omega) (by have := hg2.size; simp; omega) ?_
       intro v3 w3 ho3 hg3 hat3
       obtain ⟨A3, c3, rfl, hh3⟩ := ho3.slice))
  refine (sum_any _ _ _ _ _ _ hh3 (by omega)).mono ?_
  rintro e w' ⟨rfl, rfl⟩
  have hb2 : Below w.heap.size w w2 := hb.grown hg2 hb1 fun k hk => (ho.lt k hk).1
  have hb3 := (hb2.alloc hb2.size _).grown hg3 (by have := hb2.size; simp; omega) fun k hk => (ho2.lt k hk).1
  go_wp2_with fail
  go_ret2
  exact ⟨rfl, hb3⟩

end Go.Proofs.YthmleabmklnmcaaDoor.Pseudo
