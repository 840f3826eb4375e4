/- The contract of awake: the document's examples are answered, and nothing that was there is turned. -/
import Derived.Test.YtajjncmbgncnhaaAppend
import Derived.Test.YtajjncmbgncnhaaInetSum
namespace Go.Proofs.Ytajjncmbgncnhaa.Awake
open Go.RowKit Go.Proofs.Ytajjncmbgncnhaa.Sums Go.Proofs.Ytajjncmbgncnhaa.Words Go.Proofs.Ytajjncmbgncnhaa.Mem Go.Proofs.Ytajjncmbgncnhaa.InetSum

theorem bytes_ex : Bytes [0, 1, 242, 3, 244, 245, 246, 247] := by intro z hz; simp at hz; omega
theorem bytes_one : Bytes [1] := by intro z hz; simp at hz; omega

theorem sum_ex (w : World) (g : Nat) (hg : w.heap.size = g) : Calls Try.prog 11 #[.slice (some ⟨g, 0, none⟩) 8 8]
    (w.alloc (.cells #[.int .u8 0, .int .u8 1, .int .u8 242, .int .u8 3, .int .u8 244, .int .u8 245, .int .u8 246, .int .u8 247] 5))
    fun e w' => e = .returned (.int .i64 56818) ∧ (w.alloc (.cells #[.int .u8 0, .int .u8 1, .int .u8 242, .int .u8 3, .int .u8 244, .int .u8 245, .int .u8 246, .int .u8 247] 5)) = w' := by
  subst hg
  exact (sum_any _ _ _ _ _ _ (Holds.lit w [0, 1, 242, 3, 244, 245, 246, 247] _ rfl (by simp [maxLen]) bytes_ex) (by simp)).mono fun _ _ ⟨h, k⟩ => ⟨h, k⟩
theorem check_ex (w : World) (g : Nat) (hg : w.heap.size = g) : Calls Try.prog 13 #[.slice (some ⟨g, 0, none⟩) 1 1] (w.alloc (.cells #[.int .u8 1] 5))
    fun e w' => e = .returned (.int .i64 65279) ∧ w.alloc (.cells #[.int .u8 1] 5) = w' := by
  subst hg
  exact (check_any _ _ _ _ _ _ (Holds.lit w [1] _ rfl (by simp [maxLen]) bytes_one) (by simp)).mono fun _ _ ⟨h, k⟩ => ⟨h, k⟩
theorem add_ex1 (w : World) : Calls Try.prog 15 #[.int .i64 65535, .int .i64 1] w fun e w' => e = .returned (.int .i64 1) ∧ w = w' := (add_code 65535 1 w).mono fun _ _ ⟨h, k⟩ => ⟨h, k⟩
theorem add_ex2 (w : World) : Calls Try.prog 15 #[.int .i64 65535, .int .i64 0] w fun e w' => e = .returned (.int .i64 65535) ∧ w = w' := (add_code 65535 0 w).mono fun _ _ ⟨h, k⟩ => ⟨h, k⟩

theorem awake_any (w : World) : Calls Try.prog 10 #[] w fun e w' => e = .returned (.bool true) ∧ Below w.heap.size w w' := by
  go_enter Try.func10, Try.ntmps10
  go_wp2_with fail
  refine (add_ex1 _).mono ?_; rintro e w' ⟨rfl, rfl⟩
  go_wp2_with fail
  refine (add_ex2 _).mono ?_; rintro e w' ⟨rfl, rfl⟩
  go_wp2_with fail
  refine (sum_ex _ _ (by simp)).mono ?_; rintro e w' ⟨rfl, rfl⟩
  go_wp2_with fail
  refine (check_ex _ _ (by simp)).mono ?_; rintro e w' ⟨rfl, rfl⟩
  go_wp2_with fail
  go_ret
  exact ⟨rfl, ((Below.refl _ _).alloc (Nat.le_refl _) _).alloc (by simp) _⟩

end Go.Proofs.Ytajjncmbgncnhaa.Awake
