/- The law InetPseudo: its walk, for any two texts and any three numbers. -/
import Derived.Test.YtajjncmbgncnhaaAwake
import Derived.Test.YtajjncmbgncnhaaRefPseudo
namespace Go.Proofs.Ytajjncmbgncnhaa.LawPseudo
open Go.RowKit Go.Proofs.Ytajjncmbgncnhaa.Sums Go.Proofs.Ytajjncmbgncnhaa.Words Go.Proofs.Ytajjncmbgncnhaa.Mem Go.Proofs.Ytajjncmbgncnhaa.InetSum Go.Proofs.Ytajjncmbgncnhaa.Pseudo Go.Proofs.Ytajjncmbgncnhaa.RefPseudo Go.Proofs.Ytajjncmbgncnhaa.Awake

/-- Both answer the same pair. -/
def Same (s d : ByteArray) (p n : Int) (x y : Int) : Prop :=
  (∀ w : World, Calls Try.prog 17 #[.string s, .string d, .int .i64 p, .int .i64 n] w fun e w' => e = .returned (.tuple #[.int .i64 x, .int .i64 y]) ∧ Below w.heap.size w w') ∧
  (∀ w : World, Calls Try.prog 18 #[.string s, .string d, .int .i64 p, .int .i64 n] w fun e w' => e = .returned (.tuple #[.int .i64 x, .int .i64 y]) ∧ Below w.heap.size w w')

theorem same_any (s d : ByteArray) (p n : Int) : ∃ x y, Same s d p n x y := by
  by_cases h : p < 0 ∨ 255 < p ∨ n < 0 ∨ lng s.size d.size < n
  · exact ⟨0, 1, fun w => (pseudo_refused s d p n w h).mono fun _ _ ⟨h, k⟩ => ⟨h, k ▸ Below.refl _ _⟩, fun w => ref_refused s d p n w h⟩
  · by_cases h4 : s.size = 4 ∧ d.size = 4
    · have e : lng s.size d.size = 65535 := by unfold lng; rw [if_pos h4]
      exact ⟨_, 0, fun w => pseudo4 s d p n w h4.1 h4.2 (by omega) (by omega) (by omega) (by omega), fun w => ref4 s d p n w h4.1 h4.2 (by omega) (by omega) (by omega) (by omega)⟩
    · by_cases h6 : s.size = 16 ∧ d.size = 16
      · have e : lng s.size d.size = 4294967295 := by unfold lng; rw [if_neg h4, if_pos h6]
        exact ⟨_, 0, fun w => pseudo6 s d p n w h6.1 h6.2 (by omega) (by omega) (by omega) (by omega), fun w => ref6 s d p n w h6.1 h6.2 (by omega) (by omega) (by omega) (by omega)⟩
      · have e : lng s.size d.size = -1 := by unfold lng; rw [if_neg h4, if_neg h6]
        omega

theorem walk (s d : ByteArray) (p n c : Int) (w : World) :
    Calls Try.prog 4 #[.string s, .string d, .int .i64 p, .int .i64 n, .int .i64 c] w fun e w' => e = .returned (.bool true) ∧ Below w.heap.size w w' := by
  obtain ⟨x, y, hs⟩ := same_any s d p n
  go_enter Try.func4, Try.ntmps4
  go_wp2_with fail
  · go_ret
    exact ⟨rfl, Below.refl _ _⟩
  · refine (hs.1 _).mono ?_
    rintro e w1 ⟨rfl, hb1⟩
    go_wp2_with fail
    refine (hs.2 _).mono ?_
    rintro e w2 ⟨rfl, hb2⟩
    go_wp2_with fail
    refine (awake_any _).mono ?_
    rintro e w3 ⟨rfl, hb3⟩
    go_wp2_with fail
    refine (turn_code _ _ _ _).mono ?_
    rintro e w' ⟨rfl, rfl⟩
    go_wp2_with fail
    refine (turn_ref _ _ _ _).mono ?_
    rintro e w' ⟨rfl, rfl⟩
    go_wp2_with fail
    go_ret
    exact ⟨rfl, (hb1.trans (hb2.mono hb1.size)).trans (hb3.mono (Nat.le_trans hb1.size hb2.size))⟩

end Go.Proofs.Ytajjncmbgncnhaa.LawPseudo
