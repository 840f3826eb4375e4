/- The law InetSums: its walk, for any bytes and any two numbers. -/
import Derived.Test.YtajjncmbgncnhaaAwake
import Derived.Test.YtajjncmbgncnhaaBoth
import Derived.Test.YtajjncmbgncnhaaRefSum
namespace Go.Proofs.Ytajjncmbgncnhaa.LawSums
open Go.RowKit Go.Proofs.Ytajjncmbgncnhaa.Sums Go.Proofs.Ytajjncmbgncnhaa.Words Go.Proofs.Ytajjncmbgncnhaa.Mem Go.Proofs.Ytajjncmbgncnhaa.InetSum Go.Proofs.Ytajjncmbgncnhaa.RefSum Go.Proofs.Ytajjncmbgncnhaa.Both Go.Proofs.Ytajjncmbgncnhaa.Awake

/-- One row, in a new slice of slices. -/
theorem All.one {w : World} {A : Option Addr} {n c : Nat} {l : List Int} (h : Holds w w.heap.size A n c l) (t : TypeId) :
    All (w.alloc (.cells #[.slice A n c] t)) (w.heap.size + 1) w.heap.size [⟨A, n, c, l⟩] := by
  refine ⟨by omega, fun k r hk => ?_⟩
  match k, hk with
  | 0, hk =>
    simp at hk
    subst hk
    refine ⟨by rw [cell_of_row _ w.heap.size 0 _ t (0, 0) (heap_alloc_new w _)]; rfl, (h.below (((Below.refl _ w).alloc (Nat.le_refl _) _))).more (by omega)⟩

theorem both_one {w : World} {A : Option Addr} {n c : Nat} {l : List Int} (h : Holds w w.heap.size A n c l) (t : TypeId) (hn : n ≤ 1048576) (g : Nat) (hg : w.heap.size = g) :
    Calls Try.prog 9 #[.slice (some ⟨g, 0, none⟩) 1 1] (w.alloc (.cells #[.slice A n c] t)) fun e w' =>
      ∃ A' c', e = .returned (.slice A' n c') ∧ Holds w' w'.heap.size A' n c' l ∧ Below w.heap.size w w' := by
  subst hg
  have a := All.one h t
  refine (both_any w.heap.size 1 1 [⟨A, n, c, l⟩] _ (by simpa using a) rfl (by omega) (by simpa [total] using hn)).mono fun e w' ⟨v, he, ho, hb⟩ => ?_
  simp [total, flat] at ho
  obtain ⟨A', c', hv, hh⟩ := ho.slice
  subst hv
  exact ⟨A', c', he, hh, ((Below.refl _ w).alloc (Nat.le_refl _) _).trans (hb.mono (by simp))⟩

theorem walk (A : Option Addr) (n c : Nat) (l : List Int) (x y : Int) (w : World) (h : Holds w w.heap.size A n c l) :
    Calls Try.prog 3 #[.slice A n c, .int .i64 x, .int .i64 y] w fun e w' => e = .returned (.bool true) ∧ Below w.heap.size w w' := by
  by_cases hn : 3000 < n
  · go_enter Try.func3, Try.ntmps3
    go_wp2
    go_ret
    exact ⟨rfl, Below.refl _ _⟩
  · have hc := h.2.1
    have hm := h.2.2.1
    go_enter Try.func3, Try.ntmps3
    go_wp2_with fail
    refine (both_one h _ (by omega) _ rfl).mono ?_
    rintro e w1 ⟨A1, c1, rfl, h1, hb1⟩
    go_wp2_with fail
    refine (awake_any _).mono ?_
    rintro e w2 ⟨rfl, hb2⟩
    have hb := hb1.trans (hb2.mono hb1.size)
    have h2 := h1.below hb2
    have h3 := h.below hb
    go_wp2_with fail
    refine (sum_any _ _ _ _ _ _ h2 (by omega)).mono ?_
    rintro e w' ⟨rfl, rfl⟩
    go_wp2_with fail
    refine (sum_ref _ _ _ _ _ _ h3 (by omega)).mono ?_
    rintro e w' ⟨rfl, rfl⟩
    go_wp2_with fail
    refine (check_any _ _ _ _ _ _ h2 (by omega)).mono ?_
    rintro e w' ⟨rfl, rfl⟩
    go_wp2_with fail
    refine (check_ref _ _ _ _ _ _ h3 (by omega)).mono ?_
    rintro e w' ⟨rfl, rfl⟩
    go_wp2_with fail
    refine (add_code _ _ _).mono ?_
    rintro e w' ⟨rfl, rfl⟩
    go_wp2_with fail
    refine (add_ref _ _ _).mono ?_
    rintro e w' ⟨rfl, rfl⟩
    have r2 := run_string_bytes h2
    have r3 := run_string_bytes h3
    go_wp2_with fail
    go_ret
    exact ⟨rfl, hb⟩

end Go.Proofs.Ytajjncmbgncnhaa.LawSums
