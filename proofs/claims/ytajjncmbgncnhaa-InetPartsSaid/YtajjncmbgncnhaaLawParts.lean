/- The law InetParts: its walk, for any two rows of bytes. -/
import Derived.Test.YtajjncmbgncnhaaAwake
import Derived.Test.YtajjncmbgncnhaaBoth
import Derived.Test.YtajjncmbgncnhaaParts
import Derived.Test.YtajjncmbgncnhaaRefSum
namespace Go.Proofs.Ytajjncmbgncnhaa.LawParts
open Go.RowKit Go.Proofs.Ytajjncmbgncnhaa.Sums Go.Proofs.Ytajjncmbgncnhaa.Words Go.Proofs.Ytajjncmbgncnhaa.Mem Go.Proofs.Ytajjncmbgncnhaa.InetSum Go.Proofs.Ytajjncmbgncnhaa.RefSum Go.Proofs.Ytajjncmbgncnhaa.Both Go.Proofs.Ytajjncmbgncnhaa.Awake

/-- Two rows, in a new slice of slices. -/
theorem all_two {w : World} {B : Nat} {A A' : Option Addr} {n c n' c' : Nat} {l l' : List Int} (h : Holds w B A n c l) (h' : Holds w B A' n' c' l') (t : TypeId) (hB : B ≤ w.heap.size) :
    All (w.alloc (.cells #[.slice A n c, .slice A' n' c'] t)) (w.heap.size + 1) w.heap.size [⟨A, n, c, l⟩, ⟨A', n', c', l'⟩] := by
  refine ⟨by omega, fun k r hk => ?_⟩
  match k, hk with
  | 0, hk =>
    simp at hk
    subst hk
    exact ⟨by rw [cell_of_row _ w.heap.size 0 _ t (0, 0) (heap_alloc_new w _)]; rfl, (h.below (((Below.refl _ w).alloc hB _))).more (by omega)⟩
  | 1, hk =>
    simp at hk
    subst hk
    exact ⟨by rw [cell_of_row _ w.heap.size 1 _ t (0, 0) (heap_alloc_new w _)]; rfl, (h'.below (((Below.refl _ w).alloc hB _))).more (by omega)⟩

theorem both_two {w : World} {B : Nat} {A A' : Option Addr} {n c n' c' : Nat} {l l' : List Int} (h : Holds w B A n c l) (h' : Holds w B A' n' c' l') (t : TypeId) (hB : B ≤ w.heap.size) (hn : n + n' ≤ 1048576) (g : Nat) (hg : w.heap.size = g) :
    Calls Try.prog 9 #[.slice (some ⟨g, 0, none⟩) 2 2] (w.alloc (.cells #[.slice A n c, .slice A' n' c'] t)) fun e w' =>
      ∃ A1 c1, e = .returned (.slice A1 (n + n') c1) ∧ Holds w' w'.heap.size A1 (n + n') c1 (l ++ l') ∧ Below w.heap.size w w' := by
  subst hg
  have a := all_two h h' t hB
  refine (both_any w.heap.size 2 2 [⟨A, n, c, l⟩, ⟨A', n', c', l'⟩] _ (by simpa using a) rfl (by omega) (by simpa [total] using hn)).mono fun e w' ⟨v, he, ho, hb⟩ => ?_
  simp [total, flat] at ho
  obtain ⟨A1, c1, hv, hh⟩ := ho.slice
  subst hv
  exact ⟨A1, c1, he, hh, ((Below.refl _ w).alloc (Nat.le_refl _) _).trans (hb.mono (by simp))⟩

theorem add_turned (a b : Int) (w : World) : Calls Try.prog 15 #[.int .i64 a, .int .i64 b] w fun e w' => e = .returned (.int .i64 (add b a)) ∧ w = w' := by
  rw [add_comm b a]; exact add_code a b w

theorem sum_parts (A : Option Addr) (n c : Nat) (a b : List Int) (w : World) (B : Nat) (h : Holds w B A n c (a ++ b)) (hs : n ≤ 65536) (ha : a.length % 2 = 0) (hb : Bytes b) :
    Calls Try.prog 11 #[.slice A n c] w fun e w' => e = .returned (.int .i64 (add (sums 0 a) (sums 0 b))) ∧ w = w' := by
  rw [← sums_parts a b ha hb]; exact sum_any A n c _ w B h hs

theorem walk (A A' : Option Addr) (n c n' c' : Nat) (l l' : List Int) (w : World) (h : Holds w w.heap.size A n c l) (h' : Holds w w.heap.size A' n' c' l') :
    Calls Try.prog 5 #[.slice A n c, .slice A' n' c'] w fun e w' => e = .returned (.bool true) ∧ Below w.heap.size w w' := by
  have hc := h.2.1
  have hm := h.2.2.1
  have hc' := h'.2.1
  have hm' := h'.2.2.1
  unfold maxLen at hm hm'
  by_cases hn : 1000 < n
  · go_enter Try.func5, Try.ntmps5
    go_wp2_with (go_at_call 10; refine (awake_any _).mono ?_; rintro e w2 ⟨rfl, hb2⟩)
    go_ret
    exact ⟨rfl, hb2⟩
  by_cases hn' : 1000 < n'
  · go_enter Try.func5, Try.ntmps5
    go_wp2_with (go_at_call 10; refine (awake_any _).mono ?_; rintro e w2 ⟨rfl, hb2⟩)
    go_ret
    exact ⟨rfl, hb2⟩
  by_cases h2 : n % 2 = 1
  · have h3 : ((n : Int) % 2 == 1) = true := by simp; omega
    go_enter Try.func5, Try.ntmps5
    go_wp2_with (go_at_call 10; refine (awake_any _).mono ?_; rintro e w2 ⟨rfl, hb2⟩)
    go_ret
    exact ⟨rfl, hb2⟩
  · have h3 : ((n : Int) % 2 == 1) = false := by simp; omega
    have he : Hid (l.length % 2 = 0) := Lib.hid (by rw [h.1]; omega)
    go_enter Try.func5, Try.ntmps5
    go_wp2_with fail
    refine (awake_any _).mono ?_
    rintro e w2 ⟨rfl, hb2⟩
    have g := h.below hb2
    have g' := h'.below hb2
    go_wp2_with fail
    refine (both_two g g' _ hb2.size (by omega) _ rfl).mono ?_
    rintro e w3 ⟨A1, c1, rfl, g1, hb3⟩
    have k := (g.more hb2.size).below hb3
    have k' := (g'.more hb2.size).below hb3
    go_wp2_with fail
    refine (sum_parts _ _ _ _ _ _ _ g1 (by omega) he.out h'.2.2.2.1).mono ?_
    rintro e w' ⟨rfl, rfl⟩
    go_wp2_with fail
    refine (sum_any _ _ _ _ _ _ k (by omega)).mono ?_
    rintro e w' ⟨rfl, rfl⟩
    go_wp2_with fail
    refine (sum_any _ _ _ _ _ _ k' (by omega)).mono ?_
    rintro e w' ⟨rfl, rfl⟩
    go_wp2_with fail
    refine (add_code _ _ _).mono ?_
    rintro e w' ⟨rfl, rfl⟩
    go_wp2_with fail
    refine (sum_any _ _ _ _ _ _ k (by omega)).mono ?_
    rintro e w' ⟨rfl, rfl⟩
    go_wp2_with fail
    refine (sum_any _ _ _ _ _ _ k' (by omega)).mono ?_
    rintro e w' ⟨rfl, rfl⟩
    go_wp2_with fail
    refine (add_code _ _ _).mono ?_
    rintro e w' ⟨rfl, rfl⟩
    go_wp2_with fail
    refine (sum_any _ _ _ _ _ _ k' (by omega)).mono ?_
    rintro e w' ⟨rfl, rfl⟩
    go_wp2_with fail
    refine (sum_any _ _ _ _ _ _ k (by omega)).mono ?_
    rintro e w' ⟨rfl, rfl⟩
    go_wp2_with fail
    refine (add_turned _ _ _).mono ?_
    rintro e w' ⟨rfl, rfl⟩
    go_wp2_with fail
    go_ret
    exact ⟨rfl, hb2.trans (hb3.mono hb2.size)⟩

end Go.Proofs.Ytajjncmbgncnhaa.LawParts
