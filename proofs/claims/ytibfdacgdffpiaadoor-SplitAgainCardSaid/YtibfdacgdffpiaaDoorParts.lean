/- Plain sums of rows behind one another: the sum of both is the sum of their sums. -/
import Derived.Test.YtibfdacgdffpiaaDoorSums
namespace Go.Proofs.YtibfdacgdffpiaaDoor.Sums

theorem add_assoc {a b c : Int} (a0 : 0 ≤ a) (a1 : a ≤ 65535) (b0 : 0 ≤ b) (b1 : b ≤ 65535) (c0 : 0 ≤ c) (c1 : c ≤ 65535) : add (add a b) c = add a (add b c) := by
  have e1 : ∀ x y : Int, 0 ≤ x → x ≤ 65535 → 0 ≤ y → y ≤ 65535 → add x y = if 65535 < x + y then x + y - 65535 else x + y := fun x y h1 h2 h3 h4 => by
    unfold add; rw [wd_id h1 h2, wd_id h3 h4]
  rw [e1 _ _ (add_lo _ _) (add_hi _ _) c0 c1, e1 _ _ a0 a1 (add_lo _ _) (add_hi _ _), e1 a b a0 a1 b0 b1, e1 b c b0 b1 c0 c1]
  repeat' split
  all_goals omega

theorem zero_add {a : Int} (h : 0 ≤ a) (k : a ≤ 65535) : add 0 a = a := by rw [add_comm, add_zero h k]

theorem sums_from (l : List Int) (hb : Bytes l) (s : Int) (h : 0 ≤ s) (k : s ≤ 65535) : sums s l = add s (sums 0 l) := by
  match l, hb with
  | [], _ => exact (add_zero h k).symm
  | [a], hb =>
    have := hb a (by simp)
    show add s (256 * a) = add s (add 0 (256 * a))
    rw [zero_add (by omega) (by omega)]
  | a :: b :: r, hb =>
    have ha := hb a (by simp)
    have hb' := hb b (by simp)
    have hr : Bytes r := fun z hz => hb z (by simp [hz])
    have i := sums_in r 0 (by omega) (by omega)
    show sums (add s (256 * a + b)) r = add s (sums (add 0 (256 * a + b)) r)
    rw [sums_from r hr _ (add_lo _ _) (add_hi _ _), zero_add (by omega) (by omega), sums_from r hr (256 * a + b) (by omega) (by omega), add_assoc h k (by omega) (by omega) i.1 i.2]
  termination_by l.length

theorem sums_append (a b : List Int) (h : a.length % 2 = 0) (s : Int) : sums s (a ++ b) = sums (sums s a) b := by
  match a, h with
  | [], _ => rfl
  | x :: y :: r, h =>
    show sums (add s (256 * x + y)) (r ++ b) = sums (sums (add s (256 * x + y)) r) b
    exact sums_append r b (by simp at h; omega) _
  termination_by a.length

theorem sums_parts (a b : List Int) (h : a.length % 2 = 0) (hb : Bytes b) : sums 0 (a ++ b) = add (sums 0 a) (sums 0 b) := by
  have i := sums_in a 0 (by omega) (by omega)
  rw [sums_append a b h, sums_from b hb _ i.1 i.2]

end Go.Proofs.YtibfdacgdffpiaaDoor.Sums
