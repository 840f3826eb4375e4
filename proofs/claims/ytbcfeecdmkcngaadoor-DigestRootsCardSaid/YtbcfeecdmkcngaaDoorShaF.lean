/- The law's own front: what stands in front of so many parts. -/
import Derived.Test.YtbcfeecdmkcngaaDoorIntsO
import Derived.Test.YtbcfeecdmkcngaaDoorShaT
import Derived.LoopTactic
set_option linter.unusedVariables false
namespace Go.Proofs.YtbcfeecdmkcngaaDoor.ShaF
open Go.RowKit Go.Proofs.YtbcfeecdmkcngaaDoor.Sums Go.Proofs.YtbcfeecdmkcngaaDoor.Mem Go.Proofs.YtbcfeecdmkcngaaDoor.Blk Go.Proofs.YtbcfeecdmkcngaaDoor.Bits3 Go.Proofs.YtbcfeecdmkcngaaDoor.Ints Go.Proofs.YtbcfeecdmkcngaaDoor.IntsO Go.Proofs.YtbcfeecdmkcngaaDoor.ShaP Go.Proofs.YtbcfeecdmkcngaaDoor.ShaT

theorem val16_drop {a : List Nat} {i : Nat} (h : i < a.length) : val16 (a.drop i) = a.getD i 0 + 65536 * val16 (a.drop (i + 1)) := by
  rw [List.drop_eq_getElem_cons h, val16, List.getD_eq_getElem?_getD, List.getElem?_eq_getElem h]; rfl
theorem val16_le : ∀ (d n : Nat) (a : List Nat), val16 (a.drop (n + d)) ≤ val16 (a.drop n)
  | 0, _, _ => Nat.le_refl _
  | d + 1, n, a => by
    refine Nat.le_trans ?_ (val16_le d n a)
    rcases Nat.lt_or_ge (n + d) a.length with q | q
    · rw [show n + (d + 1) = n + d + 1 by omega, val16_drop q]
      omega
    · rw [List.drop_eq_nil_of_le (by omega)]
      exact Nat.zero_le _
theorem front_ref (g : Nat) (a : List Nat) (n : Nat) (w : World) (h : IRow w g a) (hl : a.length ≤ 1000) (hn : n ≤ a.length) (hb : val16 (a.drop n) ≤ 4611686018427387904) (L : Nat) (hL : a.length = L) :
    Calls Tryd.prog 29 #[.slice (some ⟨g, 0, none⟩) L L, .int .i64 (n : Int)] w fun e w' => e = .returned (.int .i64 ((val16 (a.drop n) : Nat) : Int)) ∧ w = w' := by
  have H := Lib.hid h
  have AL := Lib.hid hL
  have VB := Lib.hid hb
  obtain ⟨t, ht⟩ : ∃ t, t = val16 (a.drop n) := ⟨_, rfl⟩
  have HT := Lib.hid ht
  rw [← ht]
  rw [hL] at hl hn
  clear h hb ht hL
  go_enter Tryd.func29, Tryd.ntmps29
  go_wp2_with fail
  go_loopw [5, 6] (fun ov kv wr => ∃ (i o : Nat), kv = .int .i64 ((i : Int) - 1) ∧ ov = .int .i64 (o : Int) ∧ n ≤ i ∧ i ≤ L ∧ Hid (o = val16 (a.drop i)) ∧ Hid (wr = w)) (fun _ kv _ => (intOf kv + 1).toNat)
  case atStart => exact ⟨L, 0, by first | rfl | go_num, rfl, hn, Nat.le_refl _, Lib.hid (by rw [List.drop_eq_nil_of_le (by rw [AL.out]; exact Nat.le_refl _)]; rfl), Lib.hid rfl⟩
  case round =>
    obtain ⟨i, o, rfl, rfl, h1, h2, HO, HW⟩ := hrel
    obtain rfl := HW.out
    by_cases hlt : n < i
    · obtain ⟨k, rfl⟩ : ∃ k, i = k + 1 := ⟨i - 1, by omega⟩
      have kl : k < L := by omega
      have nk : n ≤ k := by omega
      have c := H.out.cell k (by rw [AL.out]; exact kl)
      have vs := val16_drop (a := a) (i := k) (by rw [AL.out]; exact kl)
      have vl : val16 (a.drop k) ≤ val16 (a.drop n) := by
        have := val16_le (k - n) n a
        rwa [show n + (k - n) = k by omega] at this
      rw [← HO.out] at vs
      have vb := VB.out
      obtain ⟨y, hy⟩ : ∃ y, y = val16 (a.drop k) := ⟨_, rfl⟩
      have HY := Lib.hid hy
      rw [← hy] at vs vl
      generalize a.getD k 0 = x at *
      generalize val16 (a.drop n) = vn at *
      have e0 : ((k + 1 : Nat) : Int) - 1 = (k : Int) := by omega
      have f1 : IntKind.i64.wrap (65536 * (o : Int)) = 65536 * (o : Int) := IntWalk.i64_in _ (by omega)
      have f2 : IntKind.i64.wrap (65536 * (o : Int) + (x : Int)) = (y : Int) := by rw [IntWalk.i64_in _ (by omega)]; omega
      have f3 : IntKind.i64.wrap ((k : Int) - 1) = (k : Int) - 1 := IntWalk.i64_in _ (by omega)
      have g1 : decide ((n : Int) ≤ (k : Int)) = true := decide_eq_true (by omega)
      have g2 : ((n : Int) ≤ (k : Int)) = True := eq_true (by omega)
      rw [e0]
      clear hy vs vl vb hlt e0 HT VB
      go_wp2_with fail
      go_roundw
      case rel => exact ⟨k, y, rfl, rfl, nk, by omega, HY, Lib.hid (by trivial)⟩
      case measure => first | (simp [intOf]; done) | (simp [intOf]; omega)
    · obtain rfl : i = n := by omega
      have F : Hid (o = t) := Lib.hid (by rw [HO.out, HT.out])
      have g1 : decide ((i : Int) ≤ (i : Int) - 1) = false := decide_eq_false (by omega)
      have g2 : ((i : Int) ≤ (i : Int) - 1) = False := eq_false (by omega)
      clear HO HT VB
      go_wp2_with fail
      go_ret
      exact ⟨by rw [F.out]; rfl, rfl⟩
end Go.Proofs.YtbcfeecdmkcngaaDoor.ShaF
