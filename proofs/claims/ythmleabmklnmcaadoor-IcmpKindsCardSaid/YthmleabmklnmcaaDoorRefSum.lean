/- Contracts of the document's answer: Sum and Check over a row of bytes. -/
import Derived.Test.YthmleabmklnmcaaDoorWords
import Derived.Test.YthmleabmklnmcaaDoorBytes
import Derived.Test.YthmleabmklnmcaaDoorInetSum
import Derived.LoopTactic
namespace Go.Proofs.YthmleabmklnmcaaDoor.RefSum
open Go.RowKit Go.Proofs.YthmleabmklnmcaaDoor.Sums Go.Proofs.YthmleabmklnmcaaDoor.Words Go.Proofs.YthmleabmklnmcaaDoor.Mem Go.Proofs.YthmleabmklnmcaaDoor.InetSum

theorem drop_cons {l : List Int} {k : Nat} {z : Int} (h : l[k]? = some z) : l.drop k = z :: l.drop (k + 1) := by
  obtain ⟨hk, e⟩ := List.getElem?_eq_some_iff.1 h
  rw [List.drop_eq_getElem_cons hk, e]
theorem first_drop1 {l : List Int} {k n : Nat} {y : Int} (hl : l.length = n) (h : k + 1 = n) (hy : l[k]? = some y) : first (l.drop k) = 256 * y := by
  rw [drop_cons hy, List.drop_eq_nil_of_le (by omega)]; rfl
theorem first_drop2 {l : List Int} {k : Nat} {y z : Int} (hy : l[k]? = some y) (hz : l[k + 1]? = some z) : first (l.drop k) = 256 * y + z := by
  rw [drop_cons hy, drop_cons hz]; rfl

/-- The byte at a place. -/
theorem byte_at {w : World} {B n c k : Nat} {b o : Nat} {l : List Int} (h : Holds w B (some ⟨b, o, none⟩) n c l) (hk : k < n) :
    ∃ z, Hid (l[k]? = some z) ∧ w.cell? ⟨b, o + k, none⟩ = some (.int .u8 z) ∧ 0 ≤ z ∧ z ≤ 255 := by
  obtain ⟨hl, hnc, hcm, hb, hc⟩ := h
  obtain ⟨b', o', e, _, hc⟩ := hc (by omega)
  injection e with e
  injection e with e1 e2
  subst e1 e2
  have hk' : k < l.length := by omega
  exact ⟨l[k], List.getElem?_eq_getElem hk', hc k _ (List.getElem?_eq_getElem hk'), hb.at_ k hk'⟩

theorem sum_ref (A : Option Addr) (n c : Nat) (l : List Int) (w : World) (B : Nat) (h : Holds w B A n c l) (hs : n ≤ 65536) :
    Calls Tryd.prog 39 #[.slice A n c] w fun e w' => e = .returned (.int .i64 (sums 0 l)) ∧ w = w' := by
  have hl := Lib.hid h.1
  have hnc := h.2.1
  go_enter Tryd.func39, Tryd.ntmps39
  go_wp2
  go_loop [3, 4] (fun s i => ∃ (k : Nat) (t : Int), k ≤ n + 1 ∧ i = .int .i64 k ∧ s = .int .i64 t ∧ 0 ≤ t ∧ t ≤ 65535 ∧ Hid (sums t (l.drop k) = sums 0 l)) (fun _ i => n + 1 - (intOf i).toNat)
  case atStart => exact ⟨0, 0, by omega, rfl, rfl, by omega, by omega, Lib.hid (by simp)⟩
  case round =>
    obtain ⟨k, t, hk, rfl, rfl, t0, t1, ht⟩ := hrel
    by_cases hlt : k < n
    · obtain ⟨b, o, rfl, _⟩ := h.from_ hlt
      obtain ⟨y, hy, c0, y0, y1⟩ := byte_at h hlt
      have a0 := add_lo t (first (l.drop k))
      have a1 := add_hi t (first (l.drop k))
      by_cases hlt2 : k + 1 < n
      · obtain ⟨z, hz, c1, z0, z1⟩ := byte_at h hlt2
        have F := Lib.hid (first_drop2 hy.out hz.out)
        go_wp2_with (go_at_call 44; rw [← F.out]; refine (add_ref _ _ _).mono ?_; rintro e w' ⟨rfl, rfl⟩)
        go_round
        case rel => exact ⟨k + 2, _, by omega, by go_num, rfl, a0, a1, Lib.hid (by rw [← ht.out, sums_go hl.out hlt])⟩
        case measure => simp [intOf]; omega
      · have F := Lib.hid (first_drop1 hl.out (show k + 1 = n by omega) hy.out)
        go_wp2_with (go_at_call 44; rw [← F.out]; refine (add_ref _ _ _).mono ?_; rintro e w' ⟨rfl, rfl⟩)
        go_round
        case rel => exact ⟨k + 2, _, by omega, by go_num, rfl, a0, a1, Lib.hid (by rw [← ht.out, sums_go hl.out hlt])⟩
        case measure => simp [intOf]; omega
    · go_wp2
      go_ret
      refine ⟨ret_int ?_, rfl⟩
      rw [← ht.out, List.drop_eq_nil_of_le (by rw [hl.out]; omega)]
      rfl

end Go.Proofs.YthmleabmklnmcaaDoor.RefSum
