/- The contract of the document's Round. -/
import Derived.Test.YtdnkbefpbehllaaDoorM05
import Derived.Test.YtdnkbefpbehllaaDoorM20
import Derived.Test.YtdnkbefpbehllaaDoorM07
import Derived.Test.YtdnkbefpbehllaaDoorM15
set_option linter.unusedVariables false
namespace Go.Proofs.YtdnkbefpbehllaaDoor.ShaQ
open Go.RowKit Go.Proofs.YtdnkbefpbehllaaDoor.Sums Go.Proofs.YtdnkbefpbehllaaDoor.Mem Go.Proofs.YtdnkbefpbehllaaDoor.Blk Go.Proofs.YtdnkbefpbehllaaDoor.Bits Go.Proofs.YtdnkbefpbehllaaDoor.Bits3 Go.Proofs.YtdnkbefpbehllaaDoor.Ints Go.Proofs.YtdnkbefpbehllaaDoor.IntsO Go.Proofs.YtdnkbefpbehllaaDoor.Free Go.Proofs.YtdnkbefpbehllaaDoor.Steps Go.Proofs.YtdnkbefpbehllaaDoor.Ops Go.Proofs.YtdnkbefpbehllaaDoor.ShaD Go.Proofs.YtdnkbefpbehllaaDoor.ShaR1 Go.Proofs.YtdnkbefpbehllaaDoor.ShaC Go.Proofs.YtdnkbefpbehllaaDoor.ShaW

theorem nat_and {a b : Nat} (h1 : a < 4611686018427387904) (h2 : b < 4611686018427387904) : bits .and .i64 (a : Int) (b : Int) = ((a &&& b : Nat) : Int) := by
  have := i64_and (a := (a : Int)) (b := (b : Int)) (by omega) (by omega) (by omega) (by omega)
  simpa using this
theorem stI_nats {l : List Int} (h : stI l = true) : ints (nats l) = l ∧ W32 (nats l) ∧ (nats l).length = 8 := by
  simp only [stI, okI, Bool.and_eq_true, List.all_eq_true, decide_eq_true_eq] at h
  refine ⟨?_, ?_, by rw [nats_len]; exact h.2⟩
  · unfold ints nats
    rw [List.map_map]
    refine (List.map_congr_left fun z hz => ?_).trans (List.map_id l)
    have := h.1 z hz
    simp only [Function.comp, id]
    omega
  · intro x hx
    obtain ⟨z, hz, rfl⟩ := List.mem_map.1 hx
    have := h.1 z hz
    unfold M
    omega
/-- The first j places are sums. -/
def mixd (F S : List Nat) (j : Nat) : List Nat := (List.range 8).map fun i => if i < j then (F.getD i 0 + S.getD i 0) % M else F.getD i 0
theorem mixd_len (F S : List Nat) (j : Nat) : (mixd F S j).length = 8 := by simp [mixd]
theorem mixd_get (F S : List Nat) {j : Nat} (h : j < 8) : (mixd F S j).getD j 0 = F.getD j 0 := by
  rw [List.getD_eq_getElem?_getD, mixd, List.getElem?_map, List.getElem?_range h]
  simp
theorem mixd_zero {F : List Nat} (S : List Nat) (h : F.length = 8) : mixd F S 0 = F := by
  apply List.ext_getElem
  · rw [mixd_len, h]
  · intro i h1 h2
    simp only [mixd, List.getElem_map, List.getElem_range, Nat.not_lt_zero, if_false]
    rw [List.getD_eq_getElem?_getD, List.getElem?_eq_getElem h2]
    rfl
theorem mixd_set (F S : List Nat) (j : Nat) : (mixd F S j).set j ((F.getD j 0 + S.getD j 0) % M) = mixd F S (j + 1) := by
  apply List.ext_getElem
  · simp [mixd]
  · intro i h1 h2
    rw [List.getElem_set]
    simp only [mixd, List.getElem_map, List.getElem_range]
    by_cases q : j = i
    · subst q
      rw [if_pos rfl, if_pos (by omega)]
    · rw [if_neg q]
      by_cases r : i < j
      · rw [if_pos r, if_pos (by omega)]
      · rw [if_neg r, if_neg (by omega)]
theorem mixd_full (S B : List Nat) : mixd (sgo (words B) 64 0 S) S 8 = round S B := by
  unfold mixd round
  refine List.map_congr_left fun i hi => ?_
  rw [if_pos (List.mem_range.1 hi)]

end Go.Proofs.YtdnkbefpbehllaaDoor.ShaQ

/- The contract of the document's Of: the digest of bytes. -/
set_option linter.unusedVariables false
namespace Go.Proofs.YtdnkbefpbehllaaDoor.ShaO
open Go.RowKit Go.Proofs.YtdnkbefpbehllaaDoor.Sums Go.Proofs.YtdnkbefpbehllaaDoor.Mem Go.Proofs.YtdnkbefpbehllaaDoor.Blk Go.Proofs.YtdnkbefpbehllaaDoor.Bits Go.Proofs.YtdnkbefpbehllaaDoor.Bits3 Go.Proofs.YtdnkbefpbehllaaDoor.Ints Go.Proofs.YtdnkbefpbehllaaDoor.IntsO Go.Proofs.YtdnkbefpbehllaaDoor.Steps Go.Proofs.YtdnkbefpbehllaaDoor.Ops Go.Proofs.YtdnkbefpbehllaaDoor.CutA Go.Proofs.YtdnkbefpbehllaaDoor.ShaD Go.Proofs.YtdnkbefpbehllaaDoor.ShaR1 Go.Proofs.YtdnkbefpbehllaaDoor.ShaC Go.Proofs.YtdnkbefpbehllaaDoor.ShaW Go.Proofs.YtdnkbefpbehllaaDoor.ShaQ

theorem four_any (z : Int) (w : World) (z0 : 0 ≤ z) (z1 : z ≤ 4294967295) :
    Calls Tryd.prog 30 #[.int .i64 z] w fun e w' => ∃ A, e = .returned (.slice A 4 4) ∧ Holds w' w'.heap.size A 4 4 [z / 16777216, z / 65536 % 256, z / 256 % 256, z % 256] ∧ Below w.heap.size w w' := by
  have e1 : z.tdiv 16777216 = z / 16777216 := Int.tdiv_eq_ediv_of_nonneg z0
  have e2 : z.tdiv 65536 = z / 65536 := Int.tdiv_eq_ediv_of_nonneg z0
  have e3 : z.tdiv 256 = z / 256 := Int.tdiv_eq_ediv_of_nonneg z0
  have e4 : z.tmod 256 = z % 256 := Int.tmod_eq_emod_of_nonneg z0
  have e5 : (z / 65536).tmod 256 = z / 65536 % 256 := Int.tmod_eq_emod_of_nonneg (by omega)
  have e6 : (z / 256).tmod 256 = z / 256 % 256 := Int.tmod_eq_emod_of_nonneg (by omega)
  have f1 : IntKind.u8.wrap (z / 16777216) = z / 16777216 := by rw [IntKind.wrap_u8]; omega
  have f2 : IntKind.u8.wrap (z / 65536 % 256) = z / 65536 % 256 := by rw [IntKind.wrap_u8]; omega
  have f3 : IntKind.u8.wrap (z / 256 % 256) = z / 256 % 256 := by rw [IntKind.wrap_u8]; omega
  have f4 : IntKind.u8.wrap (z % 256) = z % 256 := by rw [IntKind.wrap_u8]; omega
  have HL := Lib.hid (Holds.lit w [z / 16777216, z / 65536 % 256, z / 256 % 256, z % 256] #[.int .u8 (z / 16777216), .int .u8 (z / 65536 % 256), .int .u8 (z / 256 % 256), .int .u8 (z % 256)] rfl (by simp [maxLen]) (fun y hy => by simp at hy; omega))
  go_enter Tryd.func30, Tryd.ntmps30
  go_wp2_with fail
  go_ret
  exact ⟨_, rfl, by simpa using HL.out, (Below.refl _ _).alloc (Nat.le_refl _) _⟩
theorem four_nat (n : Nat) : [(n : Int) / 16777216, (n : Int) / 65536 % 256, (n : Int) / 256 % 256, (n : Int) % 256] = ints (four n) := by
  simp [ints, four]
theorem four_ref (n : Nat) (hn : n < 4294967296) (w : World) :
    Calls Tryd.prog 30 #[.int .i64 (n : Int)] w fun e w' => ∃ A, e = .returned (.slice A 4 4) ∧ Holds w' w'.heap.size A 4 4 (ints (four n)) ∧ Below w.heap.size w w' := by
  have := four_any (n : Int) w (by omega) (by omega)
  rw [four_nat] at this
  exact this
theorem ints_app (a b : List Nat) : ints (a ++ b) = ints a ++ ints b := by simp [ints]
theorem ints_len (a : List Nat) : (ints a).length = a.length := by simp [ints]
theorem ints_drop (a : List Nat) (k : Nat) : ints (a.drop k) = (ints a).drop k := by simp [ints, List.map_drop]
theorem ints_take (a : List Nat) (k : Nat) : ints (a.take k) = (ints a).take k := by simp [ints, List.map_take]
theorem ints_zeros (k : Nat) : ints (List.replicate (k + 1) 0) = ints (List.replicate k 0) ++ [0] := by
  rw [List.replicate_succ', ints_app]; rfl
theorem zeros_stop {n k : Nat} (h : k ≤ zeros n) : ((n + 1 + k) % 64 = 56) ↔ k = zeros n := by
  unfold zeros at *; omega
theorem start_ok : stI (ints ShaD.start) = true := by decide +kernel
theorem start_len : ShaD.start.length = 8 := by decide
theorem start_lt : W32 ShaD.start := fun x hx => K_lt x (List.mem_of_mem_drop hx)
theorem start_get (j : Nat) : (ints ShaD.start).getD j 0 = ((K.getD (64 + j) 0 : Nat) : Int) := by
  rw [ints_getD, ShaD.start, List.getD_eq_getElem?_getD, List.getElem?_drop, ← List.getD_eq_getElem?_getD]
theorem stI_of {S : List Nat} (h : S.length = 8) (hl : W32 S) : stI (ints S) = true := by
  simp only [stI, okI, Bool.and_eq_true, List.all_eq_true, decide_eq_true_eq]
  refine ⟨fun z hz => ?_, by rw [ints_len]; exact h⟩
  obtain ⟨x, hx, rfl⟩ := List.mem_map.1 hz
  have := hl x hx
  unfold M at this
  omega
theorem row_next (B : List Nat) (k : Nat) : ints (B ++ 128 :: List.replicate k 0) ++ [0] = ints (B ++ 128 :: List.replicate (k + 1) 0) := by
  rw [List.replicate_succ']; simp [ints]
theorem row_pad {B : List Nat} {n : Nat} (h : B.length = n) : ints (B ++ 128 :: List.replicate (zeros n) 0) ++ (ints (four (8 * n / M)) ++ (ints (four (8 * n % M)) ++ [])) = ints (pad B) := by
  subst h
  simp only [pad, ints, List.map_append, List.map_cons, List.append_nil, List.append_assoc, List.cons_append]
theorem flat_next {F : List Nat} {j : Nat} (h : j < F.length) : (F.take (j + 1)).flatMap four = (F.take j).flatMap four ++ four (F.getD j 0) := by
  rw [List.take_add_one, List.flatMap_append, List.getD_eq_getElem?_getD, List.getElem?_eq_getElem h]
  simp
def lenOf : Value → Nat
  | .slice _ m _ => m
  | _ => 0

end Go.Proofs.YtdnkbefpbehllaaDoor.ShaO

