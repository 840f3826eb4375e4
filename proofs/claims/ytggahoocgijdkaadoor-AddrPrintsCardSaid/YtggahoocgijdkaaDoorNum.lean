/- strconv.ParseUint at base 16 and 16 bits. -/
import Derived.Test.YtggahoocgijdkaaDoorStd
import Derived.Test.YtggahoocgijdkaaDoorHex
import Derived.Laws.Strings3
import Derived.Laws.Closers25
import Derived.Laws.Closers25b
import Derived.BigCall
import Derived.BigGuard
import Derived.Handy
set_option linter.unusedVariables false
namespace Go.Proofs.YtggahoocgijdkaaDoor.Num
open Go.RowKit Go.Proofs.YtggahoocgijdkaaDoor.Sums Go.Proofs.YtggahoocgijdkaaDoor.Mem Go.Proofs.YtggahoocgijdkaaDoor.Std Go.Proofs.YtggahoocgijdkaaDoor.Hex

theorem lower_any (c : UInt8) (w : World) : Calls Tryd.prog 66 #[.int .u8 (c.toNat : Int)] w fun e w' => e = .returned (.int .u8 ((c ||| 32).toNat : Int)) ∧ w = w' := by
  refine (Tryd.internal_strconv_lower (c.toNat : Int) w).mono ?_
  rintro e w' ⟨rfl, rfl⟩
  refine ⟨?_, rfl⟩
  congr 2
  have all : ∀ i : Fin 256, bits .or .u8 ((i.val : Nat) : Int) 32 = (((UInt8.ofNat i.val) ||| 32).toNat : Int) := by decide +kernel
  have := all ⟨c.toNat, c.toNat_lt⟩
  simpa only [UInt8.ofNat_toNat] using this

/-- How the inner call ends. -/
def InEnd (o : Option Nat) (e : Ending) : Prop :=
  (∃ n : Nat, o = some n ∧ n ≤ 65535 ∧ e = .returned (.tuple #[.int .u64 n, .nilIface])) ∨
  (o = none ∧ ∃ v k : Int, (k = 1 ∨ k = 2) ∧ e = .returned (.tuple #[.int .u64 v, .iface 87 (.int .i64 k)]))

theorem InEnd.no {o : Option Nat} (h : o = none) (v k : Int) (hk : k = 1 ∨ k = 2) : InEnd o (.returned (.tuple #[.int .u64 v, .iface 87 (.int .i64 k)])) := .inr ⟨h, v, k, hk, rfl⟩

set_option maxRecDepth 100000 in
set_option maxHeartbeats 2000000 in
theorem inner_empty (w : World) :
    Calls Tryd.prog 53 #[.string ⟨#[]⟩, .int .i64 16, .int .i64 16] w fun e w' => InEnd none e ∧ Below w.heap.size w w' := by
  go_enter Tryd.func53, Tryd.ntmps53
  go_wp2_with fail
  go_ret2
  exact ⟨InEnd.no rfl _ _ (.inr rfl), Below.refl _ _⟩

set_option maxRecDepth 100000 in
set_option maxHeartbeats 8000000 in
theorem inner_any (s : ByteArray) (hs : s.size ≤ 300) (h0 : 0 < s.size) (w : World) :
    Calls Tryd.prog 53 #[.string s, .int .i64 16, .int .i64 16] w fun e w' => InEnd (hexP 0 s.data.toList) e ∧ Below w.heap.size w w' := by
  have hemp : s.toList.isEmpty = false := by
    rw [← decide_eq_emptyBytes]
    exact decide_eq_false (fun h => by rw [h] at h0; exact absurd h0 (by decide))
  obtain ⟨w1, v1, hr, ho, hb⟩ := run_bytes_string w s (by simp only [maxLen]; omega)
  obtain ⟨A, c, rfl, hh⟩ := ho.slice
  obtain ⟨g, rfl, hg, hg'⟩ := ho.form h0
  have hL : s.data.toList.length = s.size := by rw [Array.length_toList]; rfl
  have HC : Hid (∀ k c, s.data.toList[k]? = some c → w1.cell? ⟨g, k, none⟩ = some (.int .u8 (c.toNat : Int))) := Lib.hid fun k c hk => ho.cell (by simp [nums, hk])
  have HB := Lib.hid hb
  obtain ⟨bs, hbs⟩ : ∃ bs, bs = s.data.toList := ⟨_, rfl⟩
  rw [← hbs] at hL HC ⊢
  have HL := Lib.hid hL
  have hmv : IntKind.u64.wrap (IntKind.u64.wrap 65536 - 1) = 65535 := by
    rw [IntKind.wrap_u64, IntKind.wrap_u64]
    decide
  clear ho hh hL hb hbs
  go_enter Tryd.func53, Tryd.ntmps53
  go_wp2_with fail
  go_loop [12, 13, 101] (fun u n i => ∃ (m k : Nat) (a : Int), u = .bool false ∧ n = .int .u64 a ∧ i = .int .i64 k ∧ k ≤ s.size ∧ Hid (a = (m : Int) ∧ m ≤ 65535 ∧ hexP 0 bs = hexP m (bs.drop k))) (fun _ _ i => s.size - (intOf i).toNat)
  case atStart => exact ⟨0, 0, 0, rfl, rfl, rfl, Nat.zero_le _, rfl, by omega, by simp⟩
  case round =>
    obtain ⟨m, k, a, rfl, rfl, rfl, hk, hx⟩ := hrel
    obtain ⟨ha, hm, hrest⟩ := hx.out
    clear hx
    have b0 : 0 ≤ a := by omega
    have b1 : a ≤ 65535 := by omega
    by_cases hlt : k < s.size
    · have hd : bs.drop k = bs[k]'(by rw [HL.out]; exact hlt) :: bs.drop (k + 1) := List.drop_eq_getElem_cons (by rw [HL.out]; exact hlt)
      have hcell := HC.out k _ (List.getElem?_eq_getElem (by rw [HL.out]; exact hlt))
      generalize bs[k]'(by rw [HL.out]; exact hlt) = c at hd hcell
      rw [hd] at hrest
      have HR := Lib.hid hrest
      clear hd hrest
      have cl := c.toNat_lt
      have LC : Hid (∀ w, Calls Tryd.prog 66 #[.int .u8 (c.toNat : Int)] w fun e w' => e = .returned (.int .u8 ((c ||| 32).toNat : Int)) ∧ w = w') := Lib.hid (lower_any c)
      have ll := (c ||| 32).toNat_lt
      have n95 : c.toNat = 95 → (c ||| 32).toNat = 127 := fun h => by
        have : c = 95 := UInt8.toNat_inj.1 (by rw [h]; rfl)
        subst this
        rfl
      have lc := low_cases c
      have N95 := Lib.hid n95
      clear n95
      generalize (c ||| 32).toNat = lo at lc LC ll N95
      rcases lc with ⟨a1, a2, a3⟩ | ⟨a0, a1, a2, a3⟩ | ⟨a0, a1, a2, a3⟩ | ⟨a0, a1, a3⟩
      · by_cases hov : 65535 < m * 16 + (c.toNat - 48)
        · have F := Lib.hid (HR.out.trans (hexP_over a3 hov))
          have iov : 65535 < a * 16 + ((c.toNat : Int) - 48) := by omega
          clear a3 hov HR hm ha HC
          go_wp2_with fail
          go_ret2
          exact ⟨InEnd.no F.out _ _ (.inl rfl), HB.out⟩
        · have F := Lib.hid (HR.out.trans (hexP_on a3 hov))
          have iov : a * 16 + ((c.toNat : Int) - 48) ≤ 65535 := by omega
          have HN : Hid (a * 16 + ((c.toNat : Int) - 48) = ((m * 16 + (c.toNat - 48) : Nat) : Int) ∧ m * 16 + (c.toNat - 48) ≤ 65535 ∧ hexP 0 bs = hexP (m * 16 + (c.toNat - 48)) (bs.drop (k + 1))) := Lib.hid ⟨by omega, by omega, F.out⟩
          clear a3 hov HR hm ha HC F
          go_wp2_with fail
          refine ⟨⟨m * 16 + (c.toNat - 48), k + 1, a * 16 + ((c.toNat : Int) - 48), rfl, (by first | rfl | (congr 1; omega)), (by first | rfl | (congr 1; omega)), by omega, HN⟩, by simp [intOf]; omega⟩
      · have h95 : ((c.toNat : Int) == 95) = false := by
          rw [beq_eq_false_iff_ne]
          intro h
          have := N95.out (by omega)
          omega
        have side : c.toNat < 48 ∨ 57 < c.toNat := by omega
        clear a0 N95
        by_cases hov : 65535 < m * 16 + (lo - 87)
        · have F := Lib.hid (HR.out.trans (hexP_over a3 hov))
          have iov : 65535 < a * 16 + ((lo : Int) - 97 + 10) := by omega
          clear a3 hov HR hm ha HC
          rcases side with side | side
          all_goals
            go_wp2_with (go_at_call 66; refine (LC.out _).mono ?_; rintro e w' ⟨rfl, rfl⟩)
            go_ret2
            exact ⟨InEnd.no F.out _ _ (.inl rfl), HB.out⟩
        · have F := Lib.hid (HR.out.trans (hexP_on a3 hov))
          have iov : a * 16 + ((lo : Int) - 97 + 10) ≤ 65535 := by omega
          have HN : Hid (a * 16 + ((lo : Int) - 97 + 10) = ((m * 16 + (lo - 87) : Nat) : Int) ∧ m * 16 + (lo - 87) ≤ 65535 ∧ hexP 0 bs = hexP (m * 16 + (lo - 87)) (bs.drop (k + 1))) := Lib.hid ⟨by omega, by omega, F.out⟩
          clear a3 hov HR hm ha HC F
          rcases side with side | side
          all_goals
            go_wp2_with (go_at_call 66; refine (LC.out _).mono ?_; rintro e w' ⟨rfl, rfl⟩)
            refine ⟨⟨m * 16 + (lo - 87), k + 1, a * 16 + ((lo : Int) - 97 + 10), rfl, (by first | rfl | (congr 1; omega)), (by first | rfl | (congr 1; omega)), by omega, HN⟩, by simp [intOf]; omega⟩
      · have h95 : ((c.toNat : Int) == 95) = false := by
          rw [beq_eq_false_iff_ne]
          intro h
          have := N95.out (by omega)
          omega
        have side : c.toNat < 48 ∨ 57 < c.toNat := by omega
        have F := Lib.hid (HR.out.trans (hexP_no a3))
        clear a0 N95 a3 HR hm ha HC
        rcases side with side | side
        all_goals
          go_wp2_with (go_at_call 66; refine (LC.out _).mono ?_; rintro e w' ⟨rfl, rfl⟩)
          go_ret2
          exact ⟨InEnd.no F.out _ _ (.inr rfl), HB.out⟩
      · have side : c.toNat < 48 ∨ 57 < c.toNat := by omega
        have sidel : lo < 97 ∨ 122 < lo := by omega
        have F := Lib.hid (HR.out.trans (hexP_no a3))
        clear a0 a1 a3 HR hm ha HC
        by_cases h95 : c.toNat = 95
        · have l127 := N95.out h95
          have L2 := LC.out
          rw [h95, l127] at L2
          rw [h95] at hcell
          have L3 := Lib.hid L2
          clear L2 LC N95 side sidel h95 l127
          go_wp2_with (go_at_call 66; refine (L3.out _).mono ?_; rintro e w' ⟨rfl, rfl⟩)
          go_ret2
          exact ⟨InEnd.no F.out _ _ (.inr rfl), HB.out⟩
        · have h95 : ((c.toNat : Int) == 95) = false := by
            rw [beq_eq_false_iff_ne]
            omega
          clear N95
          rcases side with side | side <;> rcases sidel with sidel | sidel
          all_goals
            go_wp2_with (go_at_call 66; refine (LC.out _).mono ?_; rintro e w' ⟨rfl, rfl⟩)
            go_ret2
            exact ⟨InEnd.no F.out _ _ (.inr rfl), HB.out⟩
    · have e : k = s.size := by omega
      subst e
      have HM := Lib.hid hrest
      subst ha
      clear hrest
      go_wp2_with fail
      go_ret2
      refine ⟨.inl ⟨m, ?_, hm, rfl⟩, HB.out⟩
      rw [HM.out, List.drop_of_length_le (by rw [HL.out]; exact Nat.le_refl _)]
      rfl

end Go.Proofs.YtggahoocgijdkaaDoor.Num
