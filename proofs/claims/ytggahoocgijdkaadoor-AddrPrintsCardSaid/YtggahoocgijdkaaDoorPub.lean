/- strconv.ParseUint at base 16 and 16 bits, at base 10 and 8 bits: the number, or an error. -/
import Derived.Test.YtggahoocgijdkaaDoorNum
import Derived.Lib.ParseIntBCases
set_option linter.unusedVariables false
namespace Go.Proofs.YtggahoocgijdkaaDoor.Pub
open Go.RowKit Go.Proofs.YtggahoocgijdkaaDoor.Sums Go.Proofs.YtggahoocgijdkaaDoor.Mem Go.Proofs.YtggahoocgijdkaaDoor.Std Go.Proofs.YtggahoocgijdkaaDoor.Hex Go.Proofs.YtggahoocgijdkaaDoor.Num

def PubEnd (o : Option Nat) (m : Nat) (e : Ending) : Prop :=
  (∃ n : Nat, o = some n ∧ n ≤ m ∧ e = .returned (.tuple #[.int .u64 n, .nilIface])) ∨
  (o = none ∧ ∃ (v : Int) (N : Nat), e = .returned (.tuple #[.int .u64 v, .iface 89 (.pointer (some ⟨N, 0, none⟩))]))

/-- The number of a text to the base 10, if a byte holds it. -/
def decV (l : List UInt8) : Option Nat :=
  match Lib.parseUintB 8 l with
  | .ok u => some u
  | _ => none

theorem inner_all (s : ByteArray) (hs : s.size ≤ 300) (w : World) :
    Calls Tryd.prog 53 #[.string s, .int .i64 16, .int .i64 16] w fun e w' => InEnd (hexV s.data.toList) e ∧ Below w.heap.size w w' := by
  by_cases h0 : s.size = 0
  · obtain rfl : s = ⟨#[]⟩ := by
      cases s with
      | mk d => exact congrArg ByteArray.mk (Array.eq_empty_of_size_eq_zero h0)
    exact inner_empty w
  · have e : hexV s.data.toList = hexP 0 s.data.toList := by
      unfold hexV
      rw [if_neg]
      intro h
      apply h0
      have := congrArg List.length h
      rw [Array.length_toList] at this
      exact this
    rw [e]
    exact inner_any s hs (by omega) w

theorem pub_hex (s : ByteArray) (hs : s.size ≤ 300) (w : World) (h : Std w) :
    Calls Tryd.prog 41 #[.string s, .int .i64 16, .int .i64 16] w fun e w' => PubEnd (hexV s.data.toList) 65535 e ∧ Below w.heap.size w w' := by
  have C := Lib.hid (inner_all s hs w)
  go_enter Tryd.func41, Tryd.ntmps41
  go_wp2_with fail
  refine C.out.mono ?_
  rintro e w1 ⟨he, hb⟩
  rcases he with ⟨n, hn, hm, rfl⟩ | ⟨hn, v, k, rfl | rfl, rfl⟩
  · have HN := Lib.hid hn
    clear hn
    go_wp2_with fail
    go_ret2
    exact ⟨.inl ⟨n, HN.out, hm, rfl⟩, hb⟩
  · have HN := Lib.hid hn
    clear hn
    obtain ⟨tp, p, hv⟩ := (h.keep hb).rng
    have T := Lib.hid (Tryd.strconv_toError_range ⟨#[80, 97, 114, 115, 101, 85, 105, 110, 116]⟩ s 16 16 _ w1 (by omega) hv (.inr ⟨tp, p, rfl⟩))
    clear hv
    go_wp2_with fail
    refine T.out.mono ?_
    rintro e w2 ⟨N, rfl, _, _, hb2⟩
    go_wp2_with fail
    go_ret2
    exact ⟨.inr ⟨HN.out, v, N, rfl⟩, hb.trans (hb2.mono hb.size)⟩
  · have HN := Lib.hid hn
    clear hn
    obtain ⟨tp, p, hv⟩ := (h.keep hb).syn
    have T := Lib.hid (Tryd.strconv_toError_syntax ⟨#[80, 97, 114, 115, 101, 85, 105, 110, 116]⟩ s 16 16 _ w1 (by omega) hv (.inr ⟨tp, p, rfl⟩))
    clear hv
    go_wp2_with fail
    refine T.out.mono ?_
    rintro e w2 ⟨N, rfl, _, _, hb2⟩
    go_wp2_with fail
    go_ret2
    exact ⟨.inr ⟨HN.out, v, N, rfl⟩, hb.trans (hb2.mono hb.size)⟩

theorem pub_dec (s : ByteArray) (hs : s.size ≤ 300) (w : World) (h : Std w) :
    Calls Tryd.prog 41 #[.string s, .int .i64 10, .int .i64 8] w fun e w' => PubEnd (decV s.data.toList) 255 e ∧ Below w.heap.size w w' := by
  cases hp : Lib.parseUintB 8 s.data.toList with
  | ok u =>
    refine (Tryd.strconv_ParseUint_10_at8_ok s (by omega) u hp w).mono ?_
    rintro e w' ⟨rfl, hw⟩
    refine ⟨.inl ⟨u, by simp [decV, hp], ?_, rfl⟩, ?_⟩
    · have := Lib.parseUintB_le hp
      simpa using this
    · rcases hw with rfl | rfl
      · exact Below.refl _ _
      · exact ⟨rfl, rfl, rfl, by rw [Lib.bytesWorld_size]; omega, fun k hk => Lib.bytesWorld_at_old w _ s k hk⟩
  | «syntax» =>
    obtain ⟨tp, p, hv⟩ := h.syn
    refine (Tryd.strconv_ParseUint_10_at8_syntax s (by omega) hp _ w hv (.inr ⟨tp, p, rfl⟩)).mono ?_
    rintro e w' ⟨N, rfl, _, _, hb⟩
    exact ⟨.inr ⟨by simp [decV, hp], _, N, rfl⟩, hb⟩
  | range =>
    obtain ⟨tp, p, hv⟩ := h.rng
    refine (Tryd.strconv_ParseUint_10_at8_range s (by omega) hp _ w hv (.inr ⟨tp, p, rfl⟩)).mono ?_
    rintro e w' ⟨N, rfl, _, _, hb⟩
    exact ⟨.inr ⟨by simp [decV, hp], _, N, rfl⟩, hb⟩

end Go.Proofs.YtggahoocgijdkaaDoor.Pub
