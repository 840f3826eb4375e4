/- Parse, for any text. -/
import Derived.Test.YtggahoocgijdkaaDoorParse
set_option linter.unusedVariables false
namespace Go.Proofs.YtggahoocgijdkaaDoor.Top
open Go.RowKit Go.Proofs.YtggahoocgijdkaaDoor.Std Go.Proofs.YtggahoocgijdkaaDoor.Grp Go.Proofs.YtggahoocgijdkaaDoor.Split Go.Proofs.YtggahoocgijdkaaDoor.Mask Go.Proofs.YtggahoocgijdkaaDoor.Parse4 Go.Proofs.YtggahoocgijdkaaDoor.Parse

def four (o : Option (List Nat)) : Option (List Nat) :=
  match o with
  | some g => if g.length = 4 then some g else none
  | none => none
/-- The address of a text, as its bytes. -/
def parseV (l : List UInt8) : Option (List Nat) :=
  if 39 < l.length then none else if 0 ≤ Lib.indexByte l 58 then (sixV l).map ungrp else four (tenP [] (parts 46 l))

def ParseEnd (o : Option (List Nat)) (e : Ending) : Prop :=
  (∃ g, o = some g ∧ (∀ z ∈ g, z ≤ 255) ∧ (g.length = 4 ∨ g.length = 16) ∧ e = .returned (.tuple #[.string (txt g), .int .i64 0])) ∨
  (o = none ∧ e = .returned (.tuple #[.string ⟨#[]⟩, .int .i64 4]))

theorem slen (s : ByteArray) : s.data.toList.length = s.size := by rw [Array.length_toList]; rfl

set_option maxHeartbeats 1000000 in
theorem parse_any (s : ByteArray) (w : World) (h : Std w) :
    Calls Tryd.prog 9 #[.string s] w fun e w' => ParseEnd (parseV s.data.toList) e ∧ Below w.heap.size w w' := by
  by_cases h39 : 39 < s.size
  · have F := Lib.hid (show parseV s.data.toList = none from if_pos (by rw [slen]; exact h39))
    go_enter Tryd.func9, Tryd.ntmps9
    go_wp2_with fail
    go_ret2
    exact ⟨.inr ⟨F.out, rfl⟩, Below.refl _ _⟩
  · have e0 : parseV s.data.toList = if 0 ≤ Lib.indexByte s.data.toList 58 then (sixV s.data.toList).map ungrp else four (tenP [] (parts 46 s.data.toList)) := if_neg (by rw [slen]; exact h39)
    have C := Lib.hid (fun W => Tryd.strings_Contains_one s 58 W)
    by_cases hi : 0 ≤ Lib.indexByte s.data.toList 58
    · have F := Lib.hid (e0.trans (if_pos hi))
      have C := C.out
      rw [decide_eq_true hi] at C
      have C := Lib.hid C
      have P := Lib.hid (parse6_any s (by omega) w h)
      clear e0 hi
      go_enter Tryd.func9, Tryd.ntmps9
      go_wp2_with fail
      refine (C.out _).mono ?_; rintro e w' ⟨rfl, rfl⟩
      go_wp2_with fail
      refine P.out.mono ?_
      rintro e w1 ⟨he, hb⟩
      rcases he with ⟨g, hg, hz, hl, rfl⟩ | ⟨hg, rfl⟩
      · have HG := Lib.hid hg
        clear hg
        have HL := Lib.hid hl
        clear hl
        go_wp2_with fail
        go_ret2
        exact ⟨.inl ⟨ungrp g, by rw [F.out, HG.out]; rfl, ungrp_le g hz, .inr (by rw [ungrp_len, HL.out]), rfl⟩, hb⟩
      · have HG := Lib.hid hg
        clear hg
        go_wp2_with fail
        go_ret2
        exact ⟨.inr ⟨by rw [F.out, HG.out]; rfl, rfl⟩, hb⟩
    · have F := Lib.hid (e0.trans (if_neg hi))
      have C := C.out
      rw [decide_eq_false hi] at C
      have C := Lib.hid C
      have P := Lib.hid (parse4_any s (by omega) w h)
      clear e0 hi
      go_enter Tryd.func9, Tryd.ntmps9
      go_wp2_with fail
      refine (C.out _).mono ?_; rintro e w' ⟨rfl, rfl⟩
      go_wp2_with fail
      refine P.out.mono ?_
      rintro e w1 ⟨he, hb⟩
      rcases he with ⟨g, hg, hz, rfl⟩ | ⟨hg, rfl⟩
      · by_cases hl : g.length = 4
        · have HG := Lib.hid (show parseV s.data.toList = some g by rw [F.out, hg]; exact if_pos hl)
          have HL := Lib.hid hl
          clear hg
          rw [decide_eq_true hl]
          clear hl
          go_wp2_with fail
          go_ret2
          exact ⟨.inl ⟨g, HG.out, hz, .inl HL.out, rfl⟩, hb⟩
        · have HG := Lib.hid (show parseV s.data.toList = none by rw [F.out, hg]; exact if_neg hl)
          clear hg
          rw [decide_eq_false hl]
          clear hl
          go_wp2_with fail
          go_ret2
          exact ⟨.inr ⟨HG.out, rfl⟩, hb⟩
      · have HG := Lib.hid hg
        clear hg
        go_wp2_with fail
        go_ret2
        exact ⟨.inr ⟨by rw [F.out, HG.out]; rfl, rfl⟩, hb⟩

end Go.Proofs.YtggahoocgijdkaaDoor.Top
