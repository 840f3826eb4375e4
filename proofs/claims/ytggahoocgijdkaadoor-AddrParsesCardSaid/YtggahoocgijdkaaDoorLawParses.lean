/- The law AddrParses: its walk. -/
import Derived.Test.YtggahoocgijdkaaDoorRefSame
set_option linter.unusedVariables false
namespace Go.Proofs.YtggahoocgijdkaaDoor.LawParses
open Go.RowKit Go.Proofs.YtggahoocgijdkaaDoor.Std Go.Proofs.YtggahoocgijdkaaDoor.Top Go.Proofs.YtggahoocgijdkaaDoor.Awake

theorem all (s : ByteArray) (w : World) (hS : Std w) (hs : s.size ≤ 140737488355328) :
    Calls Tryd.prog 3 #[.string s] w fun e w' => e = .returned (.bool true) ∧ Below w.heap.size w w' := by
  by_cases h : 300 < s.size
  · go_enter Tryd.func3, Tryd.ntmps3
    go_wp2_with fail
    go_ret
    exact ⟨rfl, Below.refl _ _⟩
  · have h1 : s.size ≤ 300 := by omega
    obtain ⟨t, c, ht⟩ : ∃ t c, got (parseV s.data.toList) = .returned (.tuple #[.string t, .int .i64 c]) := by
      cases parseV s.data.toList with
      | none => exact ⟨_, _, rfl⟩
      | some g => exact ⟨_, _, rfl⟩
    have P0 := fun W (hW : Std W) => parse_got s W hW (parseV s.data.toList) rfl
    rw [ht] at P0
    have R0 := fun W => RefSame.ref_any s h1 W
    rw [ht] at R0
    have P := Lib.hid P0
    have R := Lib.hid R0
    have AW := Lib.hid (fun W (hW : Std W) => awake_any W hW)
    clear P0 R0 ht h
    go_enter Tryd.func3, Tryd.ntmps3
    go_wp2_with fail
    refine (P.out _ hS).mono ?_; rintro e1 w1 ⟨rfl, hb1⟩
    have hS1 := hS.keep hb1
    go_wp2_with fail
    refine (R.out _).mono ?_; rintro e2 w2 ⟨rfl, hb2⟩
    have hS2 := hS1.keep hb2
    have n2 := hb1.trans (hb2.mono hb1.size)
    go_wp2_with fail
    refine (AW.out _ hS2).mono ?_; rintro e3 w3 ⟨rfl, hb3⟩
    have n3 := n2.trans (hb3.mono n2.size)
    go_wp2_with fail
    go_ret
    exact ⟨rfl, n3⟩

end Go.Proofs.YtggahoocgijdkaaDoor.LawParses
