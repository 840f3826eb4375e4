/- The document's examples are answered. -/
import Derived.Test.YtggahoocgijdkaaDoorPrint
import Derived.Test.YtggahoocgijdkaaDoorTop
set_option linter.unusedVariables false
namespace Go.Proofs.YtggahoocgijdkaaDoor.Awake
open Go.RowKit Go.Proofs.YtggahoocgijdkaaDoor.Std Go.Proofs.YtggahoocgijdkaaDoor.Grp Go.Proofs.YtggahoocgijdkaaDoor.Arr Go.Proofs.YtggahoocgijdkaaDoor.Run Go.Proofs.YtggahoocgijdkaaDoor.Mask Go.Proofs.YtggahoocgijdkaaDoor.Parse Go.Proofs.YtggahoocgijdkaaDoor.Top Go.Proofs.YtggahoocgijdkaaDoor.Print

def got (o : Option (List Nat)) : Ending := match o with
  | some g => .returned (.tuple #[.string (txt g), .int .i64 0])
  | none => .returned (.tuple #[.string ⟨#[]⟩, .int .i64 4])
theorem parse_got (s : ByteArray) (w : World) (h : Std w) (o : Option (List Nat)) (ho : parseV s.data.toList = o) :
    Calls Tryd.prog 9 #[.string s] w fun e w' => e = got o ∧ Below w.heap.size w w' := by
  refine (parse_any s w h).mono ?_
  rintro e w' ⟨he, hb⟩
  refine ⟨?_, hb⟩
  rcases he with ⟨g, hg, _, _, rfl⟩ | ⟨hg, rfl⟩
  · rw [← ho, hg]; rfl
  · rw [← ho, hg]; rfl

theorem v1 : parseV [49, 48, 46, 48, 46, 48, 46, 49] = some [10, 0, 0, 1] := by decide +kernel
theorem v2 : parseV [48, 49, 48, 46, 48, 46, 48, 46, 49] = none := by decide +kernel
theorem v3 : parseV [50, 48, 48, 49, 58, 68, 66, 56, 58, 58, 49, 58, 48, 58, 48, 58, 49] = some [32, 1, 13, 184, 0, 0, 0, 0, 0, 1, 0, 0, 0, 0, 0, 1] := by decide +kernel
theorem v4 : parseV [49, 58, 50, 58, 51, 58, 52, 58, 53, 58, 54, 58, 55, 58, 58, 56] = none := by decide +kernel
theorem v5 : sixT (grps ⟨#[32, 1, 13, 184, 0, 0, 0, 0, 0, 1, 0, 0, 0, 0, 0, 1]⟩) = [50, 48, 48, 49, 58, 100, 98, 56, 58, 58, 49, 58, 48, 58, 48, 58, 49] := by decide +kernel
theorem v6 : maskS ⟨#[10, 1, 2, 3]⟩ 12 = ⟨#[10, 0, 0, 0]⟩ := by decide +kernel

theorem awake_any (w : World) (h : Std w) : Calls Tryd.prog 11 #[] w fun e w' => e = .returned (.bool true) ∧ Below w.heap.size w w' := by
  have P1 := Lib.hid (fun W (hW : Std W) => parse_got ⟨#[49, 48, 46, 48, 46, 48, 46, 49]⟩ W hW _ v1)
  have P2 := Lib.hid (fun W (hW : Std W) => parse_got ⟨#[48, 49, 48, 46, 48, 46, 48, 46, 49]⟩ W hW _ v2)
  have P3 := Lib.hid (fun W (hW : Std W) => parse_got ⟨#[50, 48, 48, 49, 58, 68, 66, 56, 58, 58, 49, 58, 48, 58, 48, 58, 49]⟩ W hW _ v3)
  have P4 := Lib.hid (fun W (hW : Std W) => parse_got ⟨#[49, 58, 50, 58, 51, 58, 52, 58, 53, 58, 54, 58, 55, 58, 58, 56]⟩ W hW _ v4)
  have Q := Lib.hid (fun W (hW : Std W) => print_six ⟨#[32, 1, 13, 184, 0, 0, 0, 0, 0, 1, 0, 0, 0, 0, 0, 1]⟩ rfl W hW)
  rw [v5] at Q
  have M := Lib.hid (fun W => mask_yes ⟨#[10, 1, 2, 3]⟩ 12 (by decide +kernel) W)
  rw [show (12 : Int).toNat = 12 from rfl, v6] at M
  go_enter Tryd.func11, Tryd.ntmps11
  go_wp2_with fail
  refine (P1.out _ h).mono ?_
  rintro e w1 ⟨he, hb1⟩
  obtain rfl : e = .returned (.tuple #[.string ⟨#[10, 0, 0, 1]⟩, .int .i64 0]) := he
  have h1 := h.keep hb1
  go_wp2_with fail
  refine (P2.out _ h1).mono ?_
  rintro e w2 ⟨he, hb2⟩
  obtain rfl : e = .returned (.tuple #[.string ⟨#[]⟩, .int .i64 4]) := he
  have h2 := h1.keep hb2
  have n2 := hb1.trans (hb2.mono hb1.size)
  go_wp2_with fail
  refine (P3.out _ h2).mono ?_
  rintro e w3 ⟨he, hb3⟩
  obtain rfl : e = .returned (.tuple #[.string ⟨#[32, 1, 13, 184, 0, 0, 0, 0, 0, 1, 0, 0, 0, 0, 0, 1]⟩, .int .i64 0]) := he
  have h3 := h2.keep hb3
  have n3 := n2.trans (hb3.mono n2.size)
  go_wp2_with fail
  refine (Q.out _ h3).mono ?_
  rintro e w4 ⟨rfl, hb4⟩
  have h4 := h3.keep hb4
  have n4 := n3.trans (hb4.mono n3.size)
  go_wp2_with fail
  refine (P4.out _ h4).mono ?_
  rintro e w5 ⟨he, hb5⟩
  obtain rfl : e = .returned (.tuple #[.string ⟨#[]⟩, .int .i64 4]) := he
  have h5 := h4.keep hb5
  have n5 := n4.trans (hb5.mono n4.size)
  go_wp2_with fail
  refine (M.out _).mono ?_
  rintro e w6 ⟨rfl, hb6⟩
  have n6 := n5.trans (hb6.mono n5.size)
  go_wp2_with fail
  go_ret
  exact ⟨rfl, n6⟩

end Go.Proofs.YtggahoocgijdkaaDoor.Awake
