/- The law PickNone: its walk. -/
import Derived.Test.YtijlggfcinnfeaaLawNone0
import Derived.Test.YtijlggfcinnfeaaLawNone1
import Derived.Test.YtijlggfcinnfeaaLawNone2
set_option linter.unusedVariables false
namespace Go.Proofs.Ytijlggfcinnfeaa.LawNone
open Go.RowKit Go.Proofs.Ytijlggfcinnfeaa.Mem Go.Proofs.Ytijlggfcinnfeaa.Blk Go.Proofs.Ytijlggfcinnfeaa.Ahead Go.Proofs.Ytijlggfcinnfeaa.PickD Go.Proofs.Ytijlggfcinnfeaa.PickR1 Go.Proofs.Ytijlggfcinnfeaa.PickR2 Go.Proofs.Ytijlggfcinnfeaa.PickR3 Go.Proofs.Ytijlggfcinnfeaa.Pick1 Go.Proofs.Ytijlggfcinnfeaa.Pick2 Go.Proofs.Ytijlggfcinnfeaa.Pick3 Go.Proofs.Ytijlggfcinnfeaa.Pick4 Go.Proofs.Ytijlggfcinnfeaa.Free Go.Proofs.Ytijlggfcinnfeaa.Steps Go.Proofs.Ytijlggfcinnfeaa.Regs Go.Proofs.Ytijlggfcinnfeaa.Com Go.Proofs.Ytijlggfcinnfeaa.Pick5 Go.Proofs.Ytijlggfcinnfeaa.PickA Go.Proofs.Ytijlggfcinnfeaa.LawFew15 Go.Proofs.Ytijlggfcinnfeaa.LawNoneD
set_option maxRecDepth 100000 in
set_option maxHeartbeats 2000000 in
theorem none_any (p : Pk) (f : Fl) (w : World) (h : small p f) :
    Calls Try.prog 6 #[.agg #[.string p.hl, .string p.hh, .string p.tl, .string p.th, .int .i64 p.pr, .int .i64 p.nl, .int .i64 p.nh, .int .i64 p.fl, .int .i64 p.fh], .agg #[.string f.here, .string f.there, .int .i64 f.pr, .int .i64 f.near, .int .i64 f.far]] w fun e w' => e = .returned (.bool true) ∧ Below w.heap.size w w' := by
  by_cases hf : sz p f ≤ 600 ∧ f.here.size = f.there.size ∧ (f.here.size = 4 ∨ f.here.size = 16) ∧ (0 ≤ f.pr ∧ f.pr ≤ 255)
  · by_cases hg : (-1 ≤ f.near ∧ f.near ≤ 65535) ∧ (-1 ≤ f.far ∧ f.far ≤ 65535)
    · have ho : ok f := ⟨hf.2.1, hf.2.2.1, hf.2.2.2, hg.1, hg.2⟩
      obtain ⟨v, hv⟩ : ∃ v, mayP p = v := ⟨_, rfl⟩
      obtain ⟨a, ha⟩ : ∃ a, a = decide (0 ≤ f.near) := ⟨_, rfl⟩
      obtain ⟨b, hb⟩ : ∃ b, b = decide (0 ≤ f.far) := ⟨_, rfl⟩
      cases v <;> cases a <;> cases b
      · exact LawNone1.none_00 p f w h hf.1 ho hv ha hb
      · exact LawNone1.none_01 p f w h hf.1 ho hv ha hb
      · exact LawNone1.none_10 p f w h hf.1 ho hv ha hb
      · exact LawNone1.none_11 p f w h hf.1 ho hv ha hb
      · exact LawNone2.none_00 p f w h hf.1 ho hv ha hb
      · exact LawNone2.none_01 p f w h hf.1 ho hv ha hb
      · exact LawNone2.none_10 p f w h hf.1 ho hv ha hb
      · exact LawNone2.none_11 p f w h hf.1 ho hv ha hb
    · exact LawNone0.none_not2 p f w h hf hg
  · exact LawNone0.none_not p f w h hf
end Go.Proofs.Ytijlggfcinnfeaa.LawNone
