/- The contracts of the document's By and Block. -/
import Derived.Test.YtdnkbefpbehllaaDoorM13
import Derived.Test.YtdnkbefpbehllaaDoorM09
import Derived.Test.YtdnkbefpbehllaaDoorM04
import Derived.Test.YtdnkbefpbehllaaDoorM15
set_option linter.unusedVariables false
namespace Go.Proofs.YtdnkbefpbehllaaDoor.AesBy
open Go.RowKit Go.Proofs.YtdnkbefpbehllaaDoor.Sums Go.Proofs.YtdnkbefpbehllaaDoor.Mem Go.Proofs.YtdnkbefpbehllaaDoor.Blk Go.Proofs.YtdnkbefpbehllaaDoor.Bits3 Go.Proofs.YtdnkbefpbehllaaDoor.Ints Go.Proofs.YtdnkbefpbehllaaDoor.Free Go.Proofs.YtdnkbefpbehllaaDoor.Steps Go.Proofs.YtdnkbefpbehllaaDoor.Ops Go.Proofs.YtdnkbefpbehllaaDoor.CutA Go.Proofs.YtdnkbefpbehllaaDoor.AesF Go.Proofs.YtdnkbefpbehllaaDoor.AesB Go.Proofs.YtdnkbefpbehllaaDoor.AesR Go.Proofs.YtdnkbefpbehllaaDoor.AesR2 Go.Proofs.YtdnkbefpbehllaaDoor.AesR3

theorem nats_drop (l : List Int) (k : Nat) : nats (l.drop k) = (nats l).drop k := by simp [nats, List.map_drop]
theorem list16 {l : List Nat} (h : l.length = 16) : fil (fun i => l.getD i 0) 16 16 = l := by
  rw [fil_full]
  apply List.ext_getElem
  · simp [h]
  · intro i h1 h2
    simp only [List.getElem_map, List.getElem_range]
    rw [List.getD_eq_getElem?_getD, List.getElem?_eq_getElem h2]
    rfl
theorem src_lt {i : Nat} (h : i < 16) : src i < 16 := by unfold src; omega

end Go.Proofs.YtdnkbefpbehllaaDoor.AesBy

