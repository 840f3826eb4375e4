/- The document's Seal. -/
import Derived.Test.YtdnkbefpbehllaaDoorM22
import Derived.Test.YtdnkbefpbehllaaDoorM34
import Derived.Test.YtdnkbefpbehllaaDoorM23
set_option linter.unusedVariables false
namespace Go.Proofs.YtdnkbefpbehllaaDoor.EspR3
open Go.RowKit Go.Proofs.YtdnkbefpbehllaaDoor.Sums Go.Proofs.YtdnkbefpbehllaaDoor.Mem Go.Proofs.YtdnkbefpbehllaaDoor.Blk Go.Proofs.YtdnkbefpbehllaaDoor.Free Go.Proofs.YtdnkbefpbehllaaDoor.Steps Go.Proofs.YtdnkbefpbehllaaDoor.Regs Go.Proofs.YtdnkbefpbehllaaDoor.Bits3 Go.Proofs.YtdnkbefpbehllaaDoor.Ints Go.Proofs.YtdnkbefpbehllaaDoor.AesB Go.Proofs.YtdnkbefpbehllaaDoor.PadR Go.Proofs.YtdnkbefpbehllaaDoor.EspD Go.Proofs.YtdnkbefpbehllaaDoor.EspR1
open Go.Proofs.YtdnkbefpbehllaaDoor.CtrD (four four_byt)
open Go.Proofs.YtdnkbefpbehllaaDoor.EspR2 Go.Proofs.YtdnkbefpbehllaaDoor.AesK
open Go.Proofs.YtdnkbefpbehllaaDoor.AesR3 (nats_byt)
theorem ints_app (a b : List Nat) : ints (a ++ b) = ints a ++ ints b := by simp [ints]
theorem holds_nats {w : World} {B n c : Nat} {A : Option Addr} {l : List Int} (h : Holds w B A n c l) : ints (nats l) = l := ints_nats (fun z hz => h.2.2.2.1 z hz)

end Go.Proofs.YtdnkbefpbehllaaDoor.EspR3

