/- The document's examples, as plain facts. -/
import Derived.Test.YtjhfginopbjldaaDoorOpts
import Derived.Test.YtjhfginopbjldaaDoorParseAny
import Derived.Test.YtjhfginopbjldaaDoorSame
import Derived.Test.YtjhfginopbjldaaDoorBytesCode
set_option linter.unusedVariables false
namespace Go.Proofs.YtjhfginopbjldaaDoor.Awake
open Go.RowKit Go.Proofs.YtjhfginopbjldaaDoor.Sums Go.Proofs.YtjhfginopbjldaaDoor.Mem Go.Proofs.YtjhfginopbjldaaDoor.Blk Go.Proofs.YtjhfginopbjldaaDoor.Pkt Go.Proofs.YtjhfginopbjldaaDoor.Check Go.Proofs.YtjhfginopbjldaaDoor.Decode Go.Proofs.YtjhfginopbjldaaDoor.ParseCode Go.Proofs.YtjhfginopbjldaaDoor.Same Go.Proofs.YtjhfginopbjldaaDoor.Opts

def txt : List Int := [69, 0, 0, 20, 0, 0, 0, 0, 64, 17, 102, 215, 10, 0, 0, 1, 10, 0, 0, 2]
def bad : List Int := [69, 0, 0, 20, 0, 0, 0, 0, 64, 17, 102, 215, 10, 0, 0, 1, 10, 0, 0, 3]
theorem one_valid : Valid onePkt := Pkt.ok_valid (by kernel_rfl)
theorem one_bytes : onePkt.bytes [] = txt := by decide +kernel
theorem txt_perr : perr txt = 0 := by decide +kernel
theorem txt_hd : hdOf txt = 20 := by decide +kernel
theorem txt_pk : pkOf txt = onePkt := by kernel_rfl
theorem bad_perr : perr bad = 5 := by decide +kernel
theorem txt_str : strOfNums txt = ⟨#[69, 0, 0, 20, 0, 0, 0, 0, 64, 17, 102, 215, 10, 0, 0, 1, 10, 0, 0, 2]⟩ := by kernel_rfl
theorem opts_two : optsS ⟨#[1, 148, 4, 0, 0, 0]⟩ = some [((1 : Int), (⟨#[]⟩ : ByteArray)), (148, ⟨#[0, 0]⟩)] := by
  have x1 : (⟨#[1, 148, 4, 0, 0, 0]⟩ : ByteArray).extract 1 6 = ⟨#[148, 4, 0, 0, 0]⟩ := by kernel_rfl
  have x2 : (⟨#[148, 4, 0, 0, 0]⟩ : ByteArray).extract 4 5 = ⟨#[0]⟩ := by kernel_rfl
  have x3 : (⟨#[148, 4, 0, 0, 0]⟩ : ByteArray).extract 2 4 = ⟨#[0, 0]⟩ := by kernel_rfl
  have y3 : optsS ⟨#[0]⟩ = some [] := by
    rw [optsS, dif_pos (by decide), if_pos (by decide)]
  have y2 : optsS ⟨#[148, 4, 0, 0, 0]⟩ = some [((148 : Int), (⟨#[0, 0]⟩ : ByteArray))] := by
    rw [optsS, dif_pos (by decide), if_neg (by decide), if_neg (by decide), dif_pos (by decide), if_neg (by decide)]
    show (optsS ((⟨#[148, 4, 0, 0, 0]⟩ : ByteArray).extract 4 5)).map _ = _
    rw [x2, y3]
    show some [((148 : Int), (⟨#[148, 4, 0, 0, 0]⟩ : ByteArray).extract 2 4)] = _
    rw [x3]
  rw [optsS, dif_pos (by decide), if_neg (by decide), if_pos (by decide)]
  show (optsS ((⟨#[1, 148, 4, 0, 0, 0]⟩ : ByteArray).extract 1 6)).map _ = _
  rw [x1, y2]
  rfl
end Go.Proofs.YtjhfginopbjldaaDoor.Awake
