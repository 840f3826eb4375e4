/- What the rows list gives what the walks want. -/
import Derived.Test.YtggahoocgijdkaaDoorStd
import Derived.Test.YtggahoocgijdkaaDoorRows
import Derived.Stop.LaidErr
import Derived.Lib.LaidTab
import Derived.LaidMore
namespace Go.Proofs.YtggahoocgijdkaaDoor.Laid
open Go.RowKit Go.Proofs.YtggahoocgijdkaaDoor.Std

theorem star : "*" ++ "errors.errorString" = "*errors.errorString" := by decide
theorem rowErr (u : TypeId) (h : Tryd.prog.typeName? 3 u = some "*errors.errorString") : u = 112 :=
  typeName_ptr_named (nm := "errors.errorString") (by rw [star]; kernel_rfl) (by kernel_rfl) (by decide) u (by rw [star]; exact h)
theorem cs_es : Tryd.prog.cellsOf 114 = 1 := by kernel_rfl
theorem cs_s : Tryd.prog.cellsOf 9 = 1 := by kernel_rfl
theorem g_syn : Tryd.prog.globalNamed "strconv.ErrSyntax" = some 1 := by kernel_rfl
theorem t_syn : (Tryd.prog.globals[1]?).map (·.type) = some 62 := by kernel_rfl
theorem g_rng : Tryd.prog.globalNamed "strconv.ErrRange" = some 2 := by kernel_rfl
theorem t_rng : (Tryd.prog.globals[2]?).map (·.type) = some 62 := by kernel_rfl
theorem g_pow : Tryd.prog.globalNamed "internal/strconv.uint64pow10" = some 3 := by kernel_rfl
theorem t_pow : (Tryd.prog.globals[3]?).map (·.type) = some 116 := by kernel_rfl
theorem g_tz : Tryd.prog.globalNamed "math/bits.deBruijn64tab" = some 7 := by kernel_rfl
theorem t_tz : (Tryd.prog.globals[7]?).map (·.type) = some 125 := by kernel_rfl
theorem cs_20 : Tryd.prog.cellsOf 116 = 20 := by kernel_rfl
theorem cs_u64 : Tryd.prog.cellsOf 60 = 1 := by kernel_rfl
theorem cs_64 : Tryd.prog.cellsOf 125 = 64 := by kernel_rfl
theorem cs_u8 : Tryd.prog.cellsOf 5 = 1 := by kernel_rfl

def tzTab : List Int := [0, 1, 56, 2, 57, 49, 28, 3, 61, 58, 42, 50, 38, 29, 17, 4, 62, 47, 59, 36, 45, 43, 51, 22, 53, 39, 33, 30, 24, 18, 12, 5, 63, 55, 48, 27, 60, 41, 37, 16, 46, 35, 44, 21, 52, 32, 23, 11, 54, 26, 40, 15, 34, 20, 31, 10, 25, 14, 19, 9, 13, 8, 7, 6]

theorem std_of {W : World} (h : laidMetH Tryd.prog Rows.addrOrderRow.laid W) (hsh : W.ShapedOpen Tryd.prog) : Std W := by
  rw [MakeChecks.laidMetH_plain _ _ _ (by kernel_rfl)] at h
  have h1 := h.tail
  have h2 := h1.tail
  have h3 := h2.tail
  have h4 := h3.tail
  have h5 := h4.tail
  have e1 : (Rows.laid_math_bits_deBruijn64tab : DataW Unit) = Lib.tabData .u8 tzTab := rfl
  have e2 : (Rows.laid_internal_strconv_uint64pow10 : DataW Unit) = Lib.tabData .u64 Lib.pow10Tab := rfl
  obtain ⟨a4, s4, hv4, -, -, -⟩ := laid_sentinel h4 g_rng t_rng Tryd.underlying62 rowErr Tryd.underlying112 Tryd.underlying114 rfl rfl Tryd.underlying9 cs_es cs_s
  obtain ⟨a5, s5, hv5, -, -, -⟩ := laid_sentinel h5 g_syn t_syn Tryd.underlying62 rowErr Tryd.underlying112 Tryd.underlying114 rfl rfl Tryd.underlying9 cs_es cs_s
  have p1 : Lib.TabIs Tryd.prog W "math/bits.deBruijn64tab" .u8 tzTab := Lib.tabIs_of_head g_tz t_tz Tryd.underlying125 Tryd.underlying5 cs_u8 cs_64 h1
  have p2 : Lib.TabIs Tryd.prog W "internal/strconv.uint64pow10" .u64 Lib.pow10Tab := Lib.tabIs_of_head g_pow t_pow Tryd.underlying116 Tryd.underlying60 cs_u64 cs_20 h2
  refine ⟨Tryd.laysM146.s1_3 W hsh, p2, ⟨_, _, (World.var?_cell g_syn hv5 0)⟩, ⟨_, _, (World.var?_cell g_rng hv4 0)⟩, ?_⟩
  rw [World.var?_cell g_tz p1 15]
  rfl

end Go.Proofs.YtggahoocgijdkaaDoor.Laid
