/- The document's examples hold of the code. -/
import Derived.Test.YtibfdacgdffpiaaDoorM02
import Derived.Test.YtibfdacgdffpiaaDoorLawMany19
set_option linter.unusedVariables false
set_option maxRecDepth 100000
namespace Go.Proofs.YtibfdacgdffpiaaDoor.SplA
open Go.RowKit Go.Proofs.YtibfdacgdffpiaaDoor.Sums Go.Proofs.YtibfdacgdffpiaaDoor.Mem Go.Proofs.YtibfdacgdffpiaaDoor.Blk Go.Proofs.YtibfdacgdffpiaaDoor.Pkt Go.Proofs.YtibfdacgdffpiaaDoor.Check Go.Proofs.YtibfdacgdffpiaaDoor.SplD Go.Proofs.YtibfdacgdffpiaaDoor.SplL Go.Proofs.YtibfdacgdffpiaaDoor.SplM Go.Proofs.YtibfdacgdffpiaaDoor.SplP Go.Proofs.YtibfdacgdffpiaaDoor.Errno Go.Proofs.YtibfdacgdffpiaaDoor.Opts Go.Proofs.YtibfdacgdffpiaaDoor.Spl3 Go.Proofs.YtibfdacgdffpiaaDoor.Spl4 Go.Proofs.YtibfdacgdffpiaaDoor.Spl9 Go.Proofs.YtibfdacgdffpiaaDoor.LawMany19

def exS : ByteArray := ⟨#[7, 3, 4, 148, 4, 0, 0, 0]⟩
theorem ex_opts : optsS exS = some [((7 : Int), (⟨#[4]⟩ : ByteArray)), (148, ⟨#[0, 0]⟩)] := by
  have x1 : (⟨#[7, 3, 4, 148, 4, 0, 0, 0]⟩ : ByteArray).extract 3 8 = ⟨#[148, 4, 0, 0, 0]⟩ := by kernel_rfl
  have x0 : (⟨#[7, 3, 4, 148, 4, 0, 0, 0]⟩ : ByteArray).extract 2 3 = ⟨#[4]⟩ := by kernel_rfl
  have x2 : (⟨#[148, 4, 0, 0, 0]⟩ : ByteArray).extract 4 5 = ⟨#[0]⟩ := by kernel_rfl
  have x3 : (⟨#[148, 4, 0, 0, 0]⟩ : ByteArray).extract 2 4 = ⟨#[0, 0]⟩ := by kernel_rfl
  have y3 : optsS ⟨#[0]⟩ = some [] := by
    rw [optsS, dif_pos (by decide), if_pos (by decide)]
  have y2 : optsS ⟨#[148, 4, 0, 0, 0]⟩ = some [((148 : Int), (⟨#[0, 0]⟩ : ByteArray))] := by
    rw [optsS, dif_pos (by decide), if_neg (by decide), if_neg (by decide), dif_pos (by decide), if_neg (by decide)]
    show (optsS ((⟨#[148, 4, 0, 0, 0]⟩ : ByteArray).extract 4 5)).map _ = _
    rw [x2, y3]
    show some [((148 : Int), (⟨#[148, 4, 0, 0, 0]⟩ : ByteArray).extract 2 4)] = _
    rw [x3]
  unfold exS
  rw [optsS, dif_pos (by decide), if_neg (by decide), if_neg (by decide), dif_pos (by decide), if_neg (by decide)]
  show (optsS ((⟨#[7, 3, 4, 148, 4, 0, 0, 0]⟩ : ByteArray).extract 3 8)).map _ = _
  rw [x1, y2]
  show some [((7 : Int), (⟨#[7, 3, 4, 148, 4, 0, 0, 0]⟩ : ByteArray).extract 2 3), ((148 : Int), (⟨#[0, 0]⟩ : ByteArray))] = _
  rw [x0]
theorem ex_later : laterV exS = .tuple #[.string ⟨#[148, 4, 0, 0]⟩, .int .i64 0] := by
  unfold laterV laterL
  rw [ex_opts]
  kernel_rfl
theorem ex_cuts : cuts 820 0 0 1480 1481 0 = [(0, 800), (800, 680)] := by
  rw [cuts_more (by decide), cuts_one (by decide)]
  rfl
theorem ex_split : ∃ x0 x1 : Pkt × List Int, splitR manyP (List.replicate 1480 0) 820 = (0, [x0, x1]) ∧ x0.2.length = 800 ∧ x0.1.mf = true ∧ x1.1.off = 800 ∧ x1.2.length = 680 ∧ x1.1.mf = false := by
  refine ⟨piece manyP (strOfNums []) (List.replicate 1480 0) (0, 800), piece manyP (strOfNums []) (List.replicate 1480 0) (800, 680), ?_, ?_, ?_, rfl, ?_, ?_⟩
  · unfold splitR
    rw [List.length_replicate, if_neg (by rw [chk_ok many_valid (by decide)]; exact fun z => z rfl), if_neg (by decide), if_neg (by decide), if_neg (by decide), show manyP.opt = ⟨#[]⟩ from rfl, later_none]
    show (if (cuts 820 0 0 1480 1481 0).any _ = true then _ else _) = _
    rw [ex_cuts]
    rw [if_neg (by decide)]
    rfl
  · show (((List.replicate 1480 (0 : Int)).drop 0).take 800).length = 800
    rw [List.length_take, List.length_drop, List.length_replicate]
    rfl
  · show (false || decide (0 + 800 < (List.replicate 1480 (0 : Int)).length)) = true
    rw [List.length_replicate]
    rfl
  · show (((List.replicate 1480 (0 : Int)).drop 800).take 680).length = 680
    rw [List.length_take, List.length_drop, List.length_replicate]
    rfl
  · show (false || decide (800 + 680 < (List.replicate 1480 (0 : Int)).length)) = false
    rw [List.length_replicate]
    rfl
set_option maxHeartbeats 2000000 in
theorem awake_any : AwakeSpec := by
  intro w hg
  obtain ⟨Z, hZ, mk0⟩ := make_z 1480 (by decide)
  have mk : (Instr.makeSlice 22 (.int .i64 1480) (.int .i64 1480)).run Tryd.prog w = .ok (.slice (some ⟨w.heap.size, 0, none⟩) 1480 1480) (w.alloc (.cells Z 5)) := mk0 w
  have hh := Holds.lit w (List.replicate 1480 (0 : Int)) Z hZ (by rw [List.length_replicate]; unfold maxLen; decide) (zero_bytes 1480)
  rw [List.length_replicate] at hh
  have B0 := Lib.hid ((Below.refl w.heap.size w).alloc (Nat.le_refl _) (.cells Z 5))
  have SC := Lib.hid (split_any manyP (some ⟨w.heap.size, 0, none⟩) 1480 1480 _ (List.replicate 1480 (0 : Int)) 820 (w.alloc (.cells Z 5)) (hg.keep ((Below.refl _ _).alloc (Nat.le_refl _) _)) hh (by simp) (by decide) (by decide) (by decide) (by decide))
  have GH : Hid (∀ W, Below w.heap.size w W → Handle W) := Lib.hid fun W hW => hg.keep hW
  have LC := Lib.hid (fun W hW => later_any exS W (GH.out W hW) (by decide))
  rw [ex_later] at LC
  obtain ⟨x0, x1, hx, z1, z2, z3, z4, z5⟩ := ex_split
  rw [hx] at SC
  unfold exS at LC
  clear mk0 hh hZ hx hg
  unfold val at SC
  go_enter Tryd.func8, Tryd.ntmps8
  go_wp2_with fail
  refine SC.out.mono ?_
  rintro e w1 ⟨⟨v, rfl, hp⟩, hb⟩
  have B1 := Lib.hid (B0.out.trans (hb.mono B0.out.size))
  obtain ⟨A, c, rfl, hat⟩ := hp
  obtain ⟨b, o, A0, c0, rfl, _, h0, _⟩ := hat 0 x0 rfl
  obtain ⟨b', o', A1, c1, e1, _, h1, _⟩ := hat 1 x1 rfl
  injection e1 with e1
  injection e1 with e1 e2
  subst e1 e2
  have H0 := Lib.hid h0
  have H1 := Lib.hid h1
  clear hat h0 h1 hb SC
  go_wp2_with fail
  refine (LC.out w1 B1.out).mono ?_
  rintro e w2 ⟨rfl, hb⟩
  have B2 := Lib.hid (B1.out.trans (hb.mono B1.out.size))
  have a10 : w2.cell? ⟨b, o + 10, none⟩ = some (.slice A0 800 c0) := keep_cell (by
    have := H0.out 10 _ rfl
    rw [z1, Nat.zero_mul, Nat.add_zero] at this
    exact this) hb
  have a5 : w2.cell? ⟨b, o + 5, none⟩ = some (.bool true) := keep_cell (by
    have := H0.out 5 _ rfl
    rw [z2, Nat.zero_mul, Nat.add_zero] at this
    exact this) hb
  have b6 : w2.cell? ⟨b, o + 11 + 6, none⟩ = some (.int .i64 800) := keep_cell (by
    have := H1.out 6 _ rfl
    rw [z3, Nat.one_mul] at this
    exact this) hb
  have b10 : w2.cell? ⟨b, o + 11 + 10, none⟩ = some (.slice A1 680 c1) := keep_cell (by
    have := H1.out 10 _ rfl
    rw [z4, Nat.one_mul] at this
    exact this) hb
  have b5 : w2.cell? ⟨b, o + 11 + 5, none⟩ = some (.bool false) := keep_cell (by
    have := H1.out 5 _ rfl
    rw [z5, Nat.one_mul] at this
    exact this) hb
  clear hb B1 LC z1 z2 z3 z4 z5
  go_wp2_with fail
  go_ret
  exact ⟨rfl, B2.out⟩
end Go.Proofs.YtibfdacgdffpiaaDoor.SplA
