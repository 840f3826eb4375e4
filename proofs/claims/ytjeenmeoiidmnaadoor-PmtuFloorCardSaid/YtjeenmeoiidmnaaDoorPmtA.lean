/- The chapter's examples. -/
import Derived.Test.YtjeenmeoiidmnaaDoorPmt3
import Derived.Test.YtjeenmeoiidmnaaDoorPmt5
set_option linter.unusedVariables false
set_option maxRecDepth 100000
namespace Go.Proofs.YtjeenmeoiidmnaaDoor.PmtA
open Go.RowKit Go.Proofs.YtjeenmeoiidmnaaDoor.Sums Go.Proofs.YtjeenmeoiidmnaaDoor.Mem Go.Proofs.YtjeenmeoiidmnaaDoor.Blk Go.Proofs.YtjeenmeoiidmnaaDoor.RowN Go.Proofs.YtjeenmeoiidmnaaDoor.MapK Go.Proofs.YtjeenmeoiidmnaaDoor.Obj Go.Proofs.YtjeenmeoiidmnaaDoor.PmtM Go.Proofs.YtjeenmeoiidmnaaDoor.PmtD Go.Proofs.YtjeenmeoiidmnaaDoor.Pmt1 Go.Proofs.YtjeenmeoiidmnaaDoor.Pmt3 Go.Proofs.YtjeenmeoiidmnaaDoor.Pmt5

abbrev one : ByteArray := ⟨#[10, 0, 0, 1]⟩
theorem e1 : tellA 0 one 1400 [] = (1400, 0) ∧ tellL 0 one 1400 [] = [(one, (1400, 0))] := ⟨by kernel_rfl, by kernel_rfl⟩
theorem e2 : askA 1 one 1500 [(one, (1400, 0))] = (1400, 0) := by kernel_rfl
theorem e3 : tellA 1 one 100 [(one, (1400, 0))] = (576, 0) ∧ tellL 1 one 100 [(one, (1400, 0))] = [(one, (576, 1))] := ⟨by kernel_rfl, by kernel_rfl⟩
theorem e4 : askA 601 one 1500 [(one, (576, 1))] = (1500, 0) := by kernel_rfl
theorem e5 : outer 0 false = 56 ∧ inner 1500 false true = 1446 ∧ inner 1500 false false = 1466 := ⟨by kernel_rfl, by kernel_rfl, by kernel_rfl⟩
set_option maxHeartbeats 4000000 in
theorem awake_any (w : World) (hT : Tab w) : Calls Tryd.prog 15 #[] w fun e w' => e = .returned (.bool true) ∧ Below w.heap.size w w' := by
  have N0 := Lib.hid (new_c (fun k => k < w.heap.size) w (fun k hk => hk))
  have A1 : Hid (∀ g W, PcAt (fun k => k < w.heap.size) W g [] → Calls Tryd.prog 12 #[.pointer (some ⟨g, 0, none⟩), .int .i64 0, .string ⟨#[10, 0, 0, 1]⟩, .int .i64 1400] W fun e w' => (e = .returned (.tuple #[.int .i64 1400, .int .i64 0]) ∧ PcAt (fun k => k < w.heap.size) w' g [(one, (1400, 0))]) ∧ Keep (fun k => k < w.heap.size) W w') := Lib.hid fun g W h => by
    have := tell_c _ g _ 0 one 1400 W h (by omega)
    rwa [e1.1, e1.2] at this
  have A2 : Hid (∀ g W, PcAt (fun k => k < w.heap.size) W g [(one, (1400, 0))] → Calls Tryd.prog 10 #[.pointer (some ⟨g, 0, none⟩), .int .i64 1, .string ⟨#[10, 0, 0, 1]⟩, .int .i64 1500] W fun e w' => e = .returned (.tuple #[.int .i64 1400, .int .i64 0]) ∧ Below W.heap.size W w') := Lib.hid fun g W h => by
    have := get_c _ g _ 1 one 1500 W h (by omega) (by omega)
    rwa [e2] at this
  have A3 : Hid (∀ g W, PcAt (fun k => k < w.heap.size) W g [(one, (1400, 0))] → Calls Tryd.prog 12 #[.pointer (some ⟨g, 0, none⟩), .int .i64 1, .string ⟨#[10, 0, 0, 1]⟩, .int .i64 100] W fun e w' => (e = .returned (.tuple #[.int .i64 576, .int .i64 0]) ∧ PcAt (fun k => k < w.heap.size) w' g [(one, (576, 1))]) ∧ Keep (fun k => k < w.heap.size) W w') := Lib.hid fun g W h => by
    have := tell_c _ g _ 1 one 100 W h (by omega)
    rwa [e3.1, e3.2] at this
  have A4 : Hid (∀ g W, PcAt (fun k => k < w.heap.size) W g [(one, (576, 1))] → Calls Tryd.prog 10 #[.pointer (some ⟨g, 0, none⟩), .int .i64 601, .string ⟨#[10, 0, 0, 1]⟩, .int .i64 1500] W fun e w' => e = .returned (.tuple #[.int .i64 1500, .int .i64 0]) ∧ Below W.heap.size W w') := Lib.hid fun g W h => by
    have := get_c _ g _ 601 one 1500 W h (by omega) (by omega)
    rwa [e4] at this
  have A5 : Hid (∀ W, Tab W → Calls Tryd.prog 16 #[.int .i64 0, .bool false, .bool true] W fun e w' => e = .returned (.int .i64 56) ∧ W = w') := Lib.hid fun W h => by
    have := outer_c 0 false true (by omega) W h
    rwa [e5.1] at this
  have A6 : Hid (∀ W, Tab W → Calls Tryd.prog 18 #[.int .i64 1500, .bool false, .bool true] W fun e w' => e = .returned (.int .i64 1446) ∧ Below W.heap.size W w') := Lib.hid fun W h => by
    have := inner_c 1500 false true W (by omega) h
    rwa [e5.2.1] at this
  have A7 : Hid (∀ W, Tab W → Calls Tryd.prog 18 #[.int .i64 1500, .bool false, .bool false] W fun e w' => e = .returned (.int .i64 1466) ∧ Below W.heap.size W w') := Lib.hid fun W h => by
    have := inner_c 1500 false false W (by omega) h
    rwa [e5.2.2] at this
  have T0 := Lib.hid hT
  clear hT
  go_enter Tryd.func15, Tryd.ntmps15
  go_wp2_with fail
  refine N0.out.mono ?_
  rintro e w1 ⟨⟨g, rfl, hp⟩, hb⟩
  have P1 := Lib.hid hp
  have B1 := Lib.hid hb
  clear hp hb N0
  go_wp2_with fail
  refine (A1.out g w1 P1.out).mono ?_
  rintro e w2 ⟨⟨rfl, hp⟩, hk⟩
  have P2 := Lib.hid hp
  have B2 := Lib.hid (B1.out.trans (hk.below B1.out.size fun k hk => hk))
  clear hp hk P1 B1 A1
  go_wp2_with fail
  refine (A2.out g w2 P2.out).mono ?_
  rintro e w3 ⟨rfl, hb⟩
  have P3 := Lib.hid (P2.out.below hb)
  have B3 := Lib.hid (B2.out.trans (hb.mono B2.out.size))
  clear hb P2 B2 A2
  go_wp2_with fail
  refine (A3.out g w3 P3.out).mono ?_
  rintro e w4 ⟨⟨rfl, hp⟩, hk⟩
  have P4 := Lib.hid hp
  have B4 := Lib.hid (B3.out.trans (hk.below B3.out.size fun k hk => hk))
  clear hp hk P3 B3 A3
  go_wp2_with fail
  refine (A4.out g w4 P4.out).mono ?_
  rintro e w5 ⟨rfl, hb⟩
  have B5 := Lib.hid (B4.out.trans (hb.mono B4.out.size))
  clear hb P4 B4 A4
  go_wp2_with fail
  refine (A5.out w5 (T0.out.up B5.out (Nat.le_refl _))).mono ?_
  rintro e w6 ⟨rfl, rfl⟩
  clear A5
  go_wp2_with fail
  refine (A6.out w5 (T0.out.up B5.out (Nat.le_refl _))).mono ?_
  rintro e w7 ⟨rfl, hb⟩
  have B7 := Lib.hid (B5.out.trans (hb.mono B5.out.size))
  clear hb B5 A6
  go_wp2_with fail
  refine (A7.out w7 (T0.out.up B7.out (Nat.le_refl _))).mono ?_
  rintro e w8 ⟨rfl, hb⟩
  have B8 := Lib.hid (B7.out.trans (hb.mono B7.out.size))
  clear hb B7 A7
  go_wp2_with fail
  go_ret
  exact ⟨rfl, B8.out⟩
end Go.Proofs.YtjeenmeoiidmnaaDoor.PmtA
