/- Parse of the code: any bytes. -/
import Derived.Test.YtjhfginopbjldaaDoorParseCode
set_option linter.unusedVariables false
namespace Go.Proofs.YtjhfginopbjldaaDoor.ParseCode
open Go.RowKit Go.Proofs.YtjhfginopbjldaaDoor.Head Go.Proofs.YtjhfginopbjldaaDoor.Sums Go.Proofs.YtjhfginopbjldaaDoor.Mem Go.Proofs.YtjhfginopbjldaaDoor.Blk Go.Proofs.YtjhfginopbjldaaDoor.Bits Go.Proofs.YtjhfginopbjldaaDoor.Pkt Go.Proofs.YtjhfginopbjldaaDoor.Check Go.Proofs.YtjhfginopbjldaaDoor.Errno Go.Proofs.YtjhfginopbjldaaDoor.Decode

/-- What decode tells of bytes that are refused. -/
def Bad (w : World) (k : Int) (e : Ending) (w' : World) : Prop :=
  (∃ a0 a1 a2 a3 a4 a5 a6 a7 s, e = .returned (.tuple #[.agg #[.int .i64 a0, .int .i64 a1, .int .i64 a2, .int .i64 a3, .int .i64 a4, .int .i64 a5, .int .i64 a6, .int .i64 a7], .iface 71 (.agg #[.string s, .iface 27 (.int .i64 k)])])) ∧ Below w.heap.size w w'

theorem parse_bad (D : Value) (k : Int) (w : World) (hg : Handle w) (hD : ∀ W, Below w.heap.size w W → Calls Tryd.prog 31 #[D] W (Bad W k)) :
    Calls Tryd.prog 16 #[D] w fun e w' => e = .returned (.tuple #[val Pkt.zero (.slice none 0 0), .int .i64 k]) ∧ Below w.heap.size w w' := by
  have B0 : Below w.heap.size w (w.alloc (.cells #[.int .i64 0, .int .i64 0, .int .i64 0, .int .i64 0, .bool false, .bool false, .int .i64 0, .string ⟨#[]⟩, .string ⟨#[]⟩, .string ⟨#[]⟩, .slice none 0 0] 24)) := (Below.refl _ _).alloc (Nat.le_refl _) _
  have DC := Lib.hid (hD _ B0)
  have N0 := Lib.hid (Blk.new w 24 #[.int .i64 0, .int .i64 0, .int .i64 0, .int .i64 0, .bool false, .bool false, .int .i64 0, .string ⟨#[]⟩, .string ⟨#[]⟩, .string ⟨#[]⟩, .slice none 0 0])
  have b0 := Lib.hid B0
  clear hD B0
  go_enter Tryd.func16, Tryd.ntmps16
  go_wp2_with fail
  refine DC.out.mono ?_
  rintro e w1 ⟨⟨a0, a1, a2, a3, a4, a5, a6, a7, s, rfl⟩, bel⟩
  have B1 := Lib.hid (b0.out.trans (bel.mono (by simp)))
  have N1 := Lib.hid (N0.out.below bel (by simp))
  clear bel
  go_wp2_with fail
  have B2 := Lib.hid (B1.out.alloc B1.out.size (.cells #[.int .i64 a0, .int .i64 a1, .int .i64 a2, .int .i64 a3, .int .i64 a4, .int .i64 a5, .int .i64 a6, .int .i64 a7] 49))
  have N2 := Lib.hid (N1.out.alloc (.cells #[.int .i64 a0, .int .i64 a1, .int .i64 a2, .int .i64 a3, .int .i64 a4, .int .i64 a5, .int .i64 a6, .int .i64 a7] 49))
  refine (errno_fault s k _ (hg.keep B2.out)).mono ?_
  rintro e w3 ⟨rfl, bel⟩
  have B3 := Lib.hid (B2.out.trans (bel.mono B2.out.size))
  have N3 := Lib.hid (N2.out.below bel N2.out.lt)
  clear bel
  go_wp2_with (first
    | (refine wpList_store_row rfl _ _ _ rfl w.heap.size #[.int .i64 0, .int .i64 0, .int .i64 0, .int .i64 0, .bool false, .bool false, .int .i64 0, .string ⟨#[]⟩, .string ⟨#[]⟩, .string ⟨#[]⟩, .slice none 0 0] rfl rfl 24 _ N3.out (by kernel_rfl) rfl (one11 _ _ _ _ _ _ _ _ _ _ _ _ _) ?_))
  exact bodyPost_ret (results_pair rfl _ _ w.heap.size 24 _ (0, 0) _ _ rfl rfl (setRow_heap _ _ _ _ _ _ N3.out) Tryd.underlying24 rfl (by kernel_rfl)) rfl ⟨rfl, below_setRow B3.out (Nat.le_refl _) _⟩

/-- Where the data begins; the packet of some bytes. -/
def hdOf (l : List Int) : Nat := (l.getD 0 0 % 16 * 4).toNat
def pkOf (l : List Int) : Pkt := ppkt (l.getD 1 0) (256 * l.getD 4 0 + l.getD 5 0) (256 * l.getD 6 0 + l.getD 7 0) (l.getD 8 0) (l.getD 9 0) l (hdOf l)

theorem perr_good {l : List Int} (h : perr l = 0) : 20 ≤ l.length ∧ l.getD 0 0 / 16 = 4 ∧ 20 ≤ l.getD 0 0 % 16 * 4 ∧ l.getD 0 0 % 16 * 4 ≤ (l.length : Int) ∧ 256 * l.getD 2 0 + l.getD 3 0 = (l.length : Int) ∧ 256 * l.getD 6 0 + l.getD 7 0 < 32768 ∧ sums 0 (l.take (hdOf l)) = 65535 := by
  unfold perr at h
  unfold hdOf
  repeat' split at h
  all_goals first
    | (exact absurd h (by decide))
    | (refine ⟨by omega, by omega, by omega, by omega, by omega, by omega, ?_⟩; rename_i q; exact Classical.not_not.1 q)

end Go.Proofs.YtjhfginopbjldaaDoor.ParseCode
