/- The law Ip4Heads: the head's sum, what it tells, and another byte in the head. -/
import Derived.Test.YtjhfginopbjldaaDoorBackFacts
import Derived.Test.YtjhfginopbjldaaDoorAwake
import Derived.BigQuiet
import Derived.Test.YtjhfginopbjldaaDoorLoads
set_option linter.unusedVariables false
namespace Go.Proofs.YtjhfginopbjldaaDoor.LawHeads
open Go.RowKit Go.Proofs.YtjhfginopbjldaaDoor.Sums Go.Proofs.YtjhfginopbjldaaDoor.Mem Go.Proofs.YtjhfginopbjldaaDoor.Blk Go.Proofs.YtjhfginopbjldaaDoor.Pkt Go.Proofs.YtjhfginopbjldaaDoor.Check Go.Proofs.YtjhfginopbjldaaDoor.Decode Go.Proofs.YtjhfginopbjldaaDoor.ParseCode Go.Proofs.YtjhfginopbjldaaDoor.BytesCode Go.Proofs.YtjhfginopbjldaaDoor.Errno Go.Proofs.YtjhfginopbjldaaDoor.Same Go.Proofs.YtjhfginopbjldaaDoor.Back Go.Proofs.YtjhfginopbjldaaDoor.Awake

theorem few_true {p : Pkt} {n : Nat} (h : fewB p n = true) : p.src.size + p.dst.size + p.opt.size ≤ 300 ∧ n < 66000 := by
  unfold fewB at h
  simp only [Bool.and_eq_true, Bool.or_eq_true, decide_eq_true_eq] at h
  omega

/-- What a law gives: true, and what was there is there. -/
def Yes (w : World) (e : Ending) (w' : World) : Prop := e = .returned (.bool true) ∧ Below w.heap.size w w'

theorem heads_no (p : Pkt) (A : Option Addr) (n c : Nat) (at_ x : Int) (w : World) (z1 : p.src.size ≤ 140737488355328) (z2 : p.dst.size ≤ 140737488355328) (z3 : p.opt.size ≤ 140737488355328) (z4 : n ≤ 140737488355328) (hf : fewB p n = false) :
    Calls Tryd.prog 6 #[val p (.slice A n c), .int .i64 at_, .int .u8 x] w (Yes w) := by
  have F := Lib.hid (fun W => few_any p A n c W z1 z2 z3 z4)
  rw [hf] at F
  have B0 := Lib.hid ((Below.refl w.heap.size w).alloc (Nat.le_refl _) (.cells #[.int .i64 p.tos, .int .i64 p.id, .int .i64 p.ttl, .int .i64 p.proto, .bool p.df, .bool p.mf, .int .i64 p.off, .string p.src, .string p.dst, .string p.opt, .slice A n c] 24))
  unfold val at *
  go_enter Tryd.func6, Tryd.ntmps6
  go_wp2_with fail
  refine (F.out _).mono ?_
  rintro e w1 ⟨rfl, hb⟩
  have B1 := Lib.hid (B0.out.trans (hb.mono B0.out.size))
  clear hb
  go_wp2_with fail
  go_ret
  exact ⟨rfl, B1.out⟩

set_option maxHeartbeats 2000000 in
set_option maxRecDepth 100000 in
theorem heads_err (p : Pkt) (A : Option Addr) (n c : Nat) (at_ x : Int) (w : World) (hg : Handle w) (hf : fewB p n = true) (hk : p.chk n ≠ 0) :
    Calls Tryd.prog 6 #[val p (.slice A n c), .int .i64 at_, .int .u8 x] w (Yes w) := by
  have fw := few_true hf
  have F := Lib.hid (fun W => few_any p A n c W (by omega) (by omega) (by omega) (by omega))
  rw [hf] at F
  have E := Lib.hid (fun W hW => bytes_err p A n c W hW (by omega) (by omega) hk)
  have C := Lib.hid (fun W hW => check_code p A n c W hW (by omega) (by omega))
  have B0 := Lib.hid ((Below.refl w.heap.size w).alloc (Nat.le_refl _) (.cells #[.int .i64 p.tos, .int .i64 p.id, .int .i64 p.ttl, .int .i64 p.proto, .bool p.df, .bool p.mf, .int .i64 p.off, .string p.src, .string p.dst, .string p.opt, .slice A n c] 24))
  have P0 := Lib.hid (Blk.new w 24 #[.int .i64 p.tos, .int .i64 p.id, .int .i64 p.ttl, .int .i64 p.proto, .bool p.df, .bool p.mf, .int .i64 p.off, .string p.src, .string p.dst, .string p.opt, .slice A n c])
  have hk' : (p.chk n != 0) = true := by simpa using hk
  have G0 := Lib.hid hg
  clear hg hk fw hf
  unfold val at *
  go_enter Tryd.func6, Tryd.ntmps6
  go_wp2_with fail
  refine (F.out _).mono ?_
  rintro e w1 ⟨rfl, hb⟩
  have B1 := Lib.hid (B0.out.trans (hb.mono B0.out.size))
  have P1 := Lib.hid (P0.out.below hb P0.out.lt)
  clear hb
  go_wp2_with (first
    | (refine wpList_load_row rfl _ _ rfl w.heap.size rfl 24 #[.int .i64 p.tos, .int .i64 p.id, .int .i64 p.ttl, .int .i64 p.proto, .bool p.df, .bool p.mf, .int .i64 p.off, .string p.src, .string p.dst, .string p.opt, .slice A n c] (0, 0) _ P1.out (Tryd.underlying24) rfl (by kernel_rfl) ?_))
  refine (E.out _ (G0.out.keep B1.out)).mono ?_
  rintro e w2 ⟨rfl, hb⟩
  have B2 := Lib.hid (B1.out.trans (hb.mono B1.out.size))
  have P2 := Lib.hid (P1.out.below hb P1.out.lt)
  clear hb
  go_wp2_with fail
  refine (awake_any w2 (G0.out.keep B2.out)).mono ?_
  rintro e w3 ⟨rfl, hb⟩
  have B3 := Lib.hid (B2.out.trans (hb.mono B2.out.size))
  have P3 := Lib.hid (P2.out.below hb P2.out.lt)
  clear hb
  go_wp2_with (first
    | (refine Loads.wpList_load_w rfl _ _ rfl w.heap.size rfl 24 #[.int .i64 p.tos, .int .i64 p.id, .int .i64 p.ttl, .int .i64 p.proto, .bool p.df, .bool p.mf, .int .i64 p.off, .string p.src, .string p.dst, .string p.opt, .slice A n c] (0, 0) _ P3.out (Tryd.underlying24) rfl (by kernel_rfl) ?_))
  refine (C.out _ (G0.out.keep B3.out)).mono ?_
  rintro e w4 ⟨rfl, hb⟩
  have B4 := Lib.hid (B3.out.trans (hb.mono B3.out.size))
  clear hb
  go_wp2_with fail
  go_ret
  exact ⟨rfl, B4.out⟩
end Go.Proofs.YtjhfginopbjldaaDoor.LawHeads
