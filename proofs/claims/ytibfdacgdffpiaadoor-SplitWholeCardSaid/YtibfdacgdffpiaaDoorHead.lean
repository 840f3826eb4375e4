/- Contracts of headOf and header. -/
import Derived.Test.YtibfdacgdffpiaaDoorLayAll
import Derived.Test.YtibfdacgdffpiaaDoorCheck
namespace Go.Proofs.YtibfdacgdffpiaaDoor.Head
open Go.RowKit Go.Proofs.YtibfdacgdffpiaaDoor.Sums Go.Proofs.YtibfdacgdffpiaaDoor.Mem Go.Proofs.YtibfdacgdffpiaaDoor.Blk Go.Proofs.YtibfdacgdffpiaaDoor.Bits Go.Proofs.YtibfdacgdffpiaaDoor.Pkt Go.Proofs.YtibfdacgdffpiaaDoor.Check Go.Proofs.YtibfdacgdffpiaaDoor.Lay

set_option maxHeartbeats 1000000 in
theorem headOf_any (tos id ttl proto off : Int) (df mf : Bool) (src dst opt : ByteArray) (A : Option Addr) (n c : Nat) (w : World) (h : Valid ⟨tos, id, ttl, proto, df, mf, off, src, dst, opt⟩) (hn : n ≤ 1048576) :
    Calls Tryd.prog 16 #[.agg #[.int .i64 tos, .int .i64 id, .int .i64 ttl, .int .i64 proto, .bool df, .bool mf, .int .i64 off, .string src, .string dst, .string opt, .slice A n c]] w fun e w' =>
      e = .returned (.agg #[.int .i64 (Pkt.first ⟨tos, id, ttl, proto, df, mf, off, src, dst, opt⟩), .int .i64 tos, .int .i64 (Pkt.total ⟨tos, id, ttl, proto, df, mf, off, src, dst, opt⟩ n), .int .i64 id, .int .i64 (Pkt.place ⟨tos, id, ttl, proto, df, mf, off, src, dst, opt⟩), .int .i64 ttl, .int .i64 proto, .int .i64 0]) ∧ Below w.heap.size w w' := by
  obtain ⟨t0, t1, l0, l1, p0, p1, i0, i1, o0, o1, o8, s, d, z, z4⟩ := h
  simp only at *
  have e1 : (20 + (opt.size : Int)).tdiv 4 = 5 + (opt.size : Int) / 4 := by rw [Int.tdiv_eq_ediv_of_nonneg (by omega)]; omega
  have e2 : bits .or .i64 64 (5 + (opt.size : Int) / 4) = 64 + (5 + (opt.size : Int) / 4) := or_first (by omega) (by omega)
  have e3 : off.tdiv 8 = off / 8 := Int.tdiv_eq_ediv_of_nonneg o0
  have e4 : bits .or .i64 (off / 8) 16384 = off / 8 + 16384 := or_df (by omega) (by omega)
  have e5 : bits .or .i64 (off / 8) 8192 = off / 8 + 8192 := or_mf (by omega) (by omega)
  have e6 : bits .or .i64 (off / 8 + 16384) 8192 = off / 8 + 16384 + 8192 := or_mf2 (by omega) (by omega)
  have f1 : Pkt.first ⟨tos, id, ttl, proto, df, mf, off, src, dst, opt⟩ = 64 + (5 + (opt.size : Int) / 4) := rfl
  have f2 : Pkt.total ⟨tos, id, ttl, proto, df, mf, off, src, dst, opt⟩ n = 20 + (opt.size : Int) + n := rfl
  have f3 : Pkt.place ⟨tos, id, ttl, proto, df, mf, off, src, dst, opt⟩ = off / 8 + (if df then 16384 else 0) + (if mf then 8192 else 0) := rfl
  rw [f1, f2, f3]
  clear f1 f2 f3
  cases df <;> cases mf
  all_goals simp only [Bool.false_eq_true, if_false, if_true, Int.add_zero]
  · go_enter Tryd.func16, Tryd.ntmps16
    go_wp2_with fail
    refine bodyPost_ret (v := .agg #[.int .i64 (64 + (5 + (opt.size : Int) / 4)), .int .i64 tos, .int .i64 (20 + (opt.size : Int) + n), .int .i64 id, .int .i64 (off / 8), .int .i64 ttl, .int .i64 proto, .int .i64 0]) (by simp [results, Tryd.results16, go_sem]) rfl ?_
    refine ⟨rfl, ?_⟩
    exact (((Below.refl _ _).alloc (Nat.le_refl _) _).alloc (by simp) _).alloc (by simp; omega) _
  · go_enter Tryd.func16, Tryd.ntmps16
    go_wp2_with fail
    refine bodyPost_ret (v := .agg #[.int .i64 (64 + (5 + (opt.size : Int) / 4)), .int .i64 tos, .int .i64 (20 + (opt.size : Int) + n), .int .i64 id, .int .i64 (off / 8 + 8192), .int .i64 ttl, .int .i64 proto, .int .i64 0]) (by simp [results, Tryd.results16, go_sem]) rfl ?_
    refine ⟨rfl, ?_⟩
    exact (((Below.refl _ _).alloc (Nat.le_refl _) _).alloc (by simp) _).alloc (by simp; omega) _
  · go_enter Tryd.func16, Tryd.ntmps16
    go_wp2_with fail
    refine bodyPost_ret (v := .agg #[.int .i64 (64 + (5 + (opt.size : Int) / 4)), .int .i64 tos, .int .i64 (20 + (opt.size : Int) + n), .int .i64 id, .int .i64 (off / 8 + 16384), .int .i64 ttl, .int .i64 proto, .int .i64 0]) (by simp [results, Tryd.results16, go_sem]) rfl ?_
    refine ⟨rfl, ?_⟩
    exact (((Below.refl _ _).alloc (Nat.le_refl _) _).alloc (by simp) _).alloc (by simp; omega) _
  · go_enter Tryd.func16, Tryd.ntmps16
    go_wp2_with fail
    refine bodyPost_ret (v := .agg #[.int .i64 (64 + (5 + (opt.size : Int) / 4)), .int .i64 tos, .int .i64 (20 + (opt.size : Int) + n), .int .i64 id, .int .i64 (off / 8 + 16384 + 8192), .int .i64 ttl, .int .i64 proto, .int .i64 0]) (by simp [results, Tryd.results16, go_sem]) rfl ?_
    refine ⟨rfl, ?_⟩
    exact (((Below.refl _ _).alloc (Nat.le_refl _) _).alloc (by simp) _).alloc (by simp; omega) _
end Go.Proofs.YtibfdacgdffpiaaDoor.Head
