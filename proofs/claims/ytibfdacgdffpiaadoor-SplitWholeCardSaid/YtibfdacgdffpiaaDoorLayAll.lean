/- A head's numbers are laid down: bytes. -/
import Derived.Test.YtibfdacgdffpiaaDoorLayWalk
import Derived.Laws.MakeOwn
namespace Go.Proofs.YtibfdacgdffpiaaDoor.Lay
open Go.RowKit Go.Proofs.YtibfdacgdffpiaaDoor.Sums Go.Proofs.YtibfdacgdffpiaaDoor.Mem Go.Proofs.YtibfdacgdffpiaaDoor.Blk Go.Proofs.YtibfdacgdffpiaaDoor.Bits Go.Proofs.YtibfdacgdffpiaaDoor.Pkt

def made60 : Array Value := madeCells (Value.int .u8 0).cells 60
theorem made60_size : made60.size = 60 := by decide +kernel
theorem make60 (w : World) : (Instr.makeSlice 22 (.int .i64 0) (.int .i64 60)).run Tryd.prog w = .ok (.slice (some ⟨w.heap.size, 0, none⟩) 0 60) (w.alloc (.cells made60 5)) := by
  obtain ⟨i, hi, hz, hsz, hby⟩ := info_parts byte_info
  have hr := run_make (P := Tryd.prog) w 22 5 i (.int .u8 0) Tryd.underlying22 hi hz .i64 .i64 0 60 (by omega) (by omega) (by rw [hby]; omega) (by omega)
  rw [hsz] at hr
  exact hr

theorem made_own (w : World) (base : Nat) (hb : base ≤ w.heap.size) : Owns (w.alloc (.cells made60 5)) base (.slice (some ⟨w.heap.size, 0, none⟩) 0 60) 0 [] :=
  ⟨rfl, fun _ h => (by cases h), .inr ⟨w.heap.size, 60, made60, (0, 0), rfl, hb, heap_alloc_new w _, .inl rfl, by omega, by simp only [maxLen]; omega, made60_size, by simp⟩⟩

theorem bytes_any (g : Nat) (z0 z1 z2 z3 z4 z5 z6 z7 : Int) (w : World) (t : TypeId) (hg : Blk w g t #[.int .i64 z0, .int .i64 z1, .int .i64 z2, .int .i64 z3, .int .i64 z4, .int .i64 z5, .int .i64 z6, .int .i64 z7])
    (l0 : 0 ≤ z0) (h0 : z0 ≤ 255) (l1 : 0 ≤ z1) (h1 : z1 ≤ 255) (l2 : 0 ≤ z2) (h2 : z2 ≤ 65535) (l3 : 0 ≤ z3) (h3 : z3 ≤ 65535) (l4 : 0 ≤ z4) (h4 : z4 ≤ 65535) (l5 : 0 ≤ z5) (h5 : z5 ≤ 255) (l6 : 0 ≤ z6) (h6 : z6 ≤ 255) (l7 : 0 ≤ z7) (h7 : z7 ≤ 65535) :
    Calls Tryd.prog 26 #[.pointer (some ⟨g, 0, none⟩)] w fun e w' => ∃ v, e = .returned v ∧ Owns w' w.heap.size v 12 (numsOf z0 z1 z2 z3 z4 z5 z6 z7) ∧ Below w.heap.size w w' := by
  have hlt := hg.lt
  have mk := make60
  have W := Lib.hid (walk_lay g (w.heap.size + 1) w.heap.size (.slice (some ⟨w.heap.size, 0, none⟩) 0 60) z0 z1 z2 z3 z4 z5 z6 z7 ((w.alloc (.cells made60 5)).alloc (.cells #[.slice (some ⟨w.heap.size, 0, none⟩) 0 60] 22)) t ((hg.alloc _).alloc _)
    (by simpa using Blk.new (w.alloc (.cells made60 5)) 22 #[.slice (some ⟨w.heap.size, 0, none⟩) 0 60]) ((made_own w w.heap.size (Nat.le_refl _)).alloc _) l0 h0 l1 h1 l2 h2 l3 h3 l4 h4 l5 h5 l6 h6 l7 h7 (by omega) hlt)
  have B := Lib.hid (((Below.refl w.heap.size w).alloc (Nat.le_refl _) (.cells made60 5)).alloc (by simp) (.cells #[.slice (some ⟨w.heap.size, 0, none⟩) 0 60] 22))
  clear hg
  go_enter Tryd.func26, Tryd.ntmps26
  go_wp2_with fail
  refine W.out.mono ?_
  rintro e w1 ⟨rfl, v, q1, o1, b1⟩
  have qc1 : w1.cell? ⟨w.heap.size + 1, 0, none⟩ = some v := (q1.cell 0).trans rfl
  have O1 := Lib.hid o1
  have B1 := Lib.hid (B.out.trans b1)
  obtain ⟨A1, c1, hv, _⟩ := o1.slice
  subst hv
  clear q1 o1 b1
  go_wp2_with fail
  go_ret
  exact ⟨_, rfl, O1.out, B1.out⟩
end Go.Proofs.YtibfdacgdffpiaaDoor.Lay
