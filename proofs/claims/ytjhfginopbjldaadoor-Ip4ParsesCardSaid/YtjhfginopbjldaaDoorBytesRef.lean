/- The contract of the document's Bytes. -/
import Derived.Test.YtjhfginopbjldaaDoorLawBack
import Derived.Test.YtjhfginopbjldaaDoorTwo
import Derived.Test.YtjhfginopbjldaaDoorLawOptions
set_option linter.unusedVariables false
namespace Go.Proofs.YtjhfginopbjldaaDoor.BytesRef
open Go.RowKit Go.Proofs.YtjhfginopbjldaaDoor.Sums Go.Proofs.YtjhfginopbjldaaDoor.Mem Go.Proofs.YtjhfginopbjldaaDoor.Blk Go.Proofs.YtjhfginopbjldaaDoor.Pkt Go.Proofs.YtjhfginopbjldaaDoor.Check Go.Proofs.YtjhfginopbjldaaDoor.Free Go.Proofs.YtjhfginopbjldaaDoor.Steps Go.Proofs.YtjhfginopbjldaaDoor.Two Go.Proofs.YtjhfginopbjldaaDoor.LawOptions Go.Proofs.YtjhfginopbjldaaDoor.Back
theorem fieldA0 (g : Nat) (w : World) : (Instr.fieldAt 24 (.pointer (some ⟨g, 0, none⟩)) 0).run Tryd.prog w = .ok (.pointer (some ⟨g, 0, none⟩)) w := by kernel_rfl
theorem fieldA1 (g : Nat) (w : World) : (Instr.fieldAt 24 (.pointer (some ⟨g, 0, none⟩)) 1).run Tryd.prog w = .ok (.pointer (some ⟨g, 1, none⟩)) w := by kernel_rfl
theorem fieldA2 (g : Nat) (w : World) : (Instr.fieldAt 24 (.pointer (some ⟨g, 0, none⟩)) 2).run Tryd.prog w = .ok (.pointer (some ⟨g, 2, none⟩)) w := by kernel_rfl
theorem fieldA3 (g : Nat) (w : World) : (Instr.fieldAt 24 (.pointer (some ⟨g, 0, none⟩)) 3).run Tryd.prog w = .ok (.pointer (some ⟨g, 3, none⟩)) w := by kernel_rfl
theorem fieldA10 (g : Nat) (w : World) : (Instr.fieldAt 24 (.pointer (some ⟨g, 0, none⟩)) 10).run Tryd.prog w = .ok (.pointer (some ⟨g, 10, none⟩)) w := by kernel_rfl
/-- Bytes that lie somewhere. -/
def Lies (w : World) (v : Value) (k : Nat) (L : List Int) : Prop := ∃ A c, v = .slice A k c ∧ Holds w w.heap.size A k c L
theorem Lies.below {w w2 : World} {v : Value} {k : Nat} {L : List Int} (h : Lies w v k L) (hb : Below w.heap.size w w2) : Lies w2 v k L := by
  obtain ⟨A, c, e, x⟩ := h
  exact ⟨A, c, e, (x.below hb).more hb.size⟩
theorem all_below {w w2 : World} {b : Nat} {rs : List Both.Row} (h : Both.All w w.heap.size b rs) (k : Below w.heap.size w w2) : Both.All w2 w2.heap.size b rs :=
  ⟨Nat.lt_of_lt_of_le h.1 k.size, fun i r hi => ⟨keep_cell (h.2 i r hi).1 k, (((h.2 i r hi).2).below k).more k.size⟩⟩
theorem all_lit (w : World) (rs : List Both.Row) (cs : Array Value) (t : TypeId) (hc : cs.toList = rs.map fun r => Value.slice r.A r.n r.c) (h : ∀ r ∈ rs, Holds w w.heap.size r.A r.n r.c r.l) : Both.All (w.alloc (.cells cs t)) (w.alloc (.cells cs t)).heap.size w.heap.size rs := by
  have := Both.All.lit (Nat.le_refl _) rs cs t hc h
  simpa using this
theorem mem5 {P : Both.Row → Prop} {a b c d e : Both.Row} (h1 : P a) (h2 : P b) (h3 : P c) (h4 : P d) (h5 : P e) : ∀ r ∈ [a, b, c, d, e], P r := by
  intro r h
  simp only [List.mem_cons, List.not_mem_nil, or_false] at h
  rcases h with rfl | rfl | rfl | rfl | rfl
  · exact h1
  · exact h2
  · exact h3
  · exact h4
  · exact h5
theorem run_slice8_2 (w : World) (u v : Int) : (Instr.buildSlice 22 2 #[(0, .int .u8 u), (1, .int .u8 v)]).run Tryd.prog w = .ok (.slice (some ⟨w.heap.size, 0, none⟩) 2 2) (w.alloc (.cells #[.int .u8 u, .int .u8 v] 5)) := by
  kernel_rfl
theorem st_slice8_2 {o : Oper} {a : Act} {w : World} {K : Act → World → Prop} {Q : Exit → Act → World → Prop} (x1 x2 : Operand) (ho : o.op = .buildSlice 22 2 #[(0, x1), (1, x2)]) (u1 u2 : Int) (h1 : a.eval x1 = .int .u8 u1) (h2 : a.eval x2 = .int .u8 u2)
    (a1 : 0 ≤ u1) (b1 : u1 ≤ 255) (a2 : 0 ≤ u2) (b2 : u2 ≤ 255)
    (hK : Lies (w.alloc (.cells #[.int .u8 u1, .int .u8 u2] 5)) (.slice (some ⟨w.heap.size, 0, none⟩) 2 2) 2 [u1, u2] → K (a.put o.dst (.slice (some ⟨w.heap.size, 0, none⟩) 2 2)) (w.alloc (.cells #[.int .u8 u1, .int .u8 u2] 5))) : Step Tryd.prog o a w K Q := by
  constructor
  have hr : (execOp a.eval o).run Tryd.prog w = .ok (.value (.slice (some ⟨w.heap.size, 0, none⟩) 2 2)) (w.alloc (.cells #[.int .u8 u1, .int .u8 u2] 5)) := by
    simp [execOp, ho, h1, h2, run_slice8_2 w, Result.andThen]
  unfold Oper.wp
  rw [hr]
  have HL := Holds.lit w [u1, u2] #[.int .u8 u1, .int .u8 u2] rfl (by simp [maxLen]) (fun y hy => by simp at hy; omega)
  exact hK ⟨_, _, rfl, by simpa using HL⟩
theorem run_slice5 (w : World) (A0 A1 A2 A3 A4 : Option Addr) (n0 n1 n2 n3 n4 c0 c1 c2 c3 c4 : Nat) : (Instr.buildSlice 47 5 #[(0, .slice A0 n0 c0), (1, .slice A1 n1 c1), (2, .slice A2 n2 c2), (3, .slice A3 n3 c3), (4, .slice A4 n4 c4)]).run Tryd.prog w = .ok (.slice (some ⟨w.heap.size, 0, none⟩) 5 5) (w.alloc (.cells #[.slice A0 n0 c0, .slice A1 n1 c1, .slice A2 n2 c2, .slice A3 n3 c3, .slice A4 n4 c4] 22)) := by
  kernel_rfl
theorem st_slice5 {o : Oper} {a : Act} {w : World} {K : Act → World → Prop} {Q : Exit → Act → World → Prop} (x0 x1 x2 x3 x4 : Operand) (ho : o.op = .buildSlice 47 5 #[(0, x0), (1, x1), (2, x2), (3, x3), (4, x4)]) (A0 A1 A2 A3 A4 : Option Addr) (n0 n1 n2 n3 n4 c0 c1 c2 c3 c4 : Nat)
    (h0 : a.eval x0 = .slice A0 n0 c0) (h1 : a.eval x1 = .slice A1 n1 c1) (h2 : a.eval x2 = .slice A2 n2 c2) (h3 : a.eval x3 = .slice A3 n3 c3) (h4 : a.eval x4 = .slice A4 n4 c4)
    (hK : K (a.put o.dst (.slice (some ⟨w.heap.size, 0, none⟩) 5 5)) (w.alloc (.cells #[.slice A0 n0 c0, .slice A1 n1 c1, .slice A2 n2 c2, .slice A3 n3 c3, .slice A4 n4 c4] 22))) : Step Tryd.prog o a w K Q := by
  constructor
  have hr : (execOp a.eval o).run Tryd.prog w = .ok (.value (.slice (some ⟨w.heap.size, 0, none⟩) 5 5)) (w.alloc (.cells #[.slice A0 n0 c0, .slice A1 n1 c1, .slice A2 n2 c2, .slice A3 n3 c3, .slice A4 n4 c4] 22)) := by
    simp [execOp, ho, h0, h1, h2, h3, h4, run_slice5 w, Result.andThen]
  unfold Oper.wp
  rw [hr]
  exact hK

theorem run_slice4 (w : World) (A0 A1 A2 A3 : Option Addr) (n0 n1 n2 n3 c0 c1 c2 c3 : Nat) : (Instr.buildSlice 47 4 #[(0, .slice A0 n0 c0), (1, .slice A1 n1 c1), (2, .slice A2 n2 c2), (3, .slice A3 n3 c3)]).run Tryd.prog w = .ok (.slice (some ⟨w.heap.size, 0, none⟩) 4 4) (w.alloc (.cells #[.slice A0 n0 c0, .slice A1 n1 c1, .slice A2 n2 c2, .slice A3 n3 c3] 22)) := by
  kernel_rfl
theorem st_slice4 {o : Oper} {a : Act} {w : World} {K : Act → World → Prop} {Q : Exit → Act → World → Prop} (x0 x1 x2 x3 : Operand) (ho : o.op = .buildSlice 47 4 #[(0, x0), (1, x1), (2, x2), (3, x3)]) (A0 A1 A2 A3 : Option Addr) (n0 n1 n2 n3 c0 c1 c2 c3 : Nat)
    (h0 : a.eval x0 = .slice A0 n0 c0) (h1 : a.eval x1 = .slice A1 n1 c1) (h2 : a.eval x2 = .slice A2 n2 c2) (h3 : a.eval x3 = .slice A3 n3 c3)
    (hK : K (a.put o.dst (.slice (some ⟨w.heap.size, 0, none⟩) 4 4)) (w.alloc (.cells #[.slice A0 n0 c0, .slice A1 n1 c1, .slice A2 n2 c2, .slice A3 n3 c3] 22))) : Step Tryd.prog o a w K Q := by
  constructor
  have hr : (execOp a.eval o).run Tryd.prog w = .ok (.value (.slice (some ⟨w.heap.size, 0, none⟩) 4 4)) (w.alloc (.cells #[.slice A0 n0 c0, .slice A1 n1 c1, .slice A2 n2 c2, .slice A3 n3 c3] 22)) := by
    simp [execOp, ho, h0, h1, h2, h3, run_slice4 w, Result.andThen]
  unfold Oper.wp
  rw [hr]
  exact hK

theorem mem4 {P : Both.Row → Prop} {a b c d : Both.Row} (h1 : P a) (h2 : P b) (h3 : P c) (h4 : P d) : ∀ r ∈ [a, b, c, d], P r := by
  intro r h
  simp only [List.mem_cons, List.not_mem_nil, or_false] at h
  rcases h with rfl | rfl | rfl | rfl
  · exact h1
  · exact h2
  · exact h3
  · exact h4
theorem b_add (a b : Int) (x y : Operand) (w : World) (h0 : -9223372036854775808 ≤ a + b) (h1 : a + b ≤ 9223372036854775807) : (do eqGuard .add 3 x y (.int .i64 a) (.int .i64 b); binOp .add 3 (.int .i64 a) (.int .i64 b) : Sem Value).run Tryd.prog w = .ok (.int .i64 (a + b)) w := by
  have e : IntKind.i64.wrap (a + b) = a + b := IntWalk.i64_in _ (by omega)
  simp [go_sem, eqGuard, e]
theorem b_mul (a b : Int) (x y : Operand) (w : World) (h0 : -9223372036854775808 ≤ a * b) (h1 : a * b ≤ 9223372036854775807) : (do eqGuard .mul 3 x y (.int .i64 a) (.int .i64 b); binOp .mul 3 (.int .i64 a) (.int .i64 b) : Sem Value).run Tryd.prog w = .ok (.int .i64 (a * b)) w := by
  have e : IntKind.i64.wrap (a * b) = a * b := IntWalk.i64_in _ (by omega)
  simp [go_sem, eqGuard, e]
theorem st_len_bytes {o : Oper} {a : Act} {w : World} {K : Act → World → Prop} {Q : Exit → Act → World → Prop} (x : Operand) (ho : o.op = .call { callee := .builtin .len, args := #[x], argTypes := #[22] }) (A : Option Addr) (n c : Nat) (hx : a.eval x = .slice A n c) (hK : K (a.put o.dst (.int .i64 (n : Int))) w) : Step Tryd.prog o a w K Q := by
  have u := Tryd.underlying22
  have e : ∀ ty, (Builtin.len_ #[22] ty #[.slice A n c]).run Tryd.prog w = .ok (.int .i64 (n : Int)) w := fun ty => by simp [go_sem]
  refine wp_value _ ?_ hK
  simp [execOp, ho, resolve, invoke, hx, builtin, e, Result.andThen]

set_option maxHeartbeats 8000000 in
set_option maxRecDepth 100000 in
theorem bytes_true_true (p : Pkt) (A : Option Addr) (n c : Nat) (l : List Int) (w : World) (h : Holds w w.heap.size A n c l) (hv : Valid p) (hn : 20 + p.opt.size + n ≤ 65535) (hdf : p.df = true) (hmf : p.mf = true) :
    Calls Tryd.prog 15 #[.agg #[.int .i64 p.tos, .int .i64 p.id, .int .i64 p.ttl, .int .i64 p.proto, .bool true, .bool true, .int .i64 p.off, .string p.src, .string p.dst, .string p.opt, .slice A n c]] w fun e w' => ∃ v, e = .returned v ∧ Owns w' w.heap.size v (20 + p.opt.size + n) (p.bytes l) ∧ Below w.heap.size w w' := by
  obtain ⟨t0, t1, l0, l1, p0, p1, i0, i1, o0, o1, o8, vs, vd, vz, vz4⟩ := hv
  obtain ⟨W, hW⟩ : ∃ W, W = 5 + (p.opt.size : Int) / 4 := ⟨_, rfl⟩
  obtain ⟨TT, hTT⟩ : ∃ TT, TT = p.total n := ⟨_, rfl⟩
  have TB : TT = 20 + (p.opt.size : Int) + (n : Int) := by rw [hTT]; rfl
  have W1 : Hid (64 + W = p.first) := Lib.hid (by rw [hW]; rfl)
  have W2 : Hid (4 * W + (n : Int) = TT) := Lib.hid (by rw [hW, TB]; omega)
  have hpl : p.off / 8 + 16384 + 8192 = p.place := by unfold Pkt.place; rw [hdf, hmf]; simp
  have fb : 0 ≤ p.first ∧ p.first ≤ 255 := by rw [← W1.out, hW]; omega
  have pb : 0 ≤ p.place ∧ p.place ≤ 32767 := by rw [← hpl]; omega
  have wb : 5 ≤ W ∧ W ≤ 15 := by rw [hW]; omega
  have tb : 0 ≤ TT ∧ TT ≤ 65535 := by rw [TB]; omega
  have hl := h.1
  obtain ⟨front, hf⟩ : ∃ front, front = [p.first, p.tos, TT / 256, TT % 256, p.id / 256, p.id % 256, p.place / 256, p.place % 256, p.ttl, p.proto] := ⟨_, rfl⟩
  have FR := Lib.hid hf
  obtain ⟨sm, hsm⟩ : ∃ sm, sm = p.sum n := ⟨_, rfl⟩
  have CH : Hid (check (front ++ ([0, 0] ++ (p.rest ++ []))) = sm) := Lib.hid (by rw [hsm, hf, hTT]; simp [Pkt.sum, Pkt.head, numsOf])
  have FIN : Hid (p.bytes l = front ++ ([sm / 256, sm % 256] ++ (p.rest ++ l))) := Lib.hid (by rw [Pkt.bytes, hl, ← hsm, Pkt.head, ← hTT, numsOf, hf]; simp)
  have smb := sum_in p n
  rw [← hsm] at smb
  have hpl' := Lib.hid hpl
  have hW' := Lib.hid hW
  have e8 : p.off.tdiv 8 = p.off / 8 := Int.tdiv_eq_ediv_of_nonneg o0
  have HL := Lib.hid h
  have B1 := Lib.hid ((Below.refl w.heap.size w).alloc (Nat.le_refl _) (.cells #[.int .i64 p.tos, .int .i64 p.id, .int .i64 p.ttl, .int .i64 p.proto, .bool true, .bool true, .int .i64 p.off, .string p.src, .string p.dst, .string p.opt, .slice A n c] 24))
  have P1 := Lib.hid (Blk.new w 24 #[.int .i64 p.tos, .int .i64 p.id, .int .i64 p.ttl, .int .i64 p.proto, .bool true, .bool true, .int .i64 p.off, .string p.src, .string p.dst, .string p.opt, .slice A n c])
  clear h hdf hmf hW hTT TB hpl hf hsm hl
  go_enter Tryd.func15, Tryd.ntmps15
  go_wp2_with fail
  rw [← hW'.out, hpl'.out]
  generalize w.alloc (.cells #[.int .i64 p.tos, .int .i64 p.id, .int .i64 p.ttl, .int .i64 p.proto, .bool true, .bool true, .int .i64 p.off, .string p.src, .string p.dst, .string p.opt, .slice A n c] 24) = w1 at *
  have PW := Lib.hid P1.out.drew
  clear e8
  refine wp_region_free [0, 1, 2, 3, 4, 5, 6, 7, 8, 9, 10, 11, 12, 13, 14, 15, 16, 17, 18, 19, 20, 21, 22, 23, 24, 25, 26] 27 [28] (fun w1 w2 => Below w1.heap.size w1 w2) (fun k' w' v => match k' with
    | 0 => v = .int .i64 W
    | 1 => v = .int .i64 p.first
    | 2 => v = .int .u8 p.first
    | 3 => v = .pointer (some ⟨w.heap.size, 0, none⟩)
    | 4 => v = .int .i64 p.tos
    | 5 => v = .int .u8 p.tos
    | 6 => Lies w' v 2 [p.first, p.tos]
    | 7 => v = .int .i64 W
    | 8 => v = .int .i64 (4 * W)
    | 9 => v = .pointer (some ⟨w.heap.size, 10, none⟩)
    | 10 => v = .slice A n c
    | 11 => v = .int .i64 ((n : Int))
    | 12 => v = .int .i64 TT
    | 13 => Lies w' v 2 [TT / 256, TT % 256]
    | 14 => v = .pointer (some ⟨w.heap.size, 1, none⟩)
    | 15 => v = .int .i64 p.id
    | 16 => Lies w' v 2 [p.id / 256, p.id % 256]
    | 17 => v = .int .i64 p.place
    | 18 => Lies w' v 2 [p.place / 256, p.place % 256]
    | 19 => v = .pointer (some ⟨w.heap.size, 2, none⟩)
    | 20 => v = .int .i64 p.ttl
    | 21 => v = .int .u8 p.ttl
    | 22 => v = .pointer (some ⟨w.heap.size, 3, none⟩)
    | 23 => v = .int .i64 p.proto
    | 24 => v = .int .u8 p.proto
    | 25 => Lies w' v 2 [p.ttl, p.proto]
    | _ => ∃ g A0 c0 A1 c1 A2 c2 A3 c3 A4 c4, v = .slice (some ⟨g, 0, none⟩) 5 5 ∧ Both.All w' w'.heap.size g [⟨A0, 2, c0, [p.first, p.tos]⟩, ⟨A1, 2, c1, [TT / 256, TT % 256]⟩, ⟨A2, 2, c2, [p.id / 256, p.id % 256]⟩, ⟨A3, 2, c3, [p.place / 256, p.place % 256]⟩, ⟨A4, 2, c4, [p.ttl, p.proto]⟩]) (by kernel_rfl) (by kernel_rfl) (Below.refl _ _) (fun _ _ _ h k => h.trans (k.mono h.size)) (fun k' w1 w2 v h => match k' with
    | 0 => fun x => x
    | 1 => fun x => x
    | 2 => fun x => x
    | 3 => fun x => x
    | 4 => fun x => x
    | 5 => fun x => x
    | 6 => fun x => Lies.below x h
    | 7 => fun x => x
    | 8 => fun x => x
    | 9 => fun x => x
    | 10 => fun x => x
    | 11 => fun x => x
    | 12 => fun x => x
    | 13 => fun x => Lies.below x h
    | 14 => fun x => x
    | 15 => fun x => x
    | 16 => fun x => Lies.below x h
    | 17 => fun x => x
    | 18 => fun x => Lies.below x h
    | 19 => fun x => x
    | 20 => fun x => x
    | 21 => fun x => x
    | 22 => fun x => x
    | 23 => fun x => x
    | 24 => fun x => x
    | 25 => fun x => Lies.below x h
    | _ + 26 => fun ⟨g, A0, c0, A1, c1, A2, c2, A3, c3, A4, c4, e, x⟩ => ⟨g, A0, c0, A1, c1, A2, c2, A3, c3, A4, c4, e, all_below x h⟩) (fun _ _ _ _ _ h => h) ?_ _ (by rfl) ?_
  · refine obs_cons (by rfl) (fun vals w' hgr hdep K hK => ?_) (obs_cons (by rfl) (fun vals w' hgr hdep K hK => ?_) (obs_cons (by rfl) (fun vals w' hgr hdep K hK => ?_) (obs_cons (by rfl) (fun vals w' hgr hdep K hK => ?_) (obs_cons (by rfl) (fun vals w' hgr hdep K hK => ?_) (obs_cons (by rfl) (fun vals w' hgr hdep K hK => ?_) (obs_cons (by rfl) (fun vals w' hgr hdep K hK => ?_) (obs_cons (by rfl) (fun vals w' hgr hdep K hK => ?_) (obs_cons (by rfl) (fun vals w' hgr hdep K hK => ?_) (obs_cons (by rfl) (fun vals w' hgr hdep K hK => ?_) (obs_cons (by rfl) (fun vals w' hgr hdep K hK => ?_) (obs_cons (by rfl) (fun vals w' hgr hdep K hK => ?_) (obs_cons (by rfl) (fun vals w' hgr hdep K hK => ?_) (obs_cons (by rfl) (fun vals w' hgr hdep K hK => ?_) (obs_cons (by rfl) (fun vals w' hgr hdep K hK => ?_) (obs_cons (by rfl) (fun vals w' hgr hdep K hK => ?_) (obs_cons (by rfl) (fun vals w' hgr hdep K hK => ?_) (obs_cons (by rfl) (fun vals w' hgr hdep K hK => ?_) (obs_cons (by rfl) (fun vals w' hgr hdep K hK => ?_) (obs_cons (by rfl) (fun vals w' hgr hdep K hK => ?_) (obs_cons (by rfl) (fun vals w' hgr hdep K hK => ?_) (obs_cons (by rfl) (fun vals w' hgr hdep K hK => ?_) (obs_cons (by rfl) (fun vals w' hgr hdep K hK => ?_) (obs_cons (by rfl) (fun vals w' hgr hdep K hK => ?_) (obs_cons (by rfl) (fun vals w' hgr hdep K hK => ?_) (obs_cons (by rfl) (fun vals w' hgr hdep K hK => ?_) (obs_cons (by rfl) (fun vals w' hgr hdep K hK => ?_) (obs_nil)))))))))))))))))))))))))))
    · exact wp_move (.tmp 3) rfl _ (at_out _ (by kernel_rfl) rfl) (hK _ _ (Below.refl _ _) rfl)
    · exact wp_bin (.const (.int .i64 64)) (.tmp 24) rfl _ _ (.int .i64 p.first) rfl ((at_dst 0 (by kernel_rfl)).trans (hdep 0 (by simp) (by kernel_rfl))) (by have := b_add 64 W (.const (.int .i64 64)) (.tmp 24) w' (by omega) (by omega); rwa [W1.out] at this) (hK _ _ (Below.refl _ _) rfl)
    · exact wp_conv (.tmp 25) rfl _ _ ((at_dst 1 (by kernel_rfl)).trans (hdep 1 (by simp) (by kernel_rfl))) (conv_u8 _ _ (by omega) (by omega)) (hK _ _ (Below.refl _ _) rfl)
    · exact wp_field (.tmp 1) rfl _ _ (at_out _ (by kernel_rfl) rfl) (fieldA0 _ _) (hK _ _ (Below.refl _ _) rfl)
    · exact wp_load1 (.tmp 27) rfl ⟨w.heap.size, 0, none⟩ ((at_dst 3 (by kernel_rfl)).trans (hdep 3 (by simp) (by kernel_rfl))) Tryd.underlying3 rfl _ (((PW.out.below hgr PW.out.lt).cell 0).trans rfl) (hK _ _ (Below.refl _ _) rfl)
    · exact wp_conv (.tmp 28) rfl _ _ ((at_dst 4 (by kernel_rfl)).trans (hdep 4 (by simp) (by kernel_rfl))) (conv_u8 _ _ (by omega) (by omega)) (hK _ _ (Below.refl _ _) rfl)
    · exact st_slice8_2 (.tmp 26) (.tmp 29) rfl _ _ ((at_dst 2 (by kernel_rfl)).trans (hdep 2 (by simp) (by kernel_rfl))) ((at_dst 5 (by kernel_rfl)).trans (hdep 5 (by simp) (by kernel_rfl))) (by omega) (by omega) (by omega) (by omega) (fun o => hK _ _ ((Below.refl _ _).alloc (Nat.le_refl _) _) o)
    · exact wp_move (.tmp 3) rfl _ (at_out _ (by kernel_rfl) rfl) (hK _ _ (Below.refl _ _) rfl)
    · exact wp_bin (.const (.int .i64 4)) (.tmp 31) rfl _ _ _ rfl ((at_dst 7 (by kernel_rfl)).trans (hdep 7 (by simp) (by kernel_rfl))) (b_mul _ _ _ _ _ (by omega) (by omega)) (hK _ _ (Below.refl _ _) rfl)
    · exact wp_field (.tmp 1) rfl _ _ (at_out _ (by kernel_rfl) rfl) (fieldA10 _ _) (hK _ _ (Below.refl _ _) rfl)
    · exact wp_load1 (.tmp 33) rfl ⟨w.heap.size, 10, none⟩ ((at_dst 9 (by kernel_rfl)).trans (hdep 9 (by simp) (by kernel_rfl))) Tryd.underlying22 rfl _ (((PW.out.below hgr PW.out.lt).cell 10).trans rfl) (hK _ _ (Below.refl _ _) rfl)
    · exact st_len_bytes (.tmp 34) rfl A n c ((at_dst 10 (by kernel_rfl)).trans (hdep 10 (by simp) (by kernel_rfl))) (hK _ _ (Below.refl _ _) rfl)
    · exact wp_bin (.tmp 32) (.tmp 35) rfl _ _ (.int .i64 TT) ((at_dst 8 (by kernel_rfl)).trans (hdep 8 (by simp) (by kernel_rfl))) ((at_dst 11 (by kernel_rfl)).trans (hdep 11 (by simp) (by kernel_rfl))) (by have := b_add (4 * W) (n : Int) (.tmp 32) (.tmp 35) w' (by omega) (by omega); rwa [W2.out] at this) (hK _ _ (Below.refl _ _) rfl)
    · exact wp_call 29 [.tmp 36] _ rfl ent_two [.int .i64 TT] (congrArg (fun z => [z]) ((at_dst 12 (by kernel_rfl)).trans (hdep 12 (by simp) (by kernel_rfl)))) (fun v w'' => Lies w'' v 2 [TT / 256, TT % 256] ∧ Below w'.heap.size w' w'') ((two_any TT w' (by omega) (by omega)).mono fun e w'' ⟨A, h1, h2, h3⟩ => ⟨_, h1, ⟨A, 2, rfl, h2⟩, h3⟩) (fun v w'' ⟨h1, h2⟩ => hK v _ h2 h1)
    · exact wp_field (.tmp 1) rfl _ _ (at_out _ (by kernel_rfl) rfl) (fieldA1 _ _) (hK _ _ (Below.refl _ _) rfl)
    · exact wp_load1 (.tmp 38) rfl ⟨w.heap.size, 1, none⟩ ((at_dst 14 (by kernel_rfl)).trans (hdep 14 (by simp) (by kernel_rfl))) Tryd.underlying3 rfl _ (((PW.out.below hgr PW.out.lt).cell 1).trans rfl) (hK _ _ (Below.refl _ _) rfl)
    · exact wp_call 29 [.tmp 39] _ rfl ent_two [.int .i64 p.id] (congrArg (fun z => [z]) ((at_dst 15 (by kernel_rfl)).trans (hdep 15 (by simp) (by kernel_rfl)))) (fun v w'' => Lies w'' v 2 [p.id / 256, p.id % 256] ∧ Below w'.heap.size w' w'') ((two_any p.id w' (by omega) (by omega)).mono fun e w'' ⟨A, h1, h2, h3⟩ => ⟨_, h1, ⟨A, 2, rfl, h2⟩, h3⟩) (fun v w'' ⟨h1, h2⟩ => hK v _ h2 h1)
    · exact wp_move (.tmp 4) rfl _ (at_out _ (by kernel_rfl) rfl) (hK _ _ (Below.refl _ _) rfl)
    · exact wp_call 29 [.tmp 41] _ rfl ent_two [.int .i64 p.place] (congrArg (fun z => [z]) ((at_dst 17 (by kernel_rfl)).trans (hdep 17 (by simp) (by kernel_rfl)))) (fun v w'' => Lies w'' v 2 [p.place / 256, p.place % 256] ∧ Below w'.heap.size w' w'') ((two_any p.place w' (by omega) (by omega)).mono fun e w'' ⟨A, h1, h2, h3⟩ => ⟨_, h1, ⟨A, 2, rfl, h2⟩, h3⟩) (fun v w'' ⟨h1, h2⟩ => hK v _ h2 h1)
    · exact wp_field (.tmp 1) rfl _ _ (at_out _ (by kernel_rfl) rfl) (fieldA2 _ _) (hK _ _ (Below.refl _ _) rfl)
    · exact wp_load1 (.tmp 43) rfl ⟨w.heap.size, 2, none⟩ ((at_dst 19 (by kernel_rfl)).trans (hdep 19 (by simp) (by kernel_rfl))) Tryd.underlying3 rfl _ (((PW.out.below hgr PW.out.lt).cell 2).trans rfl) (hK _ _ (Below.refl _ _) rfl)
    · exact wp_conv (.tmp 44) rfl _ _ ((at_dst 20 (by kernel_rfl)).trans (hdep 20 (by simp) (by kernel_rfl))) (conv_u8 _ _ (by omega) (by omega)) (hK _ _ (Below.refl _ _) rfl)
    · exact wp_field (.tmp 1) rfl _ _ (at_out _ (by kernel_rfl) rfl) (fieldA3 _ _) (hK _ _ (Below.refl _ _) rfl)
    · exact wp_load1 (.tmp 46) rfl ⟨w.heap.size, 3, none⟩ ((at_dst 22 (by kernel_rfl)).trans (hdep 22 (by simp) (by kernel_rfl))) Tryd.underlying3 rfl _ (((PW.out.below hgr PW.out.lt).cell 3).trans rfl) (hK _ _ (Below.refl _ _) rfl)
    · exact wp_conv (.tmp 47) rfl _ _ ((at_dst 23 (by kernel_rfl)).trans (hdep 23 (by simp) (by kernel_rfl))) (conv_u8 _ _ (by omega) (by omega)) (hK _ _ (Below.refl _ _) rfl)
    · exact st_slice8_2 (.tmp 45) (.tmp 48) rfl _ _ ((at_dst 21 (by kernel_rfl)).trans (hdep 21 (by simp) (by kernel_rfl))) ((at_dst 24 (by kernel_rfl)).trans (hdep 24 (by simp) (by kernel_rfl))) (by omega) (by omega) (by omega) (by omega) (fun o => hK _ _ ((Below.refl _ _).alloc (Nat.le_refl _) _) o)
    · obtain ⟨A0, c0, e0, l0⟩ := hdep 6 (by simp) (by kernel_rfl)
      obtain ⟨A1, c1, e1, l1⟩ := hdep 13 (by simp) (by kernel_rfl)
      obtain ⟨A2, c2, e2, l2⟩ := hdep 16 (by simp) (by kernel_rfl)
      obtain ⟨A3, c3, e3, l3⟩ := hdep 18 (by simp) (by kernel_rfl)
      obtain ⟨A4, c4, e4, l4⟩ := hdep 25 (by simp) (by kernel_rfl)
      exact st_slice5 (.tmp 30) (.tmp 37) (.tmp 40) (.tmp 42) (.tmp 49) rfl _ _ _ _ _ _ _ _ _ _ _ _ _ _ _ ((at_dst 6 (by kernel_rfl)).trans e0) ((at_dst 13 (by kernel_rfl)).trans e1) ((at_dst 16 (by kernel_rfl)).trans e2) ((at_dst 18 (by kernel_rfl)).trans e3) ((at_dst 25 (by kernel_rfl)).trans e4) (hK _ _ ((Below.refl _ _).alloc (Nat.le_refl _) _) ⟨_, A0, c0, A1, c1, A2, c2, A3, c3, A4, c4, rfl, all_lit _ _ _ _ rfl (mem5 l0 l1 l2 l3 l4)⟩)
  · intro vals w' hgr hG
    obtain ⟨g, A0, c0, A1, c1, A2, c2, A3, c3, A4, c4, eg, al⟩ : ∃ g A0 c0 A1 c1 A2 c2 A3 c3 A4 c4, vals 26 = .slice (some ⟨g, 0, none⟩) 5 5 ∧ Both.All w' w'.heap.size g [⟨A0, 2, c0, [p.first, p.tos]⟩, ⟨A1, 2, c1, [TT / 256, TT % 256]⟩, ⟨A2, 2, c2, [p.id / 256, p.id % 256]⟩, ⟨A3, 2, c3, [p.place / 256, p.place % 256]⟩, ⟨A4, 2, c4, [p.ttl, p.proto]⟩] := hG 26 (by simp)
    refine wp_call 9 [.tmp 50] _ rfl ent_both [.slice (some ⟨g, 0, none⟩) 5 5] (congrArg (fun z => [z]) ((at_dst 26 (by kernel_rfl)).trans eg)) (fun v w'' => Owns w'' w'.heap.size v 10 front ∧ Below w'.heap.size w' w'') ((Both.both_any g 5 5 _ w' al rfl (by decide) (by show 2 + (2 + (2 + (2 + (2 + 0)))) ≤ 1048576; omega)).mono fun e w'' ⟨v, h1, h2, h3⟩ => ⟨v, h1, by rw [FR.out]; exact h2, h3⟩) (fun v2 w2 ⟨o2, hb⟩ => ?_)
    refine wpAnyH_next 28 _ rfl rfl (by kernel_rfl) (st_assign (.tmp 51) _ rfl (put_tmps_eq (fill_size _ _ _) (by kernel_rfl)) ⟨trivial, wpAnyH_done (by kernel_rfl) ?_ _⟩)
    have gr2 : Below w1.heap.size w1 w2 := ((below_drewN (Below.refl w1.heap.size w1) 1).trans hgr).trans (hb.mono hgr.size)
    have B2 := Lib.hid (B1.out.trans (gr2.mono B1.out.size))
    have P2 := Lib.hid (P1.out.below gr2 P1.out.lt)
    obtain ⟨A5, c5, rfl, h5⟩ := o2.slice
    have H5 := Lib.hid h5
    clear hG hgr o2 hb gr2 eg al h5
    simp only [fill, dstAt, List.getElem?_cons_zero, List.getElem?_cons_succ, Option.bind_some, Act.put, List.setIfInBounds_toArray, List.set_cons_zero, List.set_cons_succ]
    generalize vals 0 = x0, vals 1 = x1, vals 2 = x2, vals 3 = x3, vals 4 = x4, vals 5 = x5, vals 6 = x6, vals 7 = x7, vals 8 = x8, vals 9 = x9, vals 10 = x10, vals 11 = x11, vals 12 = x12, vals 13 = x13, vals 14 = x14, vals 15 = x15, vals 16 = x16, vals 17 = x17, vals 18 = x18, vals 19 = x19, vals 20 = x20, vals 21 = x21, vals 22 = x22, vals 23 = x23, vals 24 = x24, vals 25 = x25, vals 26 = x26
    have d7 := P2.out.cell 7
    have d8 := P2.out.cell 8
    have d9 := P2.out.cell 9
    obtain ⟨w3, vb, hr3, ob, hb3⟩ := run_bytes_string w2 (p.src ++ p.dst ++ p.opt) (by simp only [maxLen, ByteArray.size_append]; omega)
    obtain ⟨A6, c6, rfl, h6⟩ := ob.slice
    have B3 := Lib.hid (B2.out.trans (hb3.mono B2.out.size))
    have P3 := Lib.hid (P2.out.below hb3 P2.out.lt)
    have H53 := Lib.hid ((H5.out.below hb3).more hb3.size)
    obtain ⟨bz, hbz⟩ : ∃ bz, bz = (p.src ++ p.dst ++ p.opt).size := ⟨_, rfl⟩
    have hbz' : bz = 8 + p.opt.size := by rw [hbz]; simp only [ByteArray.size_append]; omega
    have RR : nums (p.src ++ p.dst ++ p.opt) = p.rest := by simp [nums, Pkt.rest]
    rw [← hbz, RR] at h6
    rw [← hbz] at hr3
    have H6 := Lib.hid h6
    have HBZ := Lib.hid hbz'
    clear ob hb3 h6 RR hbz'
    clear hbz
    have s1 : (Op.stringOp .add p.src p.dst).run Tryd.prog w2 = .ok (.string (p.src ++ p.dst)) w2 := by simp [go_sem]; omega
    have s2 : (Op.stringOp .add (p.src ++ p.dst) p.opt).run Tryd.prog w2 = .ok (.string (p.src ++ p.dst ++ p.opt)) w2 := by simp [go_sem, ByteArray.size_append]; omega
    go_wp2_with fail
    have HZ := Lib.hid (Holds.lit w3 [0, 0] #[.int .u8 0, .int .u8 0] rfl (by simp [maxLen]) (fun y hy => by simp at hy; omega))
    have g4 := (Below.refl _ w3).alloc (Nat.le_refl _) (.cells #[.int .u8 0, .int .u8 0] 5)
    have B4 := Lib.hid (B3.out.alloc B3.out.size (.cells #[.int .u8 0, .int .u8 0] 5))
    have P4 := Lib.hid (P3.out.alloc (.cells #[.int .u8 0, .int .u8 0] 5))
    have H54 := Lib.hid ((H53.out.below g4).more g4.size)
    have H64 := Lib.hid ((H6.out.below g4).more g4.size)
    have HZ4 : Hid (Holds (w3.alloc (.cells #[.int .u8 0, .int .u8 0] 5)) (w3.alloc (.cells #[.int .u8 0, .int .u8 0] 5)).heap.size (some ⟨w3.heap.size, 0, none⟩) 2 2 [0, 0]) := Lib.hid (by simpa using HZ.out)
    clear g4 HZ
    refine (Both.both_lit (Nat.le_refl _) [⟨A5, 10, c5, front⟩, ⟨some ⟨w3.heap.size, 0, none⟩, 2, 2, [0, 0]⟩, ⟨A6, bz, c6, p.rest⟩] _ _ rfl (Both.mem3 H54.out HZ4.out H64.out) (w3.heap.size + 1) 3 (by simp) rfl (by decide) (by have := HBZ.out; show 10 + (2 + (bz + 0)) ≤ 1048576; omega)).mono ?_
    rintro e w8 ⟨A7, c7, rfl, h7, _, hb⟩
    have B8 := Lib.hid (B4.out.trans (hb.mono B4.out.size))
    have P8 := Lib.hid (P4.out.below hb P4.out.lt)
    have H58 := Lib.hid ((H54.out.below hb).more hb.size)
    have H68 := Lib.hid ((H64.out.below hb).more hb.size)
    have e0 : Both.total [⟨A5, 10, c5, front⟩, ⟨some ⟨w3.heap.size, 0, none⟩, 2, 2, [0, 0]⟩, ⟨A6, bz, c6, p.rest⟩] = 10 + (2 + (bz + 0)) := rfl
    rw [e0] at h7 ⊢
    have h7' : Holds w8 w8.heap.size A7 (10 + (2 + (bz + 0))) c7 (front ++ ([0, 0] ++ (p.rest ++ []))) := h7
    have H7 := Lib.hid h7'
    clear hb h7 h7' e0 H54 H64 HZ4 B4 P4 B3 P3 H53 H6 H5 P2 B2 s1 s2 hr3 d7 d8 d9
    go_wp2_with fail
    refine (RefSum.check_ref A7 _ c7 _ w8 _ H7.out (by have := HBZ.out; omega)).mono ?_
    rintro e wc ⟨rfl, rfl⟩
    rw [CH.out]
    go_wp2_with fail
    have PX := Lib.hid P8.out.drew
    have F5 : Hid (∀ w', Below w8.drew.heap.size w8.drew w' → Holds w' w'.heap.size A5 10 c5 front) := Lib.hid fun w' hw => (H58.out.below ((below_drewN (Below.refl w8.heap.size w8) 1).trans hw)).more hw.size
    have F6 : Hid (∀ w', Below w8.drew.heap.size w8.drew w' → Holds w' w'.heap.size A6 bz c6 p.rest) := Lib.hid fun w' hw => (H68.out.below ((below_drewN (Below.refl w8.heap.size w8) 1).trans hw)).more hw.size
    have F0 : Hid (∀ w', Below w8.drew.heap.size w8.drew w' → Holds w' w'.heap.size A n c l) := Lib.hid fun w' hw => (HL.out.below (B8.out.trans (((below_drewN (Below.refl w8.heap.size w8) 1).trans hw).mono B8.out.size))).more (Nat.le_trans B8.out.size hw.size)
    refine wp_region_free [0, 1, 2, 3, 4, 5, 6] 7 [8] (fun w1 w2 => Below w1.heap.size w1 w2) (fun k' w' v => match k' with
      | 0 => v = .slice A5 10 c5
      | 1 => v = .int .i64 sm
      | 2 => Lies w' v 2 [sm / 256, sm % 256]
      | 3 => v = .slice A6 bz c6
      | 4 => v = .pointer (some ⟨w.heap.size, 10, none⟩)
      | 5 => v = .slice A n c
      | _ => ∃ g A1 c1, v = .slice (some ⟨g, 0, none⟩) 4 4 ∧ Both.All w' w'.heap.size g [⟨A5, 10, c5, front⟩, ⟨A1, 2, c1, [sm / 256, sm % 256]⟩, ⟨A6, bz, c6, p.rest⟩, ⟨A, n, c, l⟩]) (by kernel_rfl) (by kernel_rfl) (Below.refl _ _) (fun _ _ _ h k => h.trans (k.mono h.size)) (fun k' w1 w2 v h => match k' with
      | 0 => fun x => x
      | 1 => fun x => x
      | 2 => fun x => Lies.below x h
      | 3 => fun x => x
      | 4 => fun x => x
      | 5 => fun x => x
      | _ + 6 => fun ⟨g, A1, c1, e, x⟩ => ⟨g, A1, c1, e, all_below x h⟩) (fun _ _ _ _ _ h => h) ?_ _ (by rfl) ?_
    · refine obs_cons (by rfl) (fun vals w' hgr hdep K hK => ?_) (obs_cons (by rfl) (fun vals w' hgr hdep K hK => ?_) (obs_cons (by rfl) (fun vals w' hgr hdep K hK => ?_) (obs_cons (by rfl) (fun vals w' hgr hdep K hK => ?_) (obs_cons (by rfl) (fun vals w' hgr hdep K hK => ?_) (obs_cons (by rfl) (fun vals w' hgr hdep K hK => ?_) (obs_cons (by rfl) (fun vals w' hgr hdep K hK => ?_) (obs_nil)))))))
      · exact wp_move (.tmp 5) rfl _ (at_out _ (by kernel_rfl) rfl) (hK _ _ (Below.refl _ _) rfl)
      · exact wp_move (.tmp 7) rfl _ (at_out _ (by kernel_rfl) rfl) (hK _ _ (Below.refl _ _) rfl)
      · exact wp_call 29 [.tmp 68] _ rfl ent_two [.int .i64 sm] (congrArg (fun z => [z]) ((at_dst 1 (by kernel_rfl)).trans (hdep 1 (by simp) (by kernel_rfl)))) (fun v w'' => Lies w'' v 2 [sm / 256, sm % 256] ∧ Below w'.heap.size w' w'') ((two_any sm w' (by omega) (by omega)).mono fun e w'' ⟨A, h1, h2, h3⟩ => ⟨_, h1, ⟨A, 2, rfl, h2⟩, h3⟩) (fun v w'' ⟨h1, h2⟩ => hK v _ h2 h1)
      · exact wp_move (.tmp 6) rfl _ (at_out _ (by kernel_rfl) rfl) (hK _ _ (Below.refl _ _) rfl)
      · exact wp_field (.tmp 1) rfl _ _ (at_out _ (by kernel_rfl) rfl) (fieldA10 _ _) (hK _ _ (Below.refl _ _) rfl)
      · exact wp_load1 (.tmp 71) rfl ⟨w.heap.size, 10, none⟩ ((at_dst 4 (by kernel_rfl)).trans (hdep 4 (by simp) (by kernel_rfl))) Tryd.underlying22 rfl _ (((PX.out.below hgr PX.out.lt).cell 10).trans rfl) (hK _ _ (Below.refl _ _) rfl)
      · obtain ⟨A1, c1, e1, l1⟩ := hdep 2 (by simp) (by kernel_rfl)
        exact st_slice4 (.tmp 67) (.tmp 69) (.tmp 70) (.tmp 72) rfl _ _ _ _ _ _ _ _ _ _ _ _ ((at_dst 0 (by kernel_rfl)).trans (hdep 0 (by simp) (by kernel_rfl))) ((at_dst 2 (by kernel_rfl)).trans e1) ((at_dst 3 (by kernel_rfl)).trans (hdep 3 (by simp) (by kernel_rfl))) ((at_dst 5 (by kernel_rfl)).trans (hdep 5 (by simp) (by kernel_rfl))) (hK _ _ ((Below.refl _ _).alloc (Nat.le_refl _) _) ⟨_, A1, c1, rfl, all_lit _ _ _ _ rfl (mem4 (F5.out w' hgr) l1 (F6.out w' hgr) (F0.out w' hgr))⟩)
    · intro vals w' hgr hG
      have hbz' := HBZ.out
      obtain ⟨g, A1, c1, eg, al⟩ : ∃ g A1 c1, vals 6 = .slice (some ⟨g, 0, none⟩) 4 4 ∧ Both.All w' w'.heap.size g [⟨A5, 10, c5, front⟩, ⟨A1, 2, c1, [sm / 256, sm % 256]⟩, ⟨A6, bz, c6, p.rest⟩, ⟨A, n, c, l⟩] := hG 6 (by simp)
      refine wp_call 9 [.tmp 73] _ rfl ent_both [.slice (some ⟨g, 0, none⟩) 4 4] (congrArg (fun z => [z]) ((at_dst 6 (by kernel_rfl)).trans eg)) (fun v w'' => Owns w'' w'.heap.size v (20 + p.opt.size + n) (p.bytes l) ∧ Below w'.heap.size w' w'') ((Both.both_any g 4 4 _ w' al rfl (by decide) (by show 10 + (2 + (bz + (n + 0))) ≤ 1048576; omega)).mono fun e w'' ⟨v, h1, h2, h3⟩ => ⟨v, h1, by rw [(by show 10 + (2 + (bz + (n + 0))) = 20 + p.opt.size + n; omega : Both.total [⟨A5, 10, c5, front⟩, ⟨A1, 2, c1, [sm / 256, sm % 256]⟩, ⟨A6, bz, c6, p.rest⟩, ⟨A, n, c, l⟩] = 20 + p.opt.size + n)] at h2; rw [FIN.out]; simpa [Both.flat] using h2, h3⟩) (fun v2 w9 ⟨o9, hb⟩ => ?_)
      refine wpAnyH_next 8 _ rfl rfl (by kernel_rfl) (st_assign (.tmp 74) _ rfl (put_tmps_eq (fill_size _ _ _) (by kernel_rfl)) ⟨trivial, wpAnyH_done (by kernel_rfl) ?_ _⟩)
      have B9 := Lib.hid (B8.out.trans ((((below_drewN (Below.refl w8.heap.size w8) 1).trans hgr).trans (hb.mono hgr.size)).mono B8.out.size))
      have o9' := o9.mono (Nat.le_trans B8.out.size hgr.size)
      clear hG hgr o9 hb eg al hbz'
      simp only [fill, dstAt, List.getElem?_cons_zero, List.getElem?_cons_succ, Option.bind_some, Act.put, List.setIfInBounds_toArray, List.set_cons_zero, List.set_cons_succ]
      generalize vals 0 = z0, vals 1 = z1, vals 2 = z2, vals 3 = z3, vals 4 = z4, vals 5 = z5, vals 6 = z6
      go_wp2_with fail
      go_ret
      exact ⟨_, rfl, o9', B9.out⟩
set_option maxHeartbeats 8000000 in
set_option maxRecDepth 100000 in
theorem bytes_true_false (p : Pkt) (A : Option Addr) (n c : Nat) (l : List Int) (w : World) (h : Holds w w.heap.size A n c l) (hv : Valid p) (hn : 20 + p.opt.size + n ≤ 65535) (hdf : p.df = true) (hmf : p.mf = false) :
    Calls Tryd.prog 15 #[.agg #[.int .i64 p.tos, .int .i64 p.id, .int .i64 p.ttl, .int .i64 p.proto, .bool true, .bool false, .int .i64 p.off, .string p.src, .string p.dst, .string p.opt, .slice A n c]] w fun e w' => ∃ v, e = .returned v ∧ Owns w' w.heap.size v (20 + p.opt.size + n) (p.bytes l) ∧ Below w.heap.size w w' := by
  obtain ⟨t0, t1, l0, l1, p0, p1, i0, i1, o0, o1, o8, vs, vd, vz, vz4⟩ := hv
  obtain ⟨W, hW⟩ : ∃ W, W = 5 + (p.opt.size : Int) / 4 := ⟨_, rfl⟩
  obtain ⟨TT, hTT⟩ : ∃ TT, TT = p.total n := ⟨_, rfl⟩
  have TB : TT = 20 + (p.opt.size : Int) + (n : Int) := by rw [hTT]; rfl
  have W1 : Hid (64 + W = p.first) := Lib.hid (by rw [hW]; rfl)
  have W2 : Hid (4 * W + (n : Int) = TT) := Lib.hid (by rw [hW, TB]; omega)
  have hpl : p.off / 8 + 16384 = p.place := by unfold Pkt.place; rw [hdf, hmf]; simp
  have fb : 0 ≤ p.first ∧ p.first ≤ 255 := by rw [← W1.out, hW]; omega
  have pb : 0 ≤ p.place ∧ p.place ≤ 32767 := by rw [← hpl]; omega
  have wb : 5 ≤ W ∧ W ≤ 15 := by rw [hW]; omega
  have tb : 0 ≤ TT ∧ TT ≤ 65535 := by rw [TB]; omega
  have hl := h.1
  obtain ⟨front, hf⟩ : ∃ front, front = [p.first, p.tos, TT / 256, TT % 256, p.id / 256, p.id % 256, p.place / 256, p.place % 256, p.ttl, p.proto] := ⟨_, rfl⟩
  have FR := Lib.hid hf
  obtain ⟨sm, hsm⟩ : ∃ sm, sm = p.sum n := ⟨_, rfl⟩
  have CH : Hid (check (front ++ ([0, 0] ++ (p.rest ++ []))) = sm) := Lib.hid (by rw [hsm, hf, hTT]; simp [Pkt.sum, Pkt.head, numsOf])
  have FIN : Hid (p.bytes l = front ++ ([sm / 256, sm % 256] ++ (p.rest ++ l))) := Lib.hid (by rw [Pkt.bytes, hl, ← hsm, Pkt.head, ← hTT, numsOf, hf]; simp)
  have smb := sum_in p n
  rw [← hsm] at smb
  have hpl' := Lib.hid hpl
  have hW' := Lib.hid hW
  have e8 : p.off.tdiv 8 = p.off / 8 := Int.tdiv_eq_ediv_of_nonneg o0
  have HL := Lib.hid h
  have B1 := Lib.hid ((Below.refl w.heap.size w).alloc (Nat.le_refl _) (.cells #[.int .i64 p.tos, .int .i64 p.id, .int .i64 p.ttl, .int .i64 p.proto, .bool true, .bool false, .int .i64 p.off, .string p.src, .string p.dst, .string p.opt, .slice A n c] 24))
  have P1 := Lib.hid (Blk.new w 24 #[.int .i64 p.tos, .int .i64 p.id, .int .i64 p.ttl, .int .i64 p.proto, .bool true, .bool false, .int .i64 p.off, .string p.src, .string p.dst, .string p.opt, .slice A n c])
  clear h hdf hmf hW hTT TB hpl hf hsm hl
  go_enter Tryd.func15, Tryd.ntmps15
  go_wp2_with fail
  rw [← hW'.out, hpl'.out]
  generalize w.alloc (.cells #[.int .i64 p.tos, .int .i64 p.id, .int .i64 p.ttl, .int .i64 p.proto, .bool true, .bool false, .int .i64 p.off, .string p.src, .string p.dst, .string p.opt, .slice A n c] 24) = w1 at *
  have PW := Lib.hid P1.out.drew
  clear e8
  refine wp_region_free [0, 1, 2, 3, 4, 5, 6, 7, 8, 9, 10, 11, 12, 13, 14, 15, 16, 17, 18, 19, 20, 21, 22, 23, 24, 25, 26] 27 [28] (fun w1 w2 => Below w1.heap.size w1 w2) (fun k' w' v => match k' with
    | 0 => v = .int .i64 W
    | 1 => v = .int .i64 p.first
    | 2 => v = .int .u8 p.first
    | 3 => v = .pointer (some ⟨w.heap.size, 0, none⟩)
    | 4 => v = .int .i64 p.tos
    | 5 => v = .int .u8 p.tos
    | 6 => Lies w' v 2 [p.first, p.tos]
    | 7 => v = .int .i64 W
    | 8 => v = .int .i64 (4 * W)
    | 9 => v = .pointer (some ⟨w.heap.size, 10, none⟩)
    | 10 => v = .slice A n c
    | 11 => v = .int .i64 ((n : Int))
    | 12 => v = .int .i64 TT
    | 13 => Lies w' v 2 [TT / 256, TT % 256]
    | 14 => v = .pointer (some ⟨w.heap.size, 1, none⟩)
    | 15 => v = .int .i64 p.id
    | 16 => Lies w' v 2 [p.id / 256, p.id % 256]
    | 17 => v = .int .i64 p.place
    | 18 => Lies w' v 2 [p.place / 256, p.place % 256]
    | 19 => v = .pointer (some ⟨w.heap.size, 2, none⟩)
    | 20 => v = .int .i64 p.ttl
    | 21 => v = .int .u8 p.ttl
    | 22 => v = .pointer (some ⟨w.heap.size, 3, none⟩)
    | 23 => v = .int .i64 p.proto
    | 24 => v = .int .u8 p.proto
    | 25 => Lies w' v 2 [p.ttl, p.proto]
    | _ => ∃ g A0 c0 A1 c1 A2 c2 A3 c3 A4 c4, v = .slice (some ⟨g, 0, none⟩) 5 5 ∧ Both.All w' w'.heap.size g [⟨A0, 2, c0, [p.first, p.tos]⟩, ⟨A1, 2, c1, [TT / 256, TT % 256]⟩, ⟨A2, 2, c2, [p.id / 256, p.id % 256]⟩, ⟨A3, 2, c3, [p.place / 256, p.place % 256]⟩, ⟨A4, 2, c4, [p.ttl, p.proto]⟩]) (by kernel_rfl) (by kernel_rfl) (Below.refl _ _) (fun _ _ _ h k => h.trans (k.mono h.size)) (fun k' w1 w2 v h => match k' with
    | 0 => fun x => x
    | 1 => fun x => x
    | 2 => fun x => x
    | 3 => fun x => x
    | 4 => fun x => x
    | 5 => fun x => x
    | 6 => fun x => Lies.below x h
    | 7 => fun x => x
    | 8 => fun x => x
    | 9 => fun x => x
    | 10 => fun x => x
    | 11 => fun x => x
    | 12 => fun x => x
    | 13 => fun x => Lies.below x h
    | 14 => fun x => x
    | 15 => fun x => x
    | 16 => fun x => Lies.below x h
    | 17 => fun x => x
    | 18 => fun x => Lies.below x h
    | 19 => fun x => x
    | 20 => fun x => x
    | 21 => fun x => x
    | 22 => fun x => x
    | 23 => fun x => x
    | 24 => fun x => x
    | 25 => fun x => Lies.below x h
    | _ + 26 => fun ⟨g, A0, c0, A1, c1, A2, c2, A3, c3, A4, c4, e, x⟩ => ⟨g, A0, c0, A1, c1, A2, c2, A3, c3, A4, c4, e, all_below x h⟩) (fun _ _ _ _ _ h => h) ?_ _ (by rfl) ?_
  · refine obs_cons (by rfl) (fun vals w' hgr hdep K hK => ?_) (obs_cons (by rfl) (fun vals w' hgr hdep K hK => ?_) (obs_cons (by rfl) (fun vals w' hgr hdep K hK => ?_) (obs_cons (by rfl) (fun vals w' hgr hdep K hK => ?_) (obs_cons (by rfl) (fun vals w' hgr hdep K hK => ?_) (obs_cons (by rfl) (fun vals w' hgr hdep K hK => ?_) (obs_cons (by rfl) (fun vals w' hgr hdep K hK => ?_) (obs_cons (by rfl) (fun vals w' hgr hdep K hK => ?_) (obs_cons (by rfl) (fun vals w' hgr hdep K hK => ?_) (obs_cons (by rfl) (fun vals w' hgr hdep K hK => ?_) (obs_cons (by rfl) (fun vals w' hgr hdep K hK => ?_) (obs_cons (by rfl) (fun vals w' hgr hdep K hK => ?_) (obs_cons (by rfl) (fun vals w' hgr hdep K hK => ?_) (obs_cons (by rfl) (fun vals w' hgr hdep K hK => ?_) (obs_cons (by rfl) (fun vals w' hgr hdep K hK => ?_) (obs_cons (by rfl) (fun vals w' hgr hdep K hK => ?_) (obs_cons (by rfl) (fun vals w' hgr hdep K hK => ?_) (obs_cons (by rfl) (fun vals w' hgr hdep K hK => ?_) (obs_cons (by rfl) (fun vals w' hgr hdep K hK => ?_) (obs_cons (by rfl) (fun vals w' hgr hdep K hK => ?_) (obs_cons (by rfl) (fun vals w' hgr hdep K hK => ?_) (obs_cons (by rfl) (fun vals w' hgr hdep K hK => ?_) (obs_cons (by rfl) (fun vals w' hgr hdep K hK => ?_) (obs_cons (by rfl) (fun vals w' hgr hdep K hK => ?_) (obs_cons (by rfl) (fun vals w' hgr hdep K hK => ?_) (obs_cons (by rfl) (fun vals w' hgr hdep K hK => ?_) (obs_cons (by rfl) (fun vals w' hgr hdep K hK => ?_) (obs_nil)))))))))))))))))))))))))))
    · exact wp_move (.tmp 3) rfl _ (at_out _ (by kernel_rfl) rfl) (hK _ _ (Below.refl _ _) rfl)
    · exact wp_bin (.const (.int .i64 64)) (.tmp 24) rfl _ _ (.int .i64 p.first) rfl ((at_dst 0 (by kernel_rfl)).trans (hdep 0 (by simp) (by kernel_rfl))) (by have := b_add 64 W (.const (.int .i64 64)) (.tmp 24) w' (by omega) (by omega); rwa [W1.out] at this) (hK _ _ (Below.refl _ _) rfl)
    · exact wp_conv (.tmp 25) rfl _ _ ((at_dst 1 (by kernel_rfl)).trans (hdep 1 (by simp) (by kernel_rfl))) (conv_u8 _ _ (by omega) (by omega)) (hK _ _ (Below.refl _ _) rfl)
    · exact wp_field (.tmp 1) rfl _ _ (at_out _ (by kernel_rfl) rfl) (fieldA0 _ _) (hK _ _ (Below.refl _ _) rfl)
    · exact wp_load1 (.tmp 27) rfl ⟨w.heap.size, 0, none⟩ ((at_dst 3 (by kernel_rfl)).trans (hdep 3 (by simp) (by kernel_rfl))) Tryd.underlying3 rfl _ (((PW.out.below hgr PW.out.lt).cell 0).trans rfl) (hK _ _ (Below.refl _ _) rfl)
    · exact wp_conv (.tmp 28) rfl _ _ ((at_dst 4 (by kernel_rfl)).trans (hdep 4 (by simp) (by kernel_rfl))) (conv_u8 _ _ (by omega) (by omega)) (hK _ _ (Below.refl _ _) rfl)
    · exact st_slice8_2 (.tmp 26) (.tmp 29) rfl _ _ ((at_dst 2 (by kernel_rfl)).trans (hdep 2 (by simp) (by kernel_rfl))) ((at_dst 5 (by kernel_rfl)).trans (hdep 5 (by simp) (by kernel_rfl))) (by omega) (by omega) (by omega) (by omega) (fun o => hK _ _ ((Below.refl _ _).alloc (Nat.le_refl _) _) o)
    · exact wp_move (.tmp 3) rfl _ (at_out _ (by kernel_rfl) rfl) (hK _ _ (Below.refl _ _) rfl)
    · exact wp_bin (.const (.int .i64 4)) (.tmp 31) rfl _ _ _ rfl ((at_dst 7 (by kernel_rfl)).trans (hdep 7 (by simp) (by kernel_rfl))) (b_mul _ _ _ _ _ (by omega) (by omega)) (hK _ _ (Below.refl _ _) rfl)
    · exact wp_field (.tmp 1) rfl _ _ (at_out _ (by kernel_rfl) rfl) (fieldA10 _ _) (hK _ _ (Below.refl _ _) rfl)
    · exact wp_load1 (.tmp 33) rfl ⟨w.heap.size, 10, none⟩ ((at_dst 9 (by kernel_rfl)).trans (hdep 9 (by simp) (by kernel_rfl))) Tryd.underlying22 rfl _ (((PW.out.below hgr PW.out.lt).cell 10).trans rfl) (hK _ _ (Below.refl _ _) rfl)
    · exact st_len_bytes (.tmp 34) rfl A n c ((at_dst 10 (by kernel_rfl)).trans (hdep 10 (by simp) (by kernel_rfl))) (hK _ _ (Below.refl _ _) rfl)
    · exact wp_bin (.tmp 32) (.tmp 35) rfl _ _ (.int .i64 TT) ((at_dst 8 (by kernel_rfl)).trans (hdep 8 (by simp) (by kernel_rfl))) ((at_dst 11 (by kernel_rfl)).trans (hdep 11 (by simp) (by kernel_rfl))) (by have := b_add (4 * W) (n : Int) (.tmp 32) (.tmp 35) w' (by omega) (by omega); rwa [W2.out] at this) (hK _ _ (Below.refl _ _) rfl)
    · exact wp_call 29 [.tmp 36] _ rfl ent_two [.int .i64 TT] (congrArg (fun z => [z]) ((at_dst 12 (by kernel_rfl)).trans (hdep 12 (by simp) (by kernel_rfl)))) (fun v w'' => Lies w'' v 2 [TT / 256, TT % 256] ∧ Below w'.heap.size w' w'') ((two_any TT w' (by omega) (by omega)).mono fun e w'' ⟨A, h1, h2, h3⟩ => ⟨_, h1, ⟨A, 2, rfl, h2⟩, h3⟩) (fun v w'' ⟨h1, h2⟩ => hK v _ h2 h1)
    · exact wp_field (.tmp 1) rfl _ _ (at_out _ (by kernel_rfl) rfl) (fieldA1 _ _) (hK _ _ (Below.refl _ _) rfl)
    · exact wp_load1 (.tmp 38) rfl ⟨w.heap.size, 1, none⟩ ((at_dst 14 (by kernel_rfl)).trans (hdep 14 (by simp) (by kernel_rfl))) Tryd.underlying3 rfl _ (((PW.out.below hgr PW.out.lt).cell 1).trans rfl) (hK _ _ (Below.refl _ _) rfl)
    · exact wp_call 29 [.tmp 39] _ rfl ent_two [.int .i64 p.id] (congrArg (fun z => [z]) ((at_dst 15 (by kernel_rfl)).trans (hdep 15 (by simp) (by kernel_rfl)))) (fun v w'' => Lies w'' v 2 [p.id / 256, p.id % 256] ∧ Below w'.heap.size w' w'') ((two_any p.id w' (by omega) (by omega)).mono fun e w'' ⟨A, h1, h2, h3⟩ => ⟨_, h1, ⟨A, 2, rfl, h2⟩, h3⟩) (fun v w'' ⟨h1, h2⟩ => hK v _ h2 h1)
    · exact wp_move (.tmp 4) rfl _ (at_out _ (by kernel_rfl) rfl) (hK _ _ (Below.refl _ _) rfl)
    · exact wp_call 29 [.tmp 41] _ rfl ent_two [.int .i64 p.place] (congrArg (fun z => [z]) ((at_dst 17 (by kernel_rfl)).trans (hdep 17 (by simp) (by kernel_rfl)))) (fun v w'' => Lies w'' v 2 [p.place / 256, p.place % 256] ∧ Below w'.heap.size w' w'') ((two_any p.place w' (by omega) (by omega)).mono fun e w'' ⟨A, h1, h2, h3⟩ => ⟨_, h1, ⟨A, 2, rfl, h2⟩, h3⟩) (fun v w'' ⟨h1, h2⟩ => hK v _ h2 h1)
    · exact wp_field (.tmp 1) rfl _ _ (at_out _ (by kernel_rfl) rfl) (fieldA2 _ _) (hK _ _ (Below.refl _ _) rfl)
    · exact wp_load1 (.tmp 43) rfl ⟨w.heap.size, 2, none⟩ ((at_dst 19 (by kernel_rfl)).trans (hdep 19 (by simp) (by kernel_rfl))) Tryd.underlying3 rfl _ (((PW.out.below hgr PW.out.lt).cell 2).trans rfl) (hK _ _ (Below.refl _ _) rfl)
    · exact wp_conv (.tmp 44) rfl _ _ ((at_dst 20 (by kernel_rfl)).trans (hdep 20 (by simp) (by kernel_rfl))) (conv_u8 _ _ (by omega) (by omega)) (hK _ _ (Below.refl _ _) rfl)
    · exact wp_field (.tmp 1) rfl _ _ (at_out _ (by kernel_rfl) rfl) (fieldA3 _ _) (hK _ _ (Below.refl _ _) rfl)
    · exact wp_load1 (.tmp 46) rfl ⟨w.heap.size, 3, none⟩ ((at_dst 22 (by kernel_rfl)).trans (hdep 22 (by simp) (by kernel_rfl))) Tryd.underlying3 rfl _ (((PW.out.below hgr PW.out.lt).cell 3).trans rfl) (hK _ _ (Below.refl _ _) rfl)
    · exact wp_conv (.tmp 47) rfl _ _ ((at_dst 23 (by kernel_rfl)).trans (hdep 23 (by simp) (by kernel_rfl))) (conv_u8 _ _ (by omega) (by omega)) (hK _ _ (Below.refl _ _) rfl)
    · exact st_slice8_2 (.tmp 45) (.tmp 48) rfl _ _ ((at_dst 21 (by kernel_rfl)).trans (hdep 21 (by simp) (by kernel_rfl))) ((at_dst 24 (by kernel_rfl)).trans (hdep 24 (by simp) (by kernel_rfl))) (by omega) (by omega) (by omega) (by omega) (fun o => hK _ _ ((Below.refl _ _).alloc (Nat.le_refl _) _) o)
    · obtain ⟨A0, c0, e0, l0⟩ := hdep 6 (by simp) (by kernel_rfl)
      obtain ⟨A1, c1, e1, l1⟩ := hdep 13 (by simp) (by kernel_rfl)
      obtain ⟨A2, c2, e2, l2⟩ := hdep 16 (by simp) (by kernel_rfl)
      obtain ⟨A3, c3, e3, l3⟩ := hdep 18 (by simp) (by kernel_rfl)
      obtain ⟨A4, c4, e4, l4⟩ := hdep 25 (by simp) (by kernel_rfl)
      exact st_slice5 (.tmp 30) (.tmp 37) (.tmp 40) (.tmp 42) (.tmp 49) rfl _ _ _ _ _ _ _ _ _ _ _ _ _ _ _ ((at_dst 6 (by kernel_rfl)).trans e0) ((at_dst 13 (by kernel_rfl)).trans e1) ((at_dst 16 (by kernel_rfl)).trans e2) ((at_dst 18 (by kernel_rfl)).trans e3) ((at_dst 25 (by kernel_rfl)).trans e4) (hK _ _ ((Below.refl _ _).alloc (Nat.le_refl _) _) ⟨_, A0, c0, A1, c1, A2, c2, A3, c3, A4, c4, rfl, all_lit _ _ _ _ rfl (mem5 l0 l1 l2 l3 l4)⟩)
  · intro vals w' hgr hG
    obtain ⟨g, A0, c0, A1, c1, A2, c2, A3, c3, A4, c4, eg, al⟩ : ∃ g A0 c0 A1 c1 A2 c2 A3 c3 A4 c4, vals 26 = .slice (some ⟨g, 0, none⟩) 5 5 ∧ Both.All w' w'.heap.size g [⟨A0, 2, c0, [p.first, p.tos]⟩, ⟨A1, 2, c1, [TT / 256, TT % 256]⟩, ⟨A2, 2, c2, [p.id / 256, p.id % 256]⟩, ⟨A3, 2, c3, [p.place / 256, p.place % 256]⟩, ⟨A4, 2, c4, [p.ttl, p.proto]⟩] := hG 26 (by simp)
    refine wp_call 9 [.tmp 50] _ rfl ent_both [.slice (some ⟨g, 0, none⟩) 5 5] (congrArg (fun z => [z]) ((at_dst 26 (by kernel_rfl)).trans eg)) (fun v w'' => Owns w'' w'.heap.size v 10 front ∧ Below w'.heap.size w' w'') ((Both.both_any g 5 5 _ w' al rfl (by decide) (by show 2 + (2 + (2 + (2 + (2 + 0)))) ≤ 1048576; omega)).mono fun e w'' ⟨v, h1, h2, h3⟩ => ⟨v, h1, by rw [FR.out]; exact h2, h3⟩) (fun v2 w2 ⟨o2, hb⟩ => ?_)
    refine wpAnyH_next 28 _ rfl rfl (by kernel_rfl) (st_assign (.tmp 51) _ rfl (put_tmps_eq (fill_size _ _ _) (by kernel_rfl)) ⟨trivial, wpAnyH_done (by kernel_rfl) ?_ _⟩)
    have gr2 : Below w1.heap.size w1 w2 := ((below_drewN (Below.refl w1.heap.size w1) 1).trans hgr).trans (hb.mono hgr.size)
    have B2 := Lib.hid (B1.out.trans (gr2.mono B1.out.size))
    have P2 := Lib.hid (P1.out.below gr2 P1.out.lt)
    obtain ⟨A5, c5, rfl, h5⟩ := o2.slice
    have H5 := Lib.hid h5
    clear hG hgr o2 hb gr2 eg al h5
    simp only [fill, dstAt, List.getElem?_cons_zero, List.getElem?_cons_succ, Option.bind_some, Act.put, List.setIfInBounds_toArray, List.set_cons_zero, List.set_cons_succ]
    generalize vals 0 = x0, vals 1 = x1, vals 2 = x2, vals 3 = x3, vals 4 = x4, vals 5 = x5, vals 6 = x6, vals 7 = x7, vals 8 = x8, vals 9 = x9, vals 10 = x10, vals 11 = x11, vals 12 = x12, vals 13 = x13, vals 14 = x14, vals 15 = x15, vals 16 = x16, vals 17 = x17, vals 18 = x18, vals 19 = x19, vals 20 = x20, vals 21 = x21, vals 22 = x22, vals 23 = x23, vals 24 = x24, vals 25 = x25, vals 26 = x26
    have d7 := P2.out.cell 7
    have d8 := P2.out.cell 8
    have d9 := P2.out.cell 9
    obtain ⟨w3, vb, hr3, ob, hb3⟩ := run_bytes_string w2 (p.src ++ p.dst ++ p.opt) (by simp only [maxLen, ByteArray.size_append]; omega)
    obtain ⟨A6, c6, rfl, h6⟩ := ob.slice
    have B3 := Lib.hid (B2.out.trans (hb3.mono B2.out.size))
    have P3 := Lib.hid (P2.out.below hb3 P2.out.lt)
    have H53 := Lib.hid ((H5.out.below hb3).more hb3.size)
    obtain ⟨bz, hbz⟩ : ∃ bz, bz = (p.src ++ p.dst ++ p.opt).size := ⟨_, rfl⟩
    have hbz' : bz = 8 + p.opt.size := by rw [hbz]; simp only [ByteArray.size_append]; omega
    have RR : nums (p.src ++ p.dst ++ p.opt) = p.rest := by simp [nums, Pkt.rest]
    rw [← hbz, RR] at h6
    rw [← hbz] at hr3
    have H6 := Lib.hid h6
    have HBZ := Lib.hid hbz'
    clear ob hb3 h6 RR hbz'
    clear hbz
    have s1 : (Op.stringOp .add p.src p.dst).run Tryd.prog w2 = .ok (.string (p.src ++ p.dst)) w2 := by simp [go_sem]; omega
    have s2 : (Op.stringOp .add (p.src ++ p.dst) p.opt).run Tryd.prog w2 = .ok (.string (p.src ++ p.dst ++ p.opt)) w2 := by simp [go_sem, ByteArray.size_append]; omega
    go_wp2_with fail
    have HZ := Lib.hid (Holds.lit w3 [0, 0] #[.int .u8 0, .int .u8 0] rfl (by simp [maxLen]) (fun y hy => by simp at hy; omega))
    have g4 := (Below.refl _ w3).alloc (Nat.le_refl _) (.cells #[.int .u8 0, .int .u8 0] 5)
    have B4 := Lib.hid (B3.out.alloc B3.out.size (.cells #[.int .u8 0, .int .u8 0] 5))
    have P4 := Lib.hid (P3.out.alloc (.cells #[.int .u8 0, .int .u8 0] 5))
    have H54 := Lib.hid ((H53.out.below g4).more g4.size)
    have H64 := Lib.hid ((H6.out.below g4).more g4.size)
    have HZ4 : Hid (Holds (w3.alloc (.cells #[.int .u8 0, .int .u8 0] 5)) (w3.alloc (.cells #[.int .u8 0, .int .u8 0] 5)).heap.size (some ⟨w3.heap.size, 0, none⟩) 2 2 [0, 0]) := Lib.hid (by simpa using HZ.out)
    clear g4 HZ
    refine (Both.both_lit (Nat.le_refl _) [⟨A5, 10, c5, front⟩, ⟨some ⟨w3.heap.size, 0, none⟩, 2, 2, [0, 0]⟩, ⟨A6, bz, c6, p.rest⟩] _ _ rfl (Both.mem3 H54.out HZ4.out H64.out) (w3.heap.size + 1) 3 (by simp) rfl (by decide) (by have := HBZ.out; show 10 + (2 + (bz + 0)) ≤ 1048576; omega)).mono ?_
    rintro e w8 ⟨A7, c7, rfl, h7, _, hb⟩
    have B8 := Lib.hid (B4.out.trans (hb.mono B4.out.size))
    have P8 := Lib.hid (P4.out.below hb P4.out.lt)
    have H58 := Lib.hid ((H54.out.below hb).more hb.size)
    have H68 := Lib.hid ((H64.out.below hb).more hb.size)
    have e0 : Both.total [⟨A5, 10, c5, front⟩, ⟨some ⟨w3.heap.size, 0, none⟩, 2, 2, [0, 0]⟩, ⟨A6, bz, c6, p.rest⟩] = 10 + (2 + (bz + 0)) := rfl
    rw [e0] at h7 ⊢
    have h7' : Holds w8 w8.heap.size A7 (10 + (2 + (bz + 0))) c7 (front ++ ([0, 0] ++ (p.rest ++ []))) := h7
    have H7 := Lib.hid h7'
    clear hb h7 h7' e0 H54 H64 HZ4 B4 P4 B3 P3 H53 H6 H5 P2 B2 s1 s2 hr3 d7 d8 d9
    go_wp2_with fail
    refine (RefSum.check_ref A7 _ c7 _ w8 _ H7.out (by have := HBZ.out; omega)).mono ?_
    rintro e wc ⟨rfl, rfl⟩
    rw [CH.out]
    go_wp2_with fail
    have PX := Lib.hid P8.out.drew
    have F5 : Hid (∀ w', Below w8.drew.heap.size w8.drew w' → Holds w' w'.heap.size A5 10 c5 front) := Lib.hid fun w' hw => (H58.out.below ((below_drewN (Below.refl w8.heap.size w8) 1).trans hw)).more hw.size
    have F6 : Hid (∀ w', Below w8.drew.heap.size w8.drew w' → Holds w' w'.heap.size A6 bz c6 p.rest) := Lib.hid fun w' hw => (H68.out.below ((below_drewN (Below.refl w8.heap.size w8) 1).trans hw)).more hw.size
    have F0 : Hid (∀ w', Below w8.drew.heap.size w8.drew w' → Holds w' w'.heap.size A n c l) := Lib.hid fun w' hw => (HL.out.below (B8.out.trans (((below_drewN (Below.refl w8.heap.size w8) 1).trans hw).mono B8.out.size))).more (Nat.le_trans B8.out.size hw.size)
    refine wp_region_free [0, 1, 2, 3, 4, 5, 6] 7 [8] (fun w1 w2 => Below w1.heap.size w1 w2) (fun k' w' v => match k' with
      | 0 => v = .slice A5 10 c5
      | 1 => v = .int .i64 sm
      | 2 => Lies w' v 2 [sm / 256, sm % 256]
      | 3 => v = .slice A6 bz c6
      | 4 => v = .pointer (some ⟨w.heap.size, 10, none⟩)
      | 5 => v = .slice A n c
      | _ => ∃ g A1 c1, v = .slice (some ⟨g, 0, none⟩) 4 4 ∧ Both.All w' w'.heap.size g [⟨A5, 10, c5, front⟩, ⟨A1, 2, c1, [sm / 256, sm % 256]⟩, ⟨A6, bz, c6, p.rest⟩, ⟨A, n, c, l⟩]) (by kernel_rfl) (by kernel_rfl) (Below.refl _ _) (fun _ _ _ h k => h.trans (k.mono h.size)) (fun k' w1 w2 v h => match k' with
      | 0 => fun x => x
      | 1 => fun x => x
      | 2 => fun x => Lies.below x h
      | 3 => fun x => x
      | 4 => fun x => x
      | 5 => fun x => x
      | _ + 6 => fun ⟨g, A1, c1, e, x⟩ => ⟨g, A1, c1, e, all_below x h⟩) (fun _ _ _ _ _ h => h) ?_ _ (by rfl) ?_
    · refine obs_cons (by rfl) (fun vals w' hgr hdep K hK => ?_) (obs_cons (by rfl) (fun vals w' hgr hdep K hK => ?_) (obs_cons (by rfl) (fun vals w' hgr hdep K hK => ?_) (obs_cons (by rfl) (fun vals w' hgr hdep K hK => ?_) (obs_cons (by rfl) (fun vals w' hgr hdep K hK => ?_) (obs_cons (by rfl) (fun vals w' hgr hdep K hK => ?_) (obs_cons (by rfl) (fun vals w' hgr hdep K hK => ?_) (obs_nil)))))))
      · exact wp_move (.tmp 5) rfl _ (at_out _ (by kernel_rfl) rfl) (hK _ _ (Below.refl _ _) rfl)
      · exact wp_move (.tmp 7) rfl _ (at_out _ (by kernel_rfl) rfl) (hK _ _ (Below.refl _ _) rfl)
      · exact wp_call 29 [.tmp 68] _ rfl ent_two [.int .i64 sm] (congrArg (fun z => [z]) ((at_dst 1 (by kernel_rfl)).trans (hdep 1 (by simp) (by kernel_rfl)))) (fun v w'' => Lies w'' v 2 [sm / 256, sm % 256] ∧ Below w'.heap.size w' w'') ((two_any sm w' (by omega) (by omega)).mono fun e w'' ⟨A, h1, h2, h3⟩ => ⟨_, h1, ⟨A, 2, rfl, h2⟩, h3⟩) (fun v w'' ⟨h1, h2⟩ => hK v _ h2 h1)
      · exact wp_move (.tmp 6) rfl _ (at_out _ (by kernel_rfl) rfl) (hK _ _ (Below.refl _ _) rfl)
      · exact wp_field (.tmp 1) rfl _ _ (at_out _ (by kernel_rfl) rfl) (fieldA10 _ _) (hK _ _ (Below.refl _ _) rfl)
      · exact wp_load1 (.tmp 71) rfl ⟨w.heap.size, 10, none⟩ ((at_dst 4 (by kernel_rfl)).trans (hdep 4 (by simp) (by kernel_rfl))) Tryd.underlying22 rfl _ (((PX.out.below hgr PX.out.lt).cell 10).trans rfl) (hK _ _ (Below.refl _ _) rfl)
      · obtain ⟨A1, c1, e1, l1⟩ := hdep 2 (by simp) (by kernel_rfl)
        exact st_slice4 (.tmp 67) (.tmp 69) (.tmp 70) (.tmp 72) rfl _ _ _ _ _ _ _ _ _ _ _ _ ((at_dst 0 (by kernel_rfl)).trans (hdep 0 (by simp) (by kernel_rfl))) ((at_dst 2 (by kernel_rfl)).trans e1) ((at_dst 3 (by kernel_rfl)).trans (hdep 3 (by simp) (by kernel_rfl))) ((at_dst 5 (by kernel_rfl)).trans (hdep 5 (by simp) (by kernel_rfl))) (hK _ _ ((Below.refl _ _).alloc (Nat.le_refl _) _) ⟨_, A1, c1, rfl, all_lit _ _ _ _ rfl (mem4 (F5.out w' hgr) l1 (F6.out w' hgr) (F0.out w' hgr))⟩)
    · intro vals w' hgr hG
      have hbz' := HBZ.out
      obtain ⟨g, A1, c1, eg, al⟩ : ∃ g A1 c1, vals 6 = .slice (some ⟨g, 0, none⟩) 4 4 ∧ Both.All w' w'.heap.size g [⟨A5, 10, c5, front⟩, ⟨A1, 2, c1, [sm / 256, sm % 256]⟩, ⟨A6, bz, c6, p.rest⟩, ⟨A, n, c, l⟩] := hG 6 (by simp)
      refine wp_call 9 [.tmp 73] _ rfl ent_both [.slice (some ⟨g, 0, none⟩) 4 4] (congrArg (fun z => [z]) ((at_dst 6 (by kernel_rfl)).trans eg)) (fun v w'' => Owns w'' w'.heap.size v (20 + p.opt.size + n) (p.bytes l) ∧ Below w'.heap.size w' w'') ((Both.both_any g 4 4 _ w' al rfl (by decide) (by show 10 + (2 + (bz + (n + 0))) ≤ 1048576; omega)).mono fun e w'' ⟨v, h1, h2, h3⟩ => ⟨v, h1, by rw [(by show 10 + (2 + (bz + (n + 0))) = 20 + p.opt.size + n; omega : Both.total [⟨A5, 10, c5, front⟩, ⟨A1, 2, c1, [sm / 256, sm % 256]⟩, ⟨A6, bz, c6, p.rest⟩, ⟨A, n, c, l⟩] = 20 + p.opt.size + n)] at h2; rw [FIN.out]; simpa [Both.flat] using h2, h3⟩) (fun v2 w9 ⟨o9, hb⟩ => ?_)
      refine wpAnyH_next 8 _ rfl rfl (by kernel_rfl) (st_assign (.tmp 74) _ rfl (put_tmps_eq (fill_size _ _ _) (by kernel_rfl)) ⟨trivial, wpAnyH_done (by kernel_rfl) ?_ _⟩)
      have B9 := Lib.hid (B8.out.trans ((((below_drewN (Below.refl w8.heap.size w8) 1).trans hgr).trans (hb.mono hgr.size)).mono B8.out.size))
      have o9' := o9.mono (Nat.le_trans B8.out.size hgr.size)
      clear hG hgr o9 hb eg al hbz'
      simp only [fill, dstAt, List.getElem?_cons_zero, List.getElem?_cons_succ, Option.bind_some, Act.put, List.setIfInBounds_toArray, List.set_cons_zero, List.set_cons_succ]
      generalize vals 0 = z0, vals 1 = z1, vals 2 = z2, vals 3 = z3, vals 4 = z4, vals 5 = z5, vals 6 = z6
      go_wp2_with fail
      go_ret
      exact ⟨_, rfl, o9', B9.out⟩
set_option maxHeartbeats 8000000 in
set_option maxRecDepth 100000 in
theorem bytes_false_true (p : Pkt) (A : Option Addr) (n c : Nat) (l : List Int) (w : World) (h : Holds w w.heap.size A n c l) (hv : Valid p) (hn : 20 + p.opt.size + n ≤ 65535) (hdf : p.df = false) (hmf : p.mf = true) :
    Calls Tryd.prog 15 #[.agg #[.int .i64 p.tos, .int .i64 p.id, .int .i64 p.ttl, .int .i64 p.proto, .bool false, .bool true, .int .i64 p.off, .string p.src, .string p.dst, .string p.opt, .slice A n c]] w fun e w' => ∃ v, e = .returned v ∧ Owns w' w.heap.size v (20 + p.opt.size + n) (p.bytes l) ∧ Below w.heap.size w w' := by
  obtain ⟨t0, t1, l0, l1, p0, p1, i0, i1, o0, o1, o8, vs, vd, vz, vz4⟩ := hv
  obtain ⟨W, hW⟩ : ∃ W, W = 5 + (p.opt.size : Int) / 4 := ⟨_, rfl⟩
  obtain ⟨TT, hTT⟩ : ∃ TT, TT = p.total n := ⟨_, rfl⟩
  have TB : TT = 20 + (p.opt.size : Int) + (n : Int) := by rw [hTT]; rfl
  have W1 : Hid (64 + W = p.first) := Lib.hid (by rw [hW]; rfl)
  have W2 : Hid (4 * W + (n : Int) = TT) := Lib.hid (by rw [hW, TB]; omega)
  have hpl : p.off / 8 + 8192 = p.place := by unfold Pkt.place; rw [hdf, hmf]; simp
  have fb : 0 ≤ p.first ∧ p.first ≤ 255 := by rw [← W1.out, hW]; omega
  have pb : 0 ≤ p.place ∧ p.place ≤ 32767 := by rw [← hpl]; omega
  have wb : 5 ≤ W ∧ W ≤ 15 := by rw [hW]; omega
  have tb : 0 ≤ TT ∧ TT ≤ 65535 := by rw [TB]; omega
  have hl := h.1
  obtain ⟨front, hf⟩ : ∃ front, front = [p.first, p.tos, TT / 256, TT % 256, p.id / 256, p.id % 256, p.place / 256, p.place % 256, p.ttl, p.proto] := ⟨_, rfl⟩
  have FR := Lib.hid hf
  obtain ⟨sm, hsm⟩ : ∃ sm, sm = p.sum n := ⟨_, rfl⟩
  have CH : Hid (check (front ++ ([0, 0] ++ (p.rest ++ []))) = sm) := Lib.hid (by rw [hsm, hf, hTT]; simp [Pkt.sum, Pkt.head, numsOf])
  have FIN : Hid (p.bytes l = front ++ ([sm / 256, sm % 256] ++ (p.rest ++ l))) := Lib.hid (by rw [Pkt.bytes, hl, ← hsm, Pkt.head, ← hTT, numsOf, hf]; simp)
  have smb := sum_in p n
  rw [← hsm] at smb
  have hpl' := Lib.hid hpl
  have hW' := Lib.hid hW
  have e8 : p.off.tdiv 8 = p.off / 8 := Int.tdiv_eq_ediv_of_nonneg o0
  have HL := Lib.hid h
  have B1 := Lib.hid ((Below.refl w.heap.size w).alloc (Nat.le_refl _) (.cells #[.int .i64 p.tos, .int .i64 p.id, .int .i64 p.ttl, .int .i64 p.proto, .bool false, .bool true, .int .i64 p.off, .string p.src, .string p.dst, .string p.opt, .slice A n c] 24))
  have P1 := Lib.hid (Blk.new w 24 #[.int .i64 p.tos, .int .i64 p.id, .int .i64 p.ttl, .int .i64 p.proto, .bool false, .bool true, .int .i64 p.off, .string p.src, .string p.dst, .string p.opt, .slice A n c])
  clear h hdf hmf hW hTT TB hpl hf hsm hl
  go_enter Tryd.func15, Tryd.ntmps15
  go_wp2_with fail
  rw [← hW'.out, hpl'.out]
  generalize w.alloc (.cells #[.int .i64 p.tos, .int .i64 p.id, .int .i64 p.ttl, .int .i64 p.proto, .bool false, .bool true, .int .i64 p.off, .string p.src, .string p.dst, .string p.opt, .slice A n c] 24) = w1 at *
  have PW := Lib.hid P1.out.drew
  clear e8
  refine wp_region_free [0, 1, 2, 3, 4, 5, 6, 7, 8, 9, 10, 11, 12, 13, 14, 15, 16, 17, 18, 19, 20, 21, 22, 23, 24, 25, 26] 27 [28] (fun w1 w2 => Below w1.heap.size w1 w2) (fun k' w' v => match k' with
    | 0 => v = .int .i64 W
    | 1 => v = .int .i64 p.first
    | 2 => v = .int .u8 p.first
    | 3 => v = .pointer (some ⟨w.heap.size, 0, none⟩)
    | 4 => v = .int .i64 p.tos
    | 5 => v = .int .u8 p.tos
    | 6 => Lies w' v 2 [p.first, p.tos]
    | 7 => v = .int .i64 W
    | 8 => v = .int .i64 (4 * W)
    | 9 => v = .pointer (some ⟨w.heap.size, 10, none⟩)
    | 10 => v = .slice A n c
    | 11 => v = .int .i64 ((n : Int))
    | 12 => v = .int .i64 TT
    | 13 => Lies w' v 2 [TT / 256, TT % 256]
    | 14 => v = .pointer (some ⟨w.heap.size, 1, none⟩)
    | 15 => v = .int .i64 p.id
    | 16 => Lies w' v 2 [p.id / 256, p.id % 256]
    | 17 => v = .int .i64 p.place
    | 18 => Lies w' v 2 [p.place / 256, p.place % 256]
    | 19 => v = .pointer (some ⟨w.heap.size, 2, none⟩)
    | 20 => v = .int .i64 p.ttl
    | 21 => v = .int .u8 p.ttl
    | 22 => v = .pointer (some ⟨w.heap.size, 3, none⟩)
    | 23 => v = .int .i64 p.proto
    | 24 => v = .int .u8 p.proto
    | 25 => Lies w' v 2 [p.ttl, p.proto]
    | _ => ∃ g A0 c0 A1 c1 A2 c2 A3 c3 A4 c4, v = .slice (some ⟨g, 0, none⟩) 5 5 ∧ Both.All w' w'.heap.size g [⟨A0, 2, c0, [p.first, p.tos]⟩, ⟨A1, 2, c1, [TT / 256, TT % 256]⟩, ⟨A2, 2, c2, [p.id / 256, p.id % 256]⟩, ⟨A3, 2, c3, [p.place / 256, p.place % 256]⟩, ⟨A4, 2, c4, [p.ttl, p.proto]⟩]) (by kernel_rfl) (by kernel_rfl) (Below.refl _ _) (fun _ _ _ h k => h.trans (k.mono h.size)) (fun k' w1 w2 v h => match k' with
    | 0 => fun x => x
    | 1 => fun x => x
    | 2 => fun x => x
    | 3 => fun x => x
    | 4 => fun x => x
    | 5 => fun x => x
    | 6 => fun x => Lies.below x h
    | 7 => fun x => x
    | 8 => fun x => x
    | 9 => fun x => x
    | 10 => fun x => x
    | 11 => fun x => x
    | 12 => fun x => x
    | 13 => fun x => Lies.below x h
    | 14 => fun x => x
    | 15 => fun x => x
    | 16 => fun x => Lies.below x h
    | 17 => fun x => x
    | 18 => fun x => Lies.below x h
    | 19 => fun x => x
    | 20 => fun x => x
    | 21 => fun x => x
    | 22 => fun x => x
    | 23 => fun x => x
    | 24 => fun x => x
    | 25 => fun x => Lies.below x h
    | _ + 26 => fun ⟨g, A0, c0, A1, c1, A2, c2, A3, c3, A4, c4, e, x⟩ => ⟨g, A0, c0, A1, c1, A2, c2, A3, c3, A4, c4, e, all_below x h⟩) (fun _ _ _ _ _ h => h) ?_ _ (by rfl) ?_
  · refine obs_cons (by rfl) (fun vals w' hgr hdep K hK => ?_) (obs_cons (by rfl) (fun vals w' hgr hdep K hK => ?_) (obs_cons (by rfl) (fun vals w' hgr hdep K hK => ?_) (obs_cons (by rfl) (fun vals w' hgr hdep K hK => ?_) (obs_cons (by rfl) (fun vals w' hgr hdep K hK => ?_) (obs_cons (by rfl) (fun vals w' hgr hdep K hK => ?_) (obs_cons (by rfl) (fun vals w' hgr hdep K hK => ?_) (obs_cons (by rfl) (fun vals w' hgr hdep K hK => ?_) (obs_cons (by rfl) (fun vals w' hgr hdep K hK => ?_) (obs_cons (by rfl) (fun vals w' hgr hdep K hK => ?_) (obs_cons (by rfl) (fun vals w' hgr hdep K hK => ?_) (obs_cons (by rfl) (fun vals w' hgr hdep K hK => ?_) (obs_cons (by rfl) (fun vals w' hgr hdep K hK => ?_) (obs_cons (by rfl) (fun vals w' hgr hdep K hK => ?_) (obs_cons (by rfl) (fun vals w' hgr hdep K hK => ?_) (obs_cons (by rfl) (fun vals w' hgr hdep K hK => ?_) (obs_cons (by rfl) (fun vals w' hgr hdep K hK => ?_) (obs_cons (by rfl) (fun vals w' hgr hdep K hK => ?_) (obs_cons (by rfl) (fun vals w' hgr hdep K hK => ?_) (obs_cons (by rfl) (fun vals w' hgr hdep K hK => ?_) (obs_cons (by rfl) (fun vals w' hgr hdep K hK => ?_) (obs_cons (by rfl) (fun vals w' hgr hdep K hK => ?_) (obs_cons (by rfl) (fun vals w' hgr hdep K hK => ?_) (obs_cons (by rfl) (fun vals w' hgr hdep K hK => ?_) (obs_cons (by rfl) (fun vals w' hgr hdep K hK => ?_) (obs_cons (by rfl) (fun vals w' hgr hdep K hK => ?_) (obs_cons (by rfl) (fun vals w' hgr hdep K hK => ?_) (obs_nil)))))))))))))))))))))))))))
    · exact wp_move (.tmp 3) rfl _ (at_out _ (by kernel_rfl) rfl) (hK _ _ (Below.refl _ _) rfl)
    · exact wp_bin (.const (.int .i64 64)) (.tmp 24) rfl _ _ (.int .i64 p.first) rfl ((at_dst 0 (by kernel_rfl)).trans (hdep 0 (by simp) (by kernel_rfl))) (by have := b_add 64 W (.const (.int .i64 64)) (.tmp 24) w' (by omega) (by omega); rwa [W1.out] at this) (hK _ _ (Below.refl _ _) rfl)
    · exact wp_conv (.tmp 25) rfl _ _ ((at_dst 1 (by kernel_rfl)).trans (hdep 1 (by simp) (by kernel_rfl))) (conv_u8 _ _ (by omega) (by omega)) (hK _ _ (Below.refl _ _) rfl)
    · exact wp_field (.tmp 1) rfl _ _ (at_out _ (by kernel_rfl) rfl) (fieldA0 _ _) (hK _ _ (Below.refl _ _) rfl)
    · exact wp_load1 (.tmp 27) rfl ⟨w.heap.size, 0, none⟩ ((at_dst 3 (by kernel_rfl)).trans (hdep 3 (by simp) (by kernel_rfl))) Tryd.underlying3 rfl _ (((PW.out.below hgr PW.out.lt).cell 0).trans rfl) (hK _ _ (Below.refl _ _) rfl)
    · exact wp_conv (.tmp 28) rfl _ _ ((at_dst 4 (by kernel_rfl)).trans (hdep 4 (by simp) (by kernel_rfl))) (conv_u8 _ _ (by omega) (by omega)) (hK _ _ (Below.refl _ _) rfl)
    · exact st_slice8_2 (.tmp 26) (.tmp 29) rfl _ _ ((at_dst 2 (by kernel_rfl)).trans (hdep 2 (by simp) (by kernel_rfl))) ((at_dst 5 (by kernel_rfl)).trans (hdep 5 (by simp) (by kernel_rfl))) (by omega) (by omega) (by omega) (by omega) (fun o => hK _ _ ((Below.refl _ _).alloc (Nat.le_refl _) _) o)
    · exact wp_move (.tmp 3) rfl _ (at_out _ (by kernel_rfl) rfl) (hK _ _ (Below.refl _ _) rfl)
    · exact wp_bin (.const (.int .i64 4)) (.tmp 31) rfl _ _ _ rfl ((at_dst 7 (by kernel_rfl)).trans (hdep 7 (by simp) (by kernel_rfl))) (b_mul _ _ _ _ _ (by omega) (by omega)) (hK _ _ (Below.refl _ _) rfl)
    · exact wp_field (.tmp 1) rfl _ _ (at_out _ (by kernel_rfl) rfl) (fieldA10 _ _) (hK _ _ (Below.refl _ _) rfl)
    · exact wp_load1 (.tmp 33) rfl ⟨w.heap.size, 10, none⟩ ((at_dst 9 (by kernel_rfl)).trans (hdep 9 (by simp) (by kernel_rfl))) Tryd.underlying22 rfl _ (((PW.out.below hgr PW.out.lt).cell 10).trans rfl) (hK _ _ (Below.refl _ _) rfl)
    · exact st_len_bytes (.tmp 34) rfl A n c ((at_dst 10 (by kernel_rfl)).trans (hdep 10 (by simp) (by kernel_rfl))) (hK _ _ (Below.refl _ _) rfl)
    · exact wp_bin (.tmp 32) (.tmp 35) rfl _ _ (.int .i64 TT) ((at_dst 8 (by kernel_rfl)).trans (hdep 8 (by simp) (by kernel_rfl))) ((at_dst 11 (by kernel_rfl)).trans (hdep 11 (by simp) (by kernel_rfl))) (by have := b_add (4 * W) (n : Int) (.tmp 32) (.tmp 35) w' (by omega) (by omega); rwa [W2.out] at this) (hK _ _ (Below.refl _ _) rfl)
    · exact wp_call 29 [.tmp 36] _ rfl ent_two [.int .i64 TT] (congrArg (fun z => [z]) ((at_dst 12 (by kernel_rfl)).trans (hdep 12 (by simp) (by kernel_rfl)))) (fun v w'' => Lies w'' v 2 [TT / 256, TT % 256] ∧ Below w'.heap.size w' w'') ((two_any TT w' (by omega) (by omega)).mono fun e w'' ⟨A, h1, h2, h3⟩ => ⟨_, h1, ⟨A, 2, rfl, h2⟩, h3⟩) (fun v w'' ⟨h1, h2⟩ => hK v _ h2 h1)
    · exact wp_field (.tmp 1) rfl _ _ (at_out _ (by kernel_rfl) rfl) (fieldA1 _ _) (hK _ _ (Below.refl _ _) rfl)
    · exact wp_load1 (.tmp 38) rfl ⟨w.heap.size, 1, none⟩ ((at_dst 14 (by kernel_rfl)).trans (hdep 14 (by simp) (by kernel_rfl))) Tryd.underlying3 rfl _ (((PW.out.below hgr PW.out.lt).cell 1).trans rfl) (hK _ _ (Below.refl _ _) rfl)
    · exact wp_call 29 [.tmp 39] _ rfl ent_two [.int .i64 p.id] (congrArg (fun z => [z]) ((at_dst 15 (by kernel_rfl)).trans (hdep 15 (by simp) (by kernel_rfl)))) (fun v w'' => Lies w'' v 2 [p.id / 256, p.id % 256] ∧ Below w'.heap.size w' w'') ((two_any p.id w' (by omega) (by omega)).mono fun e w'' ⟨A, h1, h2, h3⟩ => ⟨_, h1, ⟨A, 2, rfl, h2⟩, h3⟩) (fun v w'' ⟨h1, h2⟩ => hK v _ h2 h1)
    · exact wp_move (.tmp 4) rfl _ (at_out _ (by kernel_rfl) rfl) (hK _ _ (Below.refl _ _) rfl)
    · exact wp_call 29 [.tmp 41] _ rfl ent_two [.int .i64 p.place] (congrArg (fun z => [z]) ((at_dst 17 (by kernel_rfl)).trans (hdep 17 (by simp) (by kernel_rfl)))) (fun v w'' => Lies w'' v 2 [p.place / 256, p.place % 256] ∧ Below w'.heap.size w' w'') ((two_any p.place w' (by omega) (by omega)).mono fun e w'' ⟨A, h1, h2, h3⟩ => ⟨_, h1, ⟨A, 2, rfl, h2⟩, h3⟩) (fun v w'' ⟨h1, h2⟩ => hK v _ h2 h1)
    · exact wp_field (.tmp 1) rfl _ _ (at_out _ (by kernel_rfl) rfl) (fieldA2 _ _) (hK _ _ (Below.refl _ _) rfl)
    · exact wp_load1 (.tmp 43) rfl ⟨w.heap.size, 2, none⟩ ((at_dst 19 (by kernel_rfl)).trans (hdep 19 (by simp) (by kernel_rfl))) Tryd.underlying3 rfl _ (((PW.out.below hgr PW.out.lt).cell 2).trans rfl) (hK _ _ (Below.refl _ _) rfl)
    · exact wp_conv (.tmp 44) rfl _ _ ((at_dst 20 (by kernel_rfl)).trans (hdep 20 (by simp) (by kernel_rfl))) (conv_u8 _ _ (by omega) (by omega)) (hK _ _ (Below.refl _ _) rfl)
    · exact wp_field (.tmp 1) rfl _ _ (at_out _ (by kernel_rfl) rfl) (fieldA3 _ _) (hK _ _ (Below.refl _ _) rfl)
    · exact wp_load1 (.tmp 46) rfl ⟨w.heap.size, 3, none⟩ ((at_dst 22 (by kernel_rfl)).trans (hdep 22 (by simp) (by kernel_rfl))) Tryd.underlying3 rfl _ (((PW.out.below hgr PW.out.lt).cell 3).trans rfl) (hK _ _ (Below.refl _ _) rfl)
    · exact wp_conv (.tmp 47) rfl _ _ ((at_dst 23 (by kernel_rfl)).trans (hdep 23 (by simp) (by kernel_rfl))) (conv_u8 _ _ (by omega) (by omega)) (hK _ _ (Below.refl _ _) rfl)
    · exact st_slice8_2 (.tmp 45) (.tmp 48) rfl _ _ ((at_dst 21 (by kernel_rfl)).trans (hdep 21 (by simp) (by kernel_rfl))) ((at_dst 24 (by kernel_rfl)).trans (hdep 24 (by simp) (by kernel_rfl))) (by omega) (by omega) (by omega) (by omega) (fun o => hK _ _ ((Below.refl _ _).alloc (Nat.le_refl _) _) o)
    · obtain ⟨A0, c0, e0, l0⟩ := hdep 6 (by simp) (by kernel_rfl)
      obtain ⟨A1, c1, e1, l1⟩ := hdep 13 (by simp) (by kernel_rfl)
      obtain ⟨A2, c2, e2, l2⟩ := hdep 16 (by simp) (by kernel_rfl)
      obtain ⟨A3, c3, e3, l3⟩ := hdep 18 (by simp) (by kernel_rfl)
      obtain ⟨A4, c4, e4, l4⟩ := hdep 25 (by simp) (by kernel_rfl)
      exact st_slice5 (.tmp 30) (.tmp 37) (.tmp 40) (.tmp 42) (.tmp 49) rfl _ _ _ _ _ _ _ _ _ _ _ _ _ _ _ ((at_dst 6 (by kernel_rfl)).trans e0) ((at_dst 13 (by kernel_rfl)).trans e1) ((at_dst 16 (by kernel_rfl)).trans e2) ((at_dst 18 (by kernel_rfl)).trans e3) ((at_dst 25 (by kernel_rfl)).trans e4) (hK _ _ ((Below.refl _ _).alloc (Nat.le_refl _) _) ⟨_, A0, c0, A1, c1, A2, c2, A3, c3, A4, c4, rfl, all_lit _ _ _ _ rfl (mem5 l0 l1 l2 l3 l4)⟩)
  · intro vals w' hgr hG
    obtain ⟨g, A0, c0, A1, c1, A2, c2, A3, c3, A4, c4, eg, al⟩ : ∃ g A0 c0 A1 c1 A2 c2 A3 c3 A4 c4, vals 26 = .slice (some ⟨g, 0, none⟩) 5 5 ∧ Both.All w' w'.heap.size g [⟨A0, 2, c0, [p.first, p.tos]⟩, ⟨A1, 2, c1, [TT / 256, TT % 256]⟩, ⟨A2, 2, c2, [p.id / 256, p.id % 256]⟩, ⟨A3, 2, c3, [p.place / 256, p.place % 256]⟩, ⟨A4, 2, c4, [p.ttl, p.proto]⟩] := hG 26 (by simp)
    refine wp_call 9 [.tmp 50] _ rfl ent_both [.slice (some ⟨g, 0, none⟩) 5 5] (congrArg (fun z => [z]) ((at_dst 26 (by kernel_rfl)).trans eg)) (fun v w'' => Owns w'' w'.heap.size v 10 front ∧ Below w'.heap.size w' w'') ((Both.both_any g 5 5 _ w' al rfl (by decide) (by show 2 + (2 + (2 + (2 + (2 + 0)))) ≤ 1048576; omega)).mono fun e w'' ⟨v, h1, h2, h3⟩ => ⟨v, h1, by rw [FR.out]; exact h2, h3⟩) (fun v2 w2 ⟨o2, hb⟩ => ?_)
    refine wpAnyH_next 28 _ rfl rfl (by kernel_rfl) (st_assign (.tmp 51) _ rfl (put_tmps_eq (fill_size _ _ _) (by kernel_rfl)) ⟨trivial, wpAnyH_done (by kernel_rfl) ?_ _⟩)
    have gr2 : Below w1.heap.size w1 w2 := ((below_drewN (Below.refl w1.heap.size w1) 1).trans hgr).trans (hb.mono hgr.size)
    have B2 := Lib.hid (B1.out.trans (gr2.mono B1.out.size))
    have P2 := Lib.hid (P1.out.below gr2 P1.out.lt)
    obtain ⟨A5, c5, rfl, h5⟩ := o2.slice
    have H5 := Lib.hid h5
    clear hG hgr o2 hb gr2 eg al h5
    simp only [fill, dstAt, List.getElem?_cons_zero, List.getElem?_cons_succ, Option.bind_some, Act.put, List.setIfInBounds_toArray, List.set_cons_zero, List.set_cons_succ]
    generalize vals 0 = x0, vals 1 = x1, vals 2 = x2, vals 3 = x3, vals 4 = x4, vals 5 = x5, vals 6 = x6, vals 7 = x7, vals 8 = x8, vals 9 = x9, vals 10 = x10, vals 11 = x11, vals 12 = x12, vals 13 = x13, vals 14 = x14, vals 15 = x15, vals 16 = x16, vals 17 = x17, vals 18 = x18, vals 19 = x19, vals 20 = x20, vals 21 = x21, vals 22 = x22, vals 23 = x23, vals 24 = x24, vals 25 = x25, vals 26 = x26
    have d7 := P2.out.cell 7
    have d8 := P2.out.cell 8
    have d9 := P2.out.cell 9
    obtain ⟨w3, vb, hr3, ob, hb3⟩ := run_bytes_string w2 (p.src ++ p.dst ++ p.opt) (by simp only [maxLen, ByteArray.size_append]; omega)
    obtain ⟨A6, c6, rfl, h6⟩ := ob.slice
    have B3 := Lib.hid (B2.out.trans (hb3.mono B2.out.size))
    have P3 := Lib.hid (P2.out.below hb3 P2.out.lt)
    have H53 := Lib.hid ((H5.out.below hb3).more hb3.size)
    obtain ⟨bz, hbz⟩ : ∃ bz, bz = (p.src ++ p.dst ++ p.opt).size := ⟨_, rfl⟩
    have hbz' : bz = 8 + p.opt.size := by rw [hbz]; simp only [ByteArray.size_append]; omega
    have RR : nums (p.src ++ p.dst ++ p.opt) = p.rest := by simp [nums, Pkt.rest]
    rw [← hbz, RR] at h6
    rw [← hbz] at hr3
    have H6 := Lib.hid h6
    have HBZ := Lib.hid hbz'
    clear ob hb3 h6 RR hbz'
    clear hbz
    have s1 : (Op.stringOp .add p.src p.dst).run Tryd.prog w2 = .ok (.string (p.src ++ p.dst)) w2 := by simp [go_sem]; omega
    have s2 : (Op.stringOp .add (p.src ++ p.dst) p.opt).run Tryd.prog w2 = .ok (.string (p.src ++ p.dst ++ p.opt)) w2 := by simp [go_sem, ByteArray.size_append]; omega
    go_wp2_with fail
    have HZ := Lib.hid (Holds.lit w3 [0, 0] #[.int .u8 0, .int .u8 0] rfl (by simp [maxLen]) (fun y hy => by simp at hy; omega))
    have g4 := (Below.refl _ w3).alloc (Nat.le_refl _) (.cells #[.int .u8 0, .int .u8 0] 5)
    have B4 := Lib.hid (B3.out.alloc B3.out.size (.cells #[.int .u8 0, .int .u8 0] 5))
    have P4 := Lib.hid (P3.out.alloc (.cells #[.int .u8 0, .int .u8 0] 5))
    have H54 := Lib.hid ((H53.out.below g4).more g4.size)
    have H64 := Lib.hid ((H6.out.below g4).more g4.size)
    have HZ4 : Hid (Holds (w3.alloc (.cells #[.int .u8 0, .int .u8 0] 5)) (w3.alloc (.cells #[.int .u8 0, .int .u8 0] 5)).heap.size (some ⟨w3.heap.size, 0, none⟩) 2 2 [0, 0]) := Lib.hid (by simpa using HZ.out)
    clear g4 HZ
    refine (Both.both_lit (Nat.le_refl _) [⟨A5, 10, c5, front⟩, ⟨some ⟨w3.heap.size, 0, none⟩, 2, 2, [0, 0]⟩, ⟨A6, bz, c6, p.rest⟩] _ _ rfl (Both.mem3 H54.out HZ4.out H64.out) (w3.heap.size + 1) 3 (by simp) rfl (by decide) (by have := HBZ.out; show 10 + (2 + (bz + 0)) ≤ 1048576; omega)).mono ?_
    rintro e w8 ⟨A7, c7, rfl, h7, _, hb⟩
    have B8 := Lib.hid (B4.out.trans (hb.mono B4.out.size))
    have P8 := Lib.hid (P4.out.below hb P4.out.lt)
    have H58 := Lib.hid ((H54.out.below hb).more hb.size)
    have H68 := Lib.hid ((H64.out.below hb).more hb.size)
    have e0 : Both.total [⟨A5, 10, c5, front⟩, ⟨some ⟨w3.heap.size, 0, none⟩, 2, 2, [0, 0]⟩, ⟨A6, bz, c6, p.rest⟩] = 10 + (2 + (bz + 0)) := rfl
    rw [e0] at h7 ⊢
    have h7' : Holds w8 w8.heap.size A7 (10 + (2 + (bz + 0))) c7 (front ++ ([0, 0] ++ (p.rest ++ []))) := h7
    have H7 := Lib.hid h7'
    clear hb h7 h7' e0 H54 H64 HZ4 B4 P4 B3 P3 H53 H6 H5 P2 B2 s1 s2 hr3 d7 d8 d9
    go_wp2_with fail
    refine (RefSum.check_ref A7 _ c7 _ w8 _ H7.out (by have := HBZ.out; omega)).mono ?_
    rintro e wc ⟨rfl, rfl⟩
    rw [CH.out]
    go_wp2_with fail
    have PX := Lib.hid P8.out.drew
    have F5 : Hid (∀ w', Below w8.drew.heap.size w8.drew w' → Holds w' w'.heap.size A5 10 c5 front) := Lib.hid fun w' hw => (H58.out.below ((below_drewN (Below.refl w8.heap.size w8) 1).trans hw)).more hw.size
    have F6 : Hid (∀ w', Below w8.drew.heap.size w8.drew w' → Holds w' w'.heap.size A6 bz c6 p.rest) := Lib.hid fun w' hw => (H68.out.below ((below_drewN (Below.refl w8.heap.size w8) 1).trans hw)).more hw.size
    have F0 : Hid (∀ w', Below w8.drew.heap.size w8.drew w' → Holds w' w'.heap.size A n c l) := Lib.hid fun w' hw => (HL.out.below (B8.out.trans (((below_drewN (Below.refl w8.heap.size w8) 1).trans hw).mono B8.out.size))).more (Nat.le_trans B8.out.size hw.size)
    refine wp_region_free [0, 1, 2, 3, 4, 5, 6] 7 [8] (fun w1 w2 => Below w1.heap.size w1 w2) (fun k' w' v => match k' with
      | 0 => v = .slice A5 10 c5
      | 1 => v = .int .i64 sm
      | 2 => Lies w' v 2 [sm / 256, sm % 256]
      | 3 => v = .slice A6 bz c6
      | 4 => v = .pointer (some ⟨w.heap.size, 10, none⟩)
      | 5 => v = .slice A n c
      | _ => ∃ g A1 c1, v = .slice (some ⟨g, 0, none⟩) 4 4 ∧ Both.All w' w'.heap.size g [⟨A5, 10, c5, front⟩, ⟨A1, 2, c1, [sm / 256, sm % 256]⟩, ⟨A6, bz, c6, p.rest⟩, ⟨A, n, c, l⟩]) (by kernel_rfl) (by kernel_rfl) (Below.refl _ _) (fun _ _ _ h k => h.trans (k.mono h.size)) (fun k' w1 w2 v h => match k' with
      | 0 => fun x => x
      | 1 => fun x => x
      | 2 => fun x => Lies.below x h
      | 3 => fun x => x
      | 4 => fun x => x
      | 5 => fun x => x
      | _ + 6 => fun ⟨g, A1, c1, e, x⟩ => ⟨g, A1, c1, e, all_below x h⟩) (fun _ _ _ _ _ h => h) ?_ _ (by rfl) ?_
    · refine obs_cons (by rfl) (fun vals w' hgr hdep K hK => ?_) (obs_cons (by rfl) (fun vals w' hgr hdep K hK => ?_) (obs_cons (by rfl) (fun vals w' hgr hdep K hK => ?_) (obs_cons (by rfl) (fun vals w' hgr hdep K hK => ?_) (obs_cons (by rfl) (fun vals w' hgr hdep K hK => ?_) (obs_cons (by rfl) (fun vals w' hgr hdep K hK => ?_) (obs_cons (by rfl) (fun vals w' hgr hdep K hK => ?_) (obs_nil)))))))
      · exact wp_move (.tmp 5) rfl _ (at_out _ (by kernel_rfl) rfl) (hK _ _ (Below.refl _ _) rfl)
      · exact wp_move (.tmp 7) rfl _ (at_out _ (by kernel_rfl) rfl) (hK _ _ (Below.refl _ _) rfl)
      · exact wp_call 29 [.tmp 68] _ rfl ent_two [.int .i64 sm] (congrArg (fun z => [z]) ((at_dst 1 (by kernel_rfl)).trans (hdep 1 (by simp) (by kernel_rfl)))) (fun v w'' => Lies w'' v 2 [sm / 256, sm % 256] ∧ Below w'.heap.size w' w'') ((two_any sm w' (by omega) (by omega)).mono fun e w'' ⟨A, h1, h2, h3⟩ => ⟨_, h1, ⟨A, 2, rfl, h2⟩, h3⟩) (fun v w'' ⟨h1, h2⟩ => hK v _ h2 h1)
      · exact wp_move (.tmp 6) rfl _ (at_out _ (by kernel_rfl) rfl) (hK _ _ (Below.refl _ _) rfl)
      · exact wp_field (.tmp 1) rfl _ _ (at_out _ (by kernel_rfl) rfl) (fieldA10 _ _) (hK _ _ (Below.refl _ _) rfl)
      · exact wp_load1 (.tmp 71) rfl ⟨w.heap.size, 10, none⟩ ((at_dst 4 (by kernel_rfl)).trans (hdep 4 (by simp) (by kernel_rfl))) Tryd.underlying22 rfl _ (((PX.out.below hgr PX.out.lt).cell 10).trans rfl) (hK _ _ (Below.refl _ _) rfl)
      · obtain ⟨A1, c1, e1, l1⟩ := hdep 2 (by simp) (by kernel_rfl)
        exact st_slice4 (.tmp 67) (.tmp 69) (.tmp 70) (.tmp 72) rfl _ _ _ _ _ _ _ _ _ _ _ _ ((at_dst 0 (by kernel_rfl)).trans (hdep 0 (by simp) (by kernel_rfl))) ((at_dst 2 (by kernel_rfl)).trans e1) ((at_dst 3 (by kernel_rfl)).trans (hdep 3 (by simp) (by kernel_rfl))) ((at_dst 5 (by kernel_rfl)).trans (hdep 5 (by simp) (by kernel_rfl))) (hK _ _ ((Below.refl _ _).alloc (Nat.le_refl _) _) ⟨_, A1, c1, rfl, all_lit _ _ _ _ rfl (mem4 (F5.out w' hgr) l1 (F6.out w' hgr) (F0.out w' hgr))⟩)
    · intro vals w' hgr hG
      have hbz' := HBZ.out
      obtain ⟨g, A1, c1, eg, al⟩ : ∃ g A1 c1, vals 6 = .slice (some ⟨g, 0, none⟩) 4 4 ∧ Both.All w' w'.heap.size g [⟨A5, 10, c5, front⟩, ⟨A1, 2, c1, [sm / 256, sm % 256]⟩, ⟨A6, bz, c6, p.rest⟩, ⟨A, n, c, l⟩] := hG 6 (by simp)
      refine wp_call 9 [.tmp 73] _ rfl ent_both [.slice (some ⟨g, 0, none⟩) 4 4] (congrArg (fun z => [z]) ((at_dst 6 (by kernel_rfl)).trans eg)) (fun v w'' => Owns w'' w'.heap.size v (20 + p.opt.size + n) (p.bytes l) ∧ Below w'.heap.size w' w'') ((Both.both_any g 4 4 _ w' al rfl (by decide) (by show 10 + (2 + (bz + (n + 0))) ≤ 1048576; omega)).mono fun e w'' ⟨v, h1, h2, h3⟩ => ⟨v, h1, by rw [(by show 10 + (2 + (bz + (n + 0))) = 20 + p.opt.size + n; omega : Both.total [⟨A5, 10, c5, front⟩, ⟨A1, 2, c1, [sm / 256, sm % 256]⟩, ⟨A6, bz, c6, p.rest⟩, ⟨A, n, c, l⟩] = 20 + p.opt.size + n)] at h2; rw [FIN.out]; simpa [Both.flat] using h2, h3⟩) (fun v2 w9 ⟨o9, hb⟩ => ?_)
      refine wpAnyH_next 8 _ rfl rfl (by kernel_rfl) (st_assign (.tmp 74) _ rfl (put_tmps_eq (fill_size _ _ _) (by kernel_rfl)) ⟨trivial, wpAnyH_done (by kernel_rfl) ?_ _⟩)
      have B9 := Lib.hid (B8.out.trans ((((below_drewN (Below.refl w8.heap.size w8) 1).trans hgr).trans (hb.mono hgr.size)).mono B8.out.size))
      have o9' := o9.mono (Nat.le_trans B8.out.size hgr.size)
      clear hG hgr o9 hb eg al hbz'
      simp only [fill, dstAt, List.getElem?_cons_zero, List.getElem?_cons_succ, Option.bind_some, Act.put, List.setIfInBounds_toArray, List.set_cons_zero, List.set_cons_succ]
      generalize vals 0 = z0, vals 1 = z1, vals 2 = z2, vals 3 = z3, vals 4 = z4, vals 5 = z5, vals 6 = z6
      go_wp2_with fail
      go_ret
      exact ⟨_, rfl, o9', B9.out⟩
set_option maxHeartbeats 8000000 in
set_option maxRecDepth 100000 in
theorem bytes_false_false (p : Pkt) (A : Option Addr) (n c : Nat) (l : List Int) (w : World) (h : Holds w w.heap.size A n c l) (hv : Valid p) (hn : 20 + p.opt.size + n ≤ 65535) (hdf : p.df = false) (hmf : p.mf = false) :
    Calls Tryd.prog 15 #[.agg #[.int .i64 p.tos, .int .i64 p.id, .int .i64 p.ttl, .int .i64 p.proto, .bool false, .bool false, .int .i64 p.off, .string p.src, .string p.dst, .string p.opt, .slice A n c]] w fun e w' => ∃ v, e = .returned v ∧ Owns w' w.heap.size v (20 + p.opt.size + n) (p.bytes l) ∧ Below w.heap.size w w' := by
  obtain ⟨t0, t1, l0, l1, p0, p1, i0, i1, o0, o1, o8, vs, vd, vz, vz4⟩ := hv
  obtain ⟨W, hW⟩ : ∃ W, W = 5 + (p.opt.size : Int) / 4 := ⟨_, rfl⟩
  obtain ⟨TT, hTT⟩ : ∃ TT, TT = p.total n := ⟨_, rfl⟩
  have TB : TT = 20 + (p.opt.size : Int) + (n : Int) := by rw [hTT]; rfl
  have W1 : Hid (64 + W = p.first) := Lib.hid (by rw [hW]; rfl)
  have W2 : Hid (4 * W + (n : Int) = TT) := Lib.hid (by rw [hW, TB]; omega)
  have hpl : p.off / 8 = p.place := by unfold Pkt.place; rw [hdf, hmf]; simp
  have fb : 0 ≤ p.first ∧ p.first ≤ 255 := by rw [← W1.out, hW]; omega
  have pb : 0 ≤ p.place ∧ p.place ≤ 32767 := by rw [← hpl]; omega
  have wb : 5 ≤ W ∧ W ≤ 15 := by rw [hW]; omega
  have tb : 0 ≤ TT ∧ TT ≤ 65535 := by rw [TB]; omega
  have hl := h.1
  obtain ⟨front, hf⟩ : ∃ front, front = [p.first, p.tos, TT / 256, TT % 256, p.id / 256, p.id % 256, p.place / 256, p.place % 256, p.ttl, p.proto] := ⟨_, rfl⟩
  have FR := Lib.hid hf
  obtain ⟨sm, hsm⟩ : ∃ sm, sm = p.sum n := ⟨_, rfl⟩
  have CH : Hid (check (front ++ ([0, 0] ++ (p.rest ++ []))) = sm) := Lib.hid (by rw [hsm, hf, hTT]; simp [Pkt.sum, Pkt.head, numsOf])
  have FIN : Hid (p.bytes l = front ++ ([sm / 256, sm % 256] ++ (p.rest ++ l))) := Lib.hid (by rw [Pkt.bytes, hl, ← hsm, Pkt.head, ← hTT, numsOf, hf]; simp)
  have smb := sum_in p n
  rw [← hsm] at smb
  have hpl' := Lib.hid hpl
  have hW' := Lib.hid hW
  have e8 : p.off.tdiv 8 = p.off / 8 := Int.tdiv_eq_ediv_of_nonneg o0
  have HL := Lib.hid h
  have B1 := Lib.hid ((Below.refl w.heap.size w).alloc (Nat.le_refl _) (.cells #[.int .i64 p.tos, .int .i64 p.id, .int .i64 p.ttl, .int .i64 p.proto, .bool false, .bool false, .int .i64 p.off, .string p.src, .string p.dst, .string p.opt, .slice A n c] 24))
  have P1 := Lib.hid (Blk.new w 24 #[.int .i64 p.tos, .int .i64 p.id, .int .i64 p.ttl, .int .i64 p.proto, .bool false, .bool false, .int .i64 p.off, .string p.src, .string p.dst, .string p.opt, .slice A n c])
  clear h hdf hmf hW hTT TB hpl hf hsm hl
  go_enter Tryd.func15, Tryd.ntmps15
  go_wp2_with fail
  rw [← hW'.out, hpl'.out]
  generalize w.alloc (.cells #[.int .i64 p.tos, .int .i64 p.id, .int .i64 p.ttl, .int .i64 p.proto, .bool false, .bool false, .int .i64 p.off, .string p.src, .string p.dst, .string p.opt, .slice A n c] 24) = w1 at *
  have PW := Lib.hid P1.out.drew
  clear e8
  refine wp_region_free [0, 1, 2, 3, 4, 5, 6, 7, 8, 9, 10, 11, 12, 13, 14, 15, 16, 17, 18, 19, 20, 21, 22, 23, 24, 25, 26] 27 [28] (fun w1 w2 => Below w1.heap.size w1 w2) (fun k' w' v => match k' with
    | 0 => v = .int .i64 W
    | 1 => v = .int .i64 p.first
    | 2 => v = .int .u8 p.first
    | 3 => v = .pointer (some ⟨w.heap.size, 0, none⟩)
    | 4 => v = .int .i64 p.tos
    | 5 => v = .int .u8 p.tos
    | 6 => Lies w' v 2 [p.first, p.tos]
    | 7 => v = .int .i64 W
    | 8 => v = .int .i64 (4 * W)
    | 9 => v = .pointer (some ⟨w.heap.size, 10, none⟩)
    | 10 => v = .slice A n c
    | 11 => v = .int .i64 ((n : Int))
    | 12 => v = .int .i64 TT
    | 13 => Lies w' v 2 [TT / 256, TT % 256]
    | 14 => v = .pointer (some ⟨w.heap.size, 1, none⟩)
    | 15 => v = .int .i64 p.id
    | 16 => Lies w' v 2 [p.id / 256, p.id % 256]
    | 17 => v = .int .i64 p.place
    | 18 => Lies w' v 2 [p.place / 256, p.place % 256]
    | 19 => v = .pointer (some ⟨w.heap.size, 2, none⟩)
    | 20 => v = .int .i64 p.ttl
    | 21 => v = .int .u8 p.ttl
    | 22 => v = .pointer (some ⟨w.heap.size, 3, none⟩)
    | 23 => v = .int .i64 p.proto
    | 24 => v = .int .u8 p.proto
    | 25 => Lies w' v 2 [p.ttl, p.proto]
    | _ => ∃ g A0 c0 A1 c1 A2 c2 A3 c3 A4 c4, v = .slice (some ⟨g, 0, none⟩) 5 5 ∧ Both.All w' w'.heap.size g [⟨A0, 2, c0, [p.first, p.tos]⟩, ⟨A1, 2, c1, [TT / 256, TT % 256]⟩, ⟨A2, 2, c2, [p.id / 256, p.id % 256]⟩, ⟨A3, 2, c3, [p.place / 256, p.place % 256]⟩, ⟨A4, 2, c4, [p.ttl, p.proto]⟩]) (by kernel_rfl) (by kernel_rfl) (Below.refl _ _) (fun _ _ _ h k => h.trans (k.mono h.size)) (fun k' w1 w2 v h => match k' with
    | 0 => fun x => x
    | 1 => fun x => x
    | 2 => fun x => x
    | 3 => fun x => x
    | 4 => fun x => x
    | 5 => fun x => x
    | 6 => fun x => Lies.below x h
    | 7 => fun x => x
    | 8 => fun x => x
    | 9 => fun x => x
    | 10 => fun x => x
    | 11 => fun x => x
    | 12 => fun x => x
    | 13 => fun x => Lies.below x h
    | 14 => fun x => x
    | 15 => fun x => x
    | 16 => fun x => Lies.below x h
    | 17 => fun x => x
    | 18 => fun x => Lies.below x h
    | 19 => fun x => x
    | 20 => fun x => x
    | 21 => fun x => x
    | 22 => fun x => x
    | 23 => fun x => x
    | 24 => fun x => x
    | 25 => fun x => Lies.below x h
    | _ + 26 => fun ⟨g, A0, c0, A1, c1, A2, c2, A3, c3, A4, c4, e, x⟩ => ⟨g, A0, c0, A1, c1, A2, c2, A3, c3, A4, c4, e, all_below x h⟩) (fun _ _ _ _ _ h => h) ?_ _ (by rfl) ?_
  · refine obs_cons (by rfl) (fun vals w' hgr hdep K hK => ?_) (obs_cons (by rfl) (fun vals w' hgr hdep K hK => ?_) (obs_cons (by rfl) (fun vals w' hgr hdep K hK => ?_) (obs_cons (by rfl) (fun vals w' hgr hdep K hK => ?_) (obs_cons (by rfl) (fun vals w' hgr hdep K hK => ?_) (obs_cons (by rfl) (fun vals w' hgr hdep K hK => ?_) (obs_cons (by rfl) (fun vals w' hgr hdep K hK => ?_) (obs_cons (by rfl) (fun vals w' hgr hdep K hK => ?_) (obs_cons (by rfl) (fun vals w' hgr hdep K hK => ?_) (obs_cons (by rfl) (fun vals w' hgr hdep K hK => ?_) (obs_cons (by rfl) (fun vals w' hgr hdep K hK => ?_) (obs_cons (by rfl) (fun vals w' hgr hdep K hK => ?_) (obs_cons (by rfl) (fun vals w' hgr hdep K hK => ?_) (obs_cons (by rfl) (fun vals w' hgr hdep K hK => ?_) (obs_cons (by rfl) (fun vals w' hgr hdep K hK => ?_) (obs_cons (by rfl) (fun vals w' hgr hdep K hK => ?_) (obs_cons (by rfl) (fun vals w' hgr hdep K hK => ?_) (obs_cons (by rfl) (fun vals w' hgr hdep K hK => ?_) (obs_cons (by rfl) (fun vals w' hgr hdep K hK => ?_) (obs_cons (by rfl) (fun vals w' hgr hdep K hK => ?_) (obs_cons (by rfl) (fun vals w' hgr hdep K hK => ?_) (obs_cons (by rfl) (fun vals w' hgr hdep K hK => ?_) (obs_cons (by rfl) (fun vals w' hgr hdep K hK => ?_) (obs_cons (by rfl) (fun vals w' hgr hdep K hK => ?_) (obs_cons (by rfl) (fun vals w' hgr hdep K hK => ?_) (obs_cons (by rfl) (fun vals w' hgr hdep K hK => ?_) (obs_cons (by rfl) (fun vals w' hgr hdep K hK => ?_) (obs_nil)))))))))))))))))))))))))))
    · exact wp_move (.tmp 3) rfl _ (at_out _ (by kernel_rfl) rfl) (hK _ _ (Below.refl _ _) rfl)
    · exact wp_bin (.const (.int .i64 64)) (.tmp 24) rfl _ _ (.int .i64 p.first) rfl ((at_dst 0 (by kernel_rfl)).trans (hdep 0 (by simp) (by kernel_rfl))) (by have := b_add 64 W (.const (.int .i64 64)) (.tmp 24) w' (by omega) (by omega); rwa [W1.out] at this) (hK _ _ (Below.refl _ _) rfl)
    · exact wp_conv (.tmp 25) rfl _ _ ((at_dst 1 (by kernel_rfl)).trans (hdep 1 (by simp) (by kernel_rfl))) (conv_u8 _ _ (by omega) (by omega)) (hK _ _ (Below.refl _ _) rfl)
    · exact wp_field (.tmp 1) rfl _ _ (at_out _ (by kernel_rfl) rfl) (fieldA0 _ _) (hK _ _ (Below.refl _ _) rfl)
    · exact wp_load1 (.tmp 27) rfl ⟨w.heap.size, 0, none⟩ ((at_dst 3 (by kernel_rfl)).trans (hdep 3 (by simp) (by kernel_rfl))) Tryd.underlying3 rfl _ (((PW.out.below hgr PW.out.lt).cell 0).trans rfl) (hK _ _ (Below.refl _ _) rfl)
    · exact wp_conv (.tmp 28) rfl _ _ ((at_dst 4 (by kernel_rfl)).trans (hdep 4 (by simp) (by kernel_rfl))) (conv_u8 _ _ (by omega) (by omega)) (hK _ _ (Below.refl _ _) rfl)
    · exact st_slice8_2 (.tmp 26) (.tmp 29) rfl _ _ ((at_dst 2 (by kernel_rfl)).trans (hdep 2 (by simp) (by kernel_rfl))) ((at_dst 5 (by kernel_rfl)).trans (hdep 5 (by simp) (by kernel_rfl))) (by omega) (by omega) (by omega) (by omega) (fun o => hK _ _ ((Below.refl _ _).alloc (Nat.le_refl _) _) o)
    · exact wp_move (.tmp 3) rfl _ (at_out _ (by kernel_rfl) rfl) (hK _ _ (Below.refl _ _) rfl)
    · exact wp_bin (.const (.int .i64 4)) (.tmp 31) rfl _ _ _ rfl ((at_dst 7 (by kernel_rfl)).trans (hdep 7 (by simp) (by kernel_rfl))) (b_mul _ _ _ _ _ (by omega) (by omega)) (hK _ _ (Below.refl _ _) rfl)
    · exact wp_field (.tmp 1) rfl _ _ (at_out _ (by kernel_rfl) rfl) (fieldA10 _ _) (hK _ _ (Below.refl _ _) rfl)
    · exact wp_load1 (.tmp 33) rfl ⟨w.heap.size, 10, none⟩ ((at_dst 9 (by kernel_rfl)).trans (hdep 9 (by simp) (by kernel_rfl))) Tryd.underlying22 rfl _ (((PW.out.below hgr PW.out.lt).cell 10).trans rfl) (hK _ _ (Below.refl _ _) rfl)
    · exact st_len_bytes (.tmp 34) rfl A n c ((at_dst 10 (by kernel_rfl)).trans (hdep 10 (by simp) (by kernel_rfl))) (hK _ _ (Below.refl _ _) rfl)
    · exact wp_bin (.tmp 32) (.tmp 35) rfl _ _ (.int .i64 TT) ((at_dst 8 (by kernel_rfl)).trans (hdep 8 (by simp) (by kernel_rfl))) ((at_dst 11 (by kernel_rfl)).trans (hdep 11 (by simp) (by kernel_rfl))) (by have := b_add (4 * W) (n : Int) (.tmp 32) (.tmp 35) w' (by omega) (by omega); rwa [W2.out] at this) (hK _ _ (Below.refl _ _) rfl)
    · exact wp_call 29 [.tmp 36] _ rfl ent_two [.int .i64 TT] (congrArg (fun z => [z]) ((at_dst 12 (by kernel_rfl)).trans (hdep 12 (by simp) (by kernel_rfl)))) (fun v w'' => Lies w'' v 2 [TT / 256, TT % 256] ∧ Below w'.heap.size w' w'') ((two_any TT w' (by omega) (by omega)).mono fun e w'' ⟨A, h1, h2, h3⟩ => ⟨_, h1, ⟨A, 2, rfl, h2⟩, h3⟩) (fun v w'' ⟨h1, h2⟩ => hK v _ h2 h1)
    · exact wp_field (.tmp 1) rfl _ _ (at_out _ (by kernel_rfl) rfl) (fieldA1 _ _) (hK _ _ (Below.refl _ _) rfl)
    · exact wp_load1 (.tmp 38) rfl ⟨w.heap.size, 1, none⟩ ((at_dst 14 (by kernel_rfl)).trans (hdep 14 (by simp) (by kernel_rfl))) Tryd.underlying3 rfl _ (((PW.out.below hgr PW.out.lt).cell 1).trans rfl) (hK _ _ (Below.refl _ _) rfl)
    · exact wp_call 29 [.tmp 39] _ rfl ent_two [.int .i64 p.id] (congrArg (fun z => [z]) ((at_dst 15 (by kernel_rfl)).trans (hdep 15 (by simp) (by kernel_rfl)))) (fun v w'' => Lies w'' v 2 [p.id / 256, p.id % 256] ∧ Below w'.heap.size w' w'') ((two_any p.id w' (by omega) (by omega)).mono fun e w'' ⟨A, h1, h2, h3⟩ => ⟨_, h1, ⟨A, 2, rfl, h2⟩, h3⟩) (fun v w'' ⟨h1, h2⟩ => hK v _ h2 h1)
    · exact wp_move (.tmp 4) rfl _ (at_out _ (by kernel_rfl) rfl) (hK _ _ (Below.refl _ _) rfl)
    · exact wp_call 29 [.tmp 41] _ rfl ent_two [.int .i64 p.place] (congrArg (fun z => [z]) ((at_dst 17 (by kernel_rfl)).trans (hdep 17 (by simp) (by kernel_rfl)))) (fun v w'' => Lies w'' v 2 [p.place / 256, p.place % 256] ∧ Below w'.heap.size w' w'') ((two_any p.place w' (by omega) (by omega)).mono fun e w'' ⟨A, h1, h2, h3⟩ => ⟨_, h1, ⟨A, 2, rfl, h2⟩, h3⟩) (fun v w'' ⟨h1, h2⟩ => hK v _ h2 h1)
    · exact wp_field (.tmp 1) rfl _ _ (at_out _ (by kernel_rfl) rfl) (fieldA2 _ _) (hK _ _ (Below.refl _ _) rfl)
    · exact wp_load1 (.tmp 43) rfl ⟨w.heap.size, 2, none⟩ ((at_dst 19 (by kernel_rfl)).trans (hdep 19 (by simp) (by kernel_rfl))) Tryd.underlying3 rfl _ (((PW.out.below hgr PW.out.lt).cell 2).trans rfl) (hK _ _ (Below.refl _ _) rfl)
    · exact wp_conv (.tmp 44) rfl _ _ ((at_dst 20 (by kernel_rfl)).trans (hdep 20 (by simp) (by kernel_rfl))) (conv_u8 _ _ (by omega) (by omega)) (hK _ _ (Below.refl _ _) rfl)
    · exact wp_field (.tmp 1) rfl _ _ (at_out _ (by kernel_rfl) rfl) (fieldA3 _ _) (hK _ _ (Below.refl _ _) rfl)
    · exact wp_load1 (.tmp 46) rfl ⟨w.heap.size, 3, none⟩ ((at_dst 22 (by kernel_rfl)).trans (hdep 22 (by simp) (by kernel_rfl))) Tryd.underlying3 rfl _ (((PW.out.below hgr PW.out.lt).cell 3).trans rfl) (hK _ _ (Below.refl _ _) rfl)
    · exact wp_conv (.tmp 47) rfl _ _ ((at_dst 23 (by kernel_rfl)).trans (hdep 23 (by simp) (by kernel_rfl))) (conv_u8 _ _ (by omega) (by omega)) (hK _ _ (Below.refl _ _) rfl)
    · exact st_slice8_2 (.tmp 45) (.tmp 48) rfl _ _ ((at_dst 21 (by kernel_rfl)).trans (hdep 21 (by simp) (by kernel_rfl))) ((at_dst 24 (by kernel_rfl)).trans (hdep 24 (by simp) (by kernel_rfl))) (by omega) (by omega) (by omega) (by omega) (fun o => hK _ _ ((Below.refl _ _).alloc (Nat.le_refl _) _) o)
    · obtain ⟨A0, c0, e0, l0⟩ := hdep 6 (by simp) (by kernel_rfl)
      obtain ⟨A1, c1, e1, l1⟩ := hdep 13 (by simp) (by kernel_rfl)
      obtain ⟨A2, c2, e2, l2⟩ := hdep 16 (by simp) (by kernel_rfl)
      obtain ⟨A3, c3, e3, l3⟩ := hdep 18 (by simp) (by kernel_rfl)
      obtain ⟨A4, c4, e4, l4⟩ := hdep 25 (by simp) (by kernel_rfl)
      exact st_slice5 (.tmp 30) (.tmp 37) (.tmp 40) (.tmp 42) (.tmp 49) rfl _ _ _ _ _ _ _ _ _ _ _ _ _ _ _ ((at_dst 6 (by kernel_rfl)).trans e0) ((at_dst 13 (by kernel_rfl)).trans e1) ((at_dst 16 (by kernel_rfl)).trans e2) ((at_dst 18 (by kernel_rfl)).trans e3) ((at_dst 25 (by kernel_rfl)).trans e4) (hK _ _ ((Below.refl _ _).alloc (Nat.le_refl _) _) ⟨_, A0, c0, A1, c1, A2, c2, A3, c3, A4, c4, rfl, all_lit _ _ _ _ rfl (mem5 l0 l1 l2 l3 l4)⟩)
  · intro vals w' hgr hG
    obtain ⟨g, A0, c0, A1, c1, A2, c2, A3, c3, A4, c4, eg, al⟩ : ∃ g A0 c0 A1 c1 A2 c2 A3 c3 A4 c4, vals 26 = .slice (some ⟨g, 0, none⟩) 5 5 ∧ Both.All w' w'.heap.size g [⟨A0, 2, c0, [p.first, p.tos]⟩, ⟨A1, 2, c1, [TT / 256, TT % 256]⟩, ⟨A2, 2, c2, [p.id / 256, p.id % 256]⟩, ⟨A3, 2, c3, [p.place / 256, p.place % 256]⟩, ⟨A4, 2, c4, [p.ttl, p.proto]⟩] := hG 26 (by simp)
    refine wp_call 9 [.tmp 50] _ rfl ent_both [.slice (some ⟨g, 0, none⟩) 5 5] (congrArg (fun z => [z]) ((at_dst 26 (by kernel_rfl)).trans eg)) (fun v w'' => Owns w'' w'.heap.size v 10 front ∧ Below w'.heap.size w' w'') ((Both.both_any g 5 5 _ w' al rfl (by decide) (by show 2 + (2 + (2 + (2 + (2 + 0)))) ≤ 1048576; omega)).mono fun e w'' ⟨v, h1, h2, h3⟩ => ⟨v, h1, by rw [FR.out]; exact h2, h3⟩) (fun v2 w2 ⟨o2, hb⟩ => ?_)
    refine wpAnyH_next 28 _ rfl rfl (by kernel_rfl) (st_assign (.tmp 51) _ rfl (put_tmps_eq (fill_size _ _ _) (by kernel_rfl)) ⟨trivial, wpAnyH_done (by kernel_rfl) ?_ _⟩)
    have gr2 : Below w1.heap.size w1 w2 := ((below_drewN (Below.refl w1.heap.size w1) 1).trans hgr).trans (hb.mono hgr.size)
    have B2 := Lib.hid (B1.out.trans (gr2.mono B1.out.size))
    have P2 := Lib.hid (P1.out.below gr2 P1.out.lt)
    obtain ⟨A5, c5, rfl, h5⟩ := o2.slice
    have H5 := Lib.hid h5
    clear hG hgr o2 hb gr2 eg al h5
    simp only [fill, dstAt, List.getElem?_cons_zero, List.getElem?_cons_succ, Option.bind_some, Act.put, List.setIfInBounds_toArray, List.set_cons_zero, List.set_cons_succ]
    generalize vals 0 = x0, vals 1 = x1, vals 2 = x2, vals 3 = x3, vals 4 = x4, vals 5 = x5, vals 6 = x6, vals 7 = x7, vals 8 = x8, vals 9 = x9, vals 10 = x10, vals 11 = x11, vals 12 = x12, vals 13 = x13, vals 14 = x14, vals 15 = x15, vals 16 = x16, vals 17 = x17, vals 18 = x18, vals 19 = x19, vals 20 = x20, vals 21 = x21, vals 22 = x22, vals 23 = x23, vals 24 = x24, vals 25 = x25, vals 26 = x26
    have d7 := P2.out.cell 7
    have d8 := P2.out.cell 8
    have d9 := P2.out.cell 9
    obtain ⟨w3, vb, hr3, ob, hb3⟩ := run_bytes_string w2 (p.src ++ p.dst ++ p.opt) (by simp only [maxLen, ByteArray.size_append]; omega)
    obtain ⟨A6, c6, rfl, h6⟩ := ob.slice
    have B3 := Lib.hid (B2.out.trans (hb3.mono B2.out.size))
    have P3 := Lib.hid (P2.out.below hb3 P2.out.lt)
    have H53 := Lib.hid ((H5.out.below hb3).more hb3.size)
    obtain ⟨bz, hbz⟩ : ∃ bz, bz = (p.src ++ p.dst ++ p.opt).size := ⟨_, rfl⟩
    have hbz' : bz = 8 + p.opt.size := by rw [hbz]; simp only [ByteArray.size_append]; omega
    have RR : nums (p.src ++ p.dst ++ p.opt) = p.rest := by simp [nums, Pkt.rest]
    rw [← hbz, RR] at h6
    rw [← hbz] at hr3
    have H6 := Lib.hid h6
    have HBZ := Lib.hid hbz'
    clear ob hb3 h6 RR hbz'
    clear hbz
    have s1 : (Op.stringOp .add p.src p.dst).run Tryd.prog w2 = .ok (.string (p.src ++ p.dst)) w2 := by simp [go_sem]; omega
    have s2 : (Op.stringOp .add (p.src ++ p.dst) p.opt).run Tryd.prog w2 = .ok (.string (p.src ++ p.dst ++ p.opt)) w2 := by simp [go_sem, ByteArray.size_append]; omega
    go_wp2_with fail
    have HZ := Lib.hid (Holds.lit w3 [0, 0] #[.int .u8 0, .int .u8 0] rfl (by simp [maxLen]) (fun y hy => by simp at hy; omega))
    have g4 := (Below.refl _ w3).alloc (Nat.le_refl _) (.cells #[.int .u8 0, .int .u8 0] 5)
    have B4 := Lib.hid (B3.out.alloc B3.out.size (.cells #[.int .u8 0, .int .u8 0] 5))
    have P4 := Lib.hid (P3.out.alloc (.cells #[.int .u8 0, .int .u8 0] 5))
    have H54 := Lib.hid ((H53.out.below g4).more g4.size)
    have H64 := Lib.hid ((H6.out.below g4).more g4.size)
    have HZ4 : Hid (Holds (w3.alloc (.cells #[.int .u8 0, .int .u8 0] 5)) (w3.alloc (.cells #[.int .u8 0, .int .u8 0] 5)).heap.size (some ⟨w3.heap.size, 0, none⟩) 2 2 [0, 0]) := Lib.hid (by simpa using HZ.out)
    clear g4 HZ
    refine (Both.both_lit (Nat.le_refl _) [⟨A5, 10, c5, front⟩, ⟨some ⟨w3.heap.size, 0, none⟩, 2, 2, [0, 0]⟩, ⟨A6, bz, c6, p.rest⟩] _ _ rfl (Both.mem3 H54.out HZ4.out H64.out) (w3.heap.size + 1) 3 (by simp) rfl (by decide) (by have := HBZ.out; show 10 + (2 + (bz + 0)) ≤ 1048576; omega)).mono ?_
    rintro e w8 ⟨A7, c7, rfl, h7, _, hb⟩
    have B8 := Lib.hid (B4.out.trans (hb.mono B4.out.size))
    have P8 := Lib.hid (P4.out.below hb P4.out.lt)
    have H58 := Lib.hid ((H54.out.below hb).more hb.size)
    have H68 := Lib.hid ((H64.out.below hb).more hb.size)
    have e0 : Both.total [⟨A5, 10, c5, front⟩, ⟨some ⟨w3.heap.size, 0, none⟩, 2, 2, [0, 0]⟩, ⟨A6, bz, c6, p.rest⟩] = 10 + (2 + (bz + 0)) := rfl
    rw [e0] at h7 ⊢
    have h7' : Holds w8 w8.heap.size A7 (10 + (2 + (bz + 0))) c7 (front ++ ([0, 0] ++ (p.rest ++ []))) := h7
    have H7 := Lib.hid h7'
    clear hb h7 h7' e0 H54 H64 HZ4 B4 P4 B3 P3 H53 H6 H5 P2 B2 s1 s2 hr3 d7 d8 d9
    go_wp2_with fail
    refine (RefSum.check_ref A7 _ c7 _ w8 _ H7.out (by have := HBZ.out; omega)).mono ?_
    rintro e wc ⟨rfl, rfl⟩
    rw [CH.out]
    go_wp2_with fail
    have PX := Lib.hid P8.out.drew
    have F5 : Hid (∀ w', Below w8.drew.heap.size w8.drew w' → Holds w' w'.heap.size A5 10 c5 front) := Lib.hid fun w' hw => (H58.out.below ((below_drewN (Below.refl w8.heap.size w8) 1).trans hw)).more hw.size
    have F6 : Hid (∀ w', Below w8.drew.heap.size w8.drew w' → Holds w' w'.heap.size A6 bz c6 p.rest) := Lib.hid fun w' hw => (H68.out.below ((below_drewN (Below.refl w8.heap.size w8) 1).trans hw)).more hw.size
    have F0 : Hid (∀ w', Below w8.drew.heap.size w8.drew w' → Holds w' w'.heap.size A n c l) := Lib.hid fun w' hw => (HL.out.below (B8.out.trans (((below_drewN (Below.refl w8.heap.size w8) 1).trans hw).mono B8.out.size))).more (Nat.le_trans B8.out.size hw.size)
    refine wp_region_free [0, 1, 2, 3, 4, 5, 6] 7 [8] (fun w1 w2 => Below w1.heap.size w1 w2) (fun k' w' v => match k' with
      | 0 => v = .slice A5 10 c5
      | 1 => v = .int .i64 sm
      | 2 => Lies w' v 2 [sm / 256, sm % 256]
      | 3 => v = .slice A6 bz c6
      | 4 => v = .pointer (some ⟨w.heap.size, 10, none⟩)
      | 5 => v = .slice A n c
      | _ => ∃ g A1 c1, v = .slice (some ⟨g, 0, none⟩) 4 4 ∧ Both.All w' w'.heap.size g [⟨A5, 10, c5, front⟩, ⟨A1, 2, c1, [sm / 256, sm % 256]⟩, ⟨A6, bz, c6, p.rest⟩, ⟨A, n, c, l⟩]) (by kernel_rfl) (by kernel_rfl) (Below.refl _ _) (fun _ _ _ h k => h.trans (k.mono h.size)) (fun k' w1 w2 v h => match k' with
      | 0 => fun x => x
      | 1 => fun x => x
      | 2 => fun x => Lies.below x h
      | 3 => fun x => x
      | 4 => fun x => x
      | 5 => fun x => x
      | _ + 6 => fun ⟨g, A1, c1, e, x⟩ => ⟨g, A1, c1, e, all_below x h⟩) (fun _ _ _ _ _ h => h) ?_ _ (by rfl) ?_
    · refine obs_cons (by rfl) (fun vals w' hgr hdep K hK => ?_) (obs_cons (by rfl) (fun vals w' hgr hdep K hK => ?_) (obs_cons (by rfl) (fun vals w' hgr hdep K hK => ?_) (obs_cons (by rfl) (fun vals w' hgr hdep K hK => ?_) (obs_cons (by rfl) (fun vals w' hgr hdep K hK => ?_) (obs_cons (by rfl) (fun vals w' hgr hdep K hK => ?_) (obs_cons (by rfl) (fun vals w' hgr hdep K hK => ?_) (obs_nil)))))))
      · exact wp_move (.tmp 5) rfl _ (at_out _ (by kernel_rfl) rfl) (hK _ _ (Below.refl _ _) rfl)
      · exact wp_move (.tmp 7) rfl _ (at_out _ (by kernel_rfl) rfl) (hK _ _ (Below.refl _ _) rfl)
      · exact wp_call 29 [.tmp 68] _ rfl ent_two [.int .i64 sm] (congrArg (fun z => [z]) ((at_dst 1 (by kernel_rfl)).trans (hdep 1 (by simp) (by kernel_rfl)))) (fun v w'' => Lies w'' v 2 [sm / 256, sm % 256] ∧ Below w'.heap.size w' w'') ((two_any sm w' (by omega) (by omega)).mono fun e w'' ⟨A, h1, h2, h3⟩ => ⟨_, h1, ⟨A, 2, rfl, h2⟩, h3⟩) (fun v w'' ⟨h1, h2⟩ => hK v _ h2 h1)
      · exact wp_move (.tmp 6) rfl _ (at_out _ (by kernel_rfl) rfl) (hK _ _ (Below.refl _ _) rfl)
      · exact wp_field (.tmp 1) rfl _ _ (at_out _ (by kernel_rfl) rfl) (fieldA10 _ _) (hK _ _ (Below.refl _ _) rfl)
      · exact wp_load1 (.tmp 71) rfl ⟨w.heap.size, 10, none⟩ ((at_dst 4 (by kernel_rfl)).trans (hdep 4 (by simp) (by kernel_rfl))) Tryd.underlying22 rfl _ (((PX.out.below hgr PX.out.lt).cell 10).trans rfl) (hK _ _ (Below.refl _ _) rfl)
      · obtain ⟨A1, c1, e1, l1⟩ := hdep 2 (by simp) (by kernel_rfl)
        exact st_slice4 (.tmp 67) (.tmp 69) (.tmp 70) (.tmp 72) rfl _ _ _ _ _ _ _ _ _ _ _ _ ((at_dst 0 (by kernel_rfl)).trans (hdep 0 (by simp) (by kernel_rfl))) ((at_dst 2 (by kernel_rfl)).trans e1) ((at_dst 3 (by kernel_rfl)).trans (hdep 3 (by simp) (by kernel_rfl))) ((at_dst 5 (by kernel_rfl)).trans (hdep 5 (by simp) (by kernel_rfl))) (hK _ _ ((Below.refl _ _).alloc (Nat.le_refl _) _) ⟨_, A1, c1, rfl, all_lit _ _ _ _ rfl (mem4 (F5.out w' hgr) l1 (F6.out w' hgr) (F0.out w' hgr))⟩)
    · intro vals w' hgr hG
      have hbz' := HBZ.out
      obtain ⟨g, A1, c1, eg, al⟩ : ∃ g A1 c1, vals 6 = .slice (some ⟨g, 0, none⟩) 4 4 ∧ Both.All w' w'.heap.size g [⟨A5, 10, c5, front⟩, ⟨A1, 2, c1, [sm / 256, sm % 256]⟩, ⟨A6, bz, c6, p.rest⟩, ⟨A, n, c, l⟩] := hG 6 (by simp)
      refine wp_call 9 [.tmp 73] _ rfl ent_both [.slice (some ⟨g, 0, none⟩) 4 4] (congrArg (fun z => [z]) ((at_dst 6 (by kernel_rfl)).trans eg)) (fun v w'' => Owns w'' w'.heap.size v (20 + p.opt.size + n) (p.bytes l) ∧ Below w'.heap.size w' w'') ((Both.both_any g 4 4 _ w' al rfl (by decide) (by show 10 + (2 + (bz + (n + 0))) ≤ 1048576; omega)).mono fun e w'' ⟨v, h1, h2, h3⟩ => ⟨v, h1, by rw [(by show 10 + (2 + (bz + (n + 0))) = 20 + p.opt.size + n; omega : Both.total [⟨A5, 10, c5, front⟩, ⟨A1, 2, c1, [sm / 256, sm % 256]⟩, ⟨A6, bz, c6, p.rest⟩, ⟨A, n, c, l⟩] = 20 + p.opt.size + n)] at h2; rw [FIN.out]; simpa [Both.flat] using h2, h3⟩) (fun v2 w9 ⟨o9, hb⟩ => ?_)
      refine wpAnyH_next 8 _ rfl rfl (by kernel_rfl) (st_assign (.tmp 74) _ rfl (put_tmps_eq (fill_size _ _ _) (by kernel_rfl)) ⟨trivial, wpAnyH_done (by kernel_rfl) ?_ _⟩)
      have B9 := Lib.hid (B8.out.trans ((((below_drewN (Below.refl w8.heap.size w8) 1).trans hgr).trans (hb.mono hgr.size)).mono B8.out.size))
      have o9' := o9.mono (Nat.le_trans B8.out.size hgr.size)
      clear hG hgr o9 hb eg al hbz'
      simp only [fill, dstAt, List.getElem?_cons_zero, List.getElem?_cons_succ, Option.bind_some, Act.put, List.setIfInBounds_toArray, List.set_cons_zero, List.set_cons_succ]
      generalize vals 0 = z0, vals 1 = z1, vals 2 = z2, vals 3 = z3, vals 4 = z4, vals 5 = z5, vals 6 = z6
      go_wp2_with fail
      go_ret
      exact ⟨_, rfl, o9', B9.out⟩
theorem bytes_ref (p : Pkt) (A : Option Addr) (n c : Nat) (l : List Int) (w : World) (h : Holds w w.heap.size A n c l) (hv : Valid p) (hn : 20 + p.opt.size + n ≤ 65535) :
    Calls Tryd.prog 15 #[val p (.slice A n c)] w fun e w' => ∃ v, e = .returned v ∧ Owns w' w.heap.size v (20 + p.opt.size + n) (p.bytes l) ∧ Below w.heap.size w w' := by
  unfold val
  cases hdf : p.df <;> cases hmf : p.mf
  · exact bytes_false_false p A n c l w h hv hn hdf hmf
  · exact bytes_false_true p A n c l w h hv hn hdf hmf
  · exact bytes_true_false p A n c l w h hv hn hdf hmf
  · exact bytes_true_true p A n c l w h hv hn hdf hmf
end Go.Proofs.YtjhfginopbjldaaDoor.BytesRef
