/- The contract of the document's Bytes. -/
import Derived.Test.YtjfieoleoodfdaaOwn6
import Derived.Test.YtjfieoleoodfdaaFour6
set_option linter.unusedVariables false
namespace Go.Proofs.Ytjfieoleoodfdaa.BytesRef
open Go.RowKit Go.Sort Go.Proofs.Ytjfieoleoodfdaa.Sums Go.Proofs.Ytjfieoleoodfdaa.Mem Go.Proofs.Ytjfieoleoodfdaa.P6 Go.Proofs.Ytjfieoleoodfdaa.Blk Go.Proofs.Ytjfieoleoodfdaa.Regs Go.Proofs.Ytjfieoleoodfdaa.Small6 Go.Proofs.Ytjfieoleoodfdaa.Kinds6 Go.Proofs.Ytjfieoleoodfdaa.Loads6 Go.Proofs.Ytjfieoleoodfdaa.Free Go.Proofs.Ytjfieoleoodfdaa.Steps Go.Proofs.Ytjfieoleoodfdaa.Exts Go.Proofs.Ytjfieoleoodfdaa.Opts Go.Proofs.Ytjfieoleoodfdaa.Hdr6 Go.Proofs.Ytjfieoleoodfdaa.Bytes6 Go.Proofs.Ytjfieoleoodfdaa.Four6

theorem field0 (g : Nat) (w : World) : (Instr.fieldAt 25 (.pointer (some ⟨g, 0, none⟩)) 0).run Try.prog w = .ok (.pointer (some ⟨g, 0, none⟩)) w := by kernel_rfl
theorem field1 (g : Nat) (w : World) : (Instr.fieldAt 25 (.pointer (some ⟨g, 0, none⟩)) 1).run Try.prog w = .ok (.pointer (some ⟨g, 1, none⟩)) w := by kernel_rfl
theorem field3 (g : Nat) (w : World) : (Instr.fieldAt 25 (.pointer (some ⟨g, 0, none⟩)) 3).run Try.prog w = .ok (.pointer (some ⟨g, 3, none⟩)) w := by kernel_rfl
theorem field4 (g : Nat) (w : World) : (Instr.fieldAt 25 (.pointer (some ⟨g, 0, none⟩)) 4).run Try.prog w = .ok (.pointer (some ⟨g, 4, none⟩)) w := by kernel_rfl

/-- Bytes that lie somewhere. -/
def Lies (w : World) (v : Value) (k : Nat) (L : List Int) : Prop := ∃ A c, v = .slice A k c ∧ Holds w w.heap.size A k c L
theorem Lies.below {w w2 : World} {v : Value} {k : Nat} {L : List Int} (h : Lies w v k L) (hb : Below w.heap.size w w2) : Lies w2 v k L := by
  obtain ⟨A, c, e, x⟩ := h
  exact ⟨A, c, e, (x.below hb).more hb.size⟩
theorem all_below {w w2 : World} {b : Nat} {rs : List Both.Row} (h : Both.All w w.heap.size b rs) (k : Below w.heap.size w w2) : Both.All w2 w2.heap.size b rs :=
  ⟨Nat.lt_of_lt_of_le h.1 k.size, fun i r hi => ⟨keep_cell (h.2 i r hi).1 k, (((h.2 i r hi).2).below k).more k.size⟩⟩
theorem all_lit (w : World) (rs : List Both.Row) (cs : Array Value) (t : TypeId) (hc : cs.toList = rs.map fun r => Value.slice r.A r.n r.c) (h : ∀ r ∈ rs, Holds w w.heap.size r.A r.n r.c r.l) : Both.All (w.alloc (.cells cs t)) (w.alloc (.cells cs t)).heap.size w.heap.size rs := by
  have := Both.All.lit (Nat.le_refl _) rs cs t hc h
  simpa using this
theorem mem5 {P : Both.Row → Prop} {a b c d e : Both.Row} (h1 : P a) (h2 : P b) (h3 : P c) (h4 : P d) (h5 : P e) : ∀ r ∈ [a, b, c, d, e], P r := by
  intro r h
  simp only [List.mem_cons, List.not_mem_nil, or_false] at h
  rcases h with rfl | rfl | rfl | rfl | rfl
  · exact h1
  · exact h2
  · exact h3
  · exact h4
  · exact h5
theorem st_nums {o : Oper} {a : Act} {w : World} {K : Act → World → Prop} {Q : Exit → Act → World → Prop} (x : Operand) (ho : o.op = .convert 9 23 x) (s : ByteArray) (hx : a.eval x = .string s) (hs : s.size ≤ maxLen)
    (hK : ∀ v w', Lies w' v s.size (nums s) → Below w.heap.size w w' → K (a.put o.dst v) w') : Step Try.prog o a w K Q := by
  constructor
  obtain ⟨w', v, hr, ow, hb⟩ := run_bytes_string w s hs
  obtain ⟨A, c, rfl, hh⟩ := ow.slice
  have hr2 : (execOp a.eval o).run Try.prog w = .ok (.value (.slice A s.size c)) w' := by
    simp [execOp, ho, hx, hr, Result.andThen]
  unfold Oper.wp
  rw [hr2]
  exact hK _ _ ⟨A, c, rfl, hh⟩ hb
theorem run_slice8_2 (w : World) (u v : Int) : (Instr.buildSlice 23 2 #[(0, .int .u8 u), (1, .int .u8 v)]).run Try.prog w = .ok (.slice (some ⟨w.heap.size, 0, none⟩) 2 2) (w.alloc (.cells #[.int .u8 u, .int .u8 v] 5)) := by
  kernel_rfl
theorem st_slice8_2 {o : Oper} {a : Act} {w : World} {K : Act → World → Prop} {Q : Exit → Act → World → Prop} (x1 x2 : Operand) (ho : o.op = .buildSlice 23 2 #[(0, x1), (1, x2)]) (u1 u2 : Int) (h1 : a.eval x1 = .int .u8 u1) (h2 : a.eval x2 = .int .u8 u2)
    (a1 : 0 ≤ u1) (b1 : u1 ≤ 255) (a2 : 0 ≤ u2) (b2 : u2 ≤ 255)
    (hK : Lies (w.alloc (.cells #[.int .u8 u1, .int .u8 u2] 5)) (.slice (some ⟨w.heap.size, 0, none⟩) 2 2) 2 [u1, u2] → K (a.put o.dst (.slice (some ⟨w.heap.size, 0, none⟩) 2 2)) (w.alloc (.cells #[.int .u8 u1, .int .u8 u2] 5))) : Step Try.prog o a w K Q := by
  constructor
  have hr : (execOp a.eval o).run Try.prog w = .ok (.value (.slice (some ⟨w.heap.size, 0, none⟩) 2 2)) (w.alloc (.cells #[.int .u8 u1, .int .u8 u2] 5)) := by
    simp [execOp, ho, h1, h2, run_slice8_2 w, Result.andThen]
  unfold Oper.wp
  rw [hr]
  have HL := Holds.lit w [u1, u2] #[.int .u8 u1, .int .u8 u2] rfl (by simp [maxLen]) (fun y hy => by simp at hy; omega)
  exact hK ⟨_, _, rfl, by simpa using HL⟩
theorem run_slice5 (w : World) (A0 A1 A2 A3 A4 : Option Addr) (n0 n1 n2 n3 n4 c0 c1 c2 c3 c4 : Nat) : (Instr.buildSlice 56 5 #[(0, .slice A0 n0 c0), (1, .slice A1 n1 c1), (2, .slice A2 n2 c2), (3, .slice A3 n3 c3), (4, .slice A4 n4 c4)]).run Try.prog w = .ok (.slice (some ⟨w.heap.size, 0, none⟩) 5 5) (w.alloc (.cells #[.slice A0 n0 c0, .slice A1 n1 c1, .slice A2 n2 c2, .slice A3 n3 c3, .slice A4 n4 c4] 23)) := by
  kernel_rfl
theorem st_slice5 {o : Oper} {a : Act} {w : World} {K : Act → World → Prop} {Q : Exit → Act → World → Prop} (x0 x1 x2 x3 x4 : Operand) (ho : o.op = .buildSlice 56 5 #[(0, x0), (1, x1), (2, x2), (3, x3), (4, x4)]) (A0 A1 A2 A3 A4 : Option Addr) (n0 n1 n2 n3 n4 c0 c1 c2 c3 c4 : Nat)
    (h0 : a.eval x0 = .slice A0 n0 c0) (h1 : a.eval x1 = .slice A1 n1 c1) (h2 : a.eval x2 = .slice A2 n2 c2) (h3 : a.eval x3 = .slice A3 n3 c3) (h4 : a.eval x4 = .slice A4 n4 c4)
    (hK : K (a.put o.dst (.slice (some ⟨w.heap.size, 0, none⟩) 5 5)) (w.alloc (.cells #[.slice A0 n0 c0, .slice A1 n1 c1, .slice A2 n2 c2, .slice A3 n3 c3, .slice A4 n4 c4] 23))) : Step Try.prog o a w K Q := by
  constructor
  have hr : (execOp a.eval o).run Try.prog w = .ok (.value (.slice (some ⟨w.heap.size, 0, none⟩) 5 5)) (w.alloc (.cells #[.slice A0 n0 c0, .slice A1 n1 c1, .slice A2 n2 c2, .slice A3 n3 c3, .slice A4 n4 c4] 23)) := by
    simp [execOp, ho, h0, h1, h2, h3, h4, run_slice5 w, Result.andThen]
  unfold Oper.wp
  rw [hr]
  exact hK

set_option maxHeartbeats 8000000 in
set_option maxRecDepth 100000 in
theorem bytes_ref (p : Pkt) (E : Option Addr) (m ce : Nat) (A : Option Addr) (n c : Nat) (l : List Int) (w : World) (hr : Exts.Row w (.slice E m ce) p.exts) (h : Holds w w.heap.size A n c l) (hm : m ≤ 65536) (hv : Valid p) (hS : n + behind p.exts ≤ 65535) :
    Calls Try.prog 16 #[.agg #[.int .i64 p.cls, .int .i64 p.lab, .int .i64 p.hop, .string p.src, .string p.dst, .slice E m ce, .int .i64 p.next, .slice A n c]] w fun e w' => ∃ v, e = .returned v ∧ Owns w' w.heap.size v (40 + (n + behind p.exts)) (p.bytes l) ∧ Below w.heap.size w w' := by
  have hz := small_of hv.e
  have hlen := h.1
  have L := Lib.hid hr.len
  have hc := hv.c
  have hl := hv.l
  have hh := hv.h
  have hsz' := hv.s
  have hdz' := hv.d
  have kk := kind_in hv.e hv.n.1 hv.n.2
  obtain ⟨k0, hk0⟩ : ∃ k0, k0 = kindOf p.exts p.next := ⟨_, rfl⟩
  rw [← hk0] at kk
  have B1 := Lib.hid ((Below.refl w.heap.size w).alloc (Nat.le_refl _) (.cells #[.int .i64 p.cls, .int .i64 p.lab, .int .i64 p.hop, .string p.src, .string p.dst, .slice E m ce, .int .i64 p.next, .slice A n c] 25))
  have P1 := Lib.hid (Blk.new w 25 #[.int .i64 p.cls, .int .i64 p.lab, .int .i64 p.hop, .string p.src, .string p.dst, .slice E m ce, .int .i64 p.next, .slice A n c])
  have SZ0 := Lib.hid (fun W (bel : Below w.heap.size w W) => size_ref p E m ce A n c W (hr.below bel) hz hm (by omega))
  have KA0 := Lib.hid (fun W (bel : Below w.heap.size w W) => kind_any p E m ce A n c W 0 (hr.below bel) hm (by omega) (by rw [List.drop_zero, ← hk0]; exact kk.1) (by rw [List.drop_zero, ← hk0]; exact kk.2))
  rw [List.drop_zero, ← hk0] at KA0
  have KD := Lib.hid (fun k => kind_drop hv.e hv.n.1 hv.n.2 k)
  have FI := Lib.hid hv.e
  have BY : Hid (p.bytes l = p.head (n + behind p.exts) ++ encs p.exts p.next ++ l) := Lib.hid (by rw [Pkt.bytes, hlen, List.append_assoc])
  have R0 := Lib.hid hr
  have HL := Lib.hid h
  have hn : n ≤ 65535 := by omega
  have bl := behind_take_le p.exts
  have BT := Lib.hid bl
  have hbS : behind p.exts ≤ 65535 := by omega
  obtain ⟨S, hSS⟩ : ∃ S, S = n + behind p.exts := ⟨_, rfl⟩
  have SS := Lib.hid hSS
  rw [← hSS] at BY hS SZ0 ⊢
  have HD : Hid (p.head S = [(1610612736 + (1048576 * p.cls) + p.lab) / 16777216, (1610612736 + (1048576 * p.cls) + p.lab) / 65536 % 256, (1610612736 + (1048576 * p.cls) + p.lab) / 256 % 256, (1610612736 + (1048576 * p.cls) + p.lab) % 256] ++ ([(S : Int) / 256, (S : Int) % 256] ++ ([k0, p.hop] ++ (nums p.src ++ nums p.dst)))) := Lib.hid (by
    rw [Pkt.head, ← hk0]
    have a1 : (1610612736 + (1048576 * p.cls) + p.lab) / 16777216 = 96 + p.cls / 16 := by omega
    have a2 : (1610612736 + (1048576 * p.cls) + p.lab) / 65536 % 256 = p.cls % 16 * 16 + p.lab / 65536 := by omega
    have a3 : (1610612736 + (1048576 * p.cls) + p.lab) / 256 % 256 = p.lab / 256 % 256 := by omega
    have a4 : (1610612736 + (1048576 * p.cls) + p.lab) % 256 = p.lab % 256 := by omega
    rw [a1, a2, a3, a4]
    simp)
  clear hr hz hlen h hSS bl hk0 hv
  go_enter Try.func16, Try.ntmps16
  go_wp2_with fail
  generalize w.alloc (.cells #[.int .i64 p.cls, .int .i64 p.lab, .int .i64 p.hop, .string p.src, .string p.dst, .slice E m ce, .int .i64 p.next, .slice A n c] 25) = w1 at *
  have PW := Lib.hid P1.out.drew
  have SZ : Hid (∀ w', Below w1.drew.heap.size w1.drew w' → Calls Try.prog 25 #[.agg #[.int .i64 p.cls, .int .i64 p.lab, .int .i64 p.hop, .string p.src, .string p.dst, .slice E m ce, .int .i64 p.next, .slice A n c]] w' fun e w'' => e = .returned (.int .i64 (S : Int)) ∧ Below w'.heap.size w' w'') := Lib.hid fun w' h => SZ0.out w' (B1.out.trans (((below_drewN (Below.refl w1.heap.size w1) 1).trans h).mono B1.out.size))
  have KA : Hid (∀ w', Below w1.drew.heap.size w1.drew w' → Calls Try.prog 31 #[.agg #[.int .i64 p.cls, .int .i64 p.lab, .int .i64 p.hop, .string p.src, .string p.dst, .slice E m ce, .int .i64 p.next, .slice A n c], .int .i64 0] w' fun e w'' => e = .returned (.int .u8 k0) ∧ Below w'.heap.size w' w'') := Lib.hid fun w' h => KA0.out w' (B1.out.trans (((below_drewN (Below.refl w1.heap.size w1) 1).trans h).mono B1.out.size))
  refine wp_region_free [0, 1, 2, 3, 4, 5, 6, 7, 8, 9, 10, 11, 12, 13, 14, 15, 16, 17, 18, 19, 20, 21, 22, 23] 24 [25] (fun w1 w2 => Below w1.heap.size w1 w2) (fun k' w' v => match k' with
    | 0 => v = .pointer (some ⟨w.heap.size, 0, none⟩)
    | 1 => v = .int .i64 p.cls
    | 2 => v = .int .i64 (1048576 * p.cls)
    | 3 => v = .int .i64 (1610612736 + (1048576 * p.cls))
    | 4 => v = .pointer (some ⟨w.heap.size, 1, none⟩)
    | 5 => v = .int .i64 p.lab
    | 6 => v = .int .i64 (1610612736 + (1048576 * p.cls) + p.lab)
    | 7 => Lies w' v 4 [(1610612736 + (1048576 * p.cls) + p.lab) / 16777216, (1610612736 + (1048576 * p.cls) + p.lab) / 65536 % 256, (1610612736 + (1048576 * p.cls) + p.lab) / 256 % 256, (1610612736 + (1048576 * p.cls) + p.lab) % 256]
    | 8 => v = .agg #[.int .i64 p.cls, .int .i64 p.lab, .int .i64 p.hop, .string p.src, .string p.dst, .slice E m ce, .int .i64 p.next, .slice A n c]
    | 9 => v = .int .i64 ((S : Int))
    | 10 => Lies w' v 2 [(S : Int) / 256, (S : Int) % 256]
    | 11 => v = .agg #[.int .i64 p.cls, .int .i64 p.lab, .int .i64 p.hop, .string p.src, .string p.dst, .slice E m ce, .int .i64 p.next, .slice A n c]
    | 12 => v = .int .u8 k0
    | 13 => v = .pointer (some ⟨w.heap.size, 2, none⟩)
    | 14 => v = .int .i64 p.hop
    | 15 => v = .int .u8 p.hop
    | 16 => Lies w' v 2 [k0, p.hop]
    | 17 => v = .pointer (some ⟨w.heap.size, 3, none⟩)
    | 18 => v = .string p.src
    | 19 => Lies w' v p.src.size (nums p.src)
    | 20 => v = .pointer (some ⟨w.heap.size, 4, none⟩)
    | 21 => v = .string p.dst
    | 22 => Lies w' v p.dst.size (nums p.dst)
    | _ => ∃ g A0 c0 A1 c1 A2 c2 A3 c3 A4 c4, v = .slice (some ⟨g, 0, none⟩) 5 5 ∧ Both.All w' w'.heap.size g [⟨A0, 4, c0, [(1610612736 + (1048576 * p.cls) + p.lab) / 16777216, (1610612736 + (1048576 * p.cls) + p.lab) / 65536 % 256, (1610612736 + (1048576 * p.cls) + p.lab) / 256 % 256, (1610612736 + (1048576 * p.cls) + p.lab) % 256]⟩, ⟨A1, 2, c1, [(S : Int) / 256, (S : Int) % 256]⟩, ⟨A2, 2, c2, [k0, p.hop]⟩, ⟨A3, p.src.size, c3, nums p.src⟩, ⟨A4, p.dst.size, c4, nums p.dst⟩]) (by kernel_rfl) (by kernel_rfl) (Below.refl _ _) (fun _ _ _ h k => h.trans (k.mono h.size)) (fun k' w1 w2 v h => match k' with
    | 0 => fun x => x
    | 1 => fun x => x
    | 2 => fun x => x
    | 3 => fun x => x
    | 4 => fun x => x
    | 5 => fun x => x
    | 6 => fun x => x
    | 7 => fun x => Lies.below x h
    | 8 => fun x => x
    | 9 => fun x => x
    | 10 => fun x => Lies.below x h
    | 11 => fun x => x
    | 12 => fun x => x
    | 13 => fun x => x
    | 14 => fun x => x
    | 15 => fun x => x
    | 16 => fun x => Lies.below x h
    | 17 => fun x => x
    | 18 => fun x => x
    | 19 => fun x => Lies.below x h
    | 20 => fun x => x
    | 21 => fun x => x
    | 22 => fun x => Lies.below x h
    | _ + 23 => fun ⟨g, A0, c0, A1, c1, A2, c2, A3, c3, A4, c4, e, x⟩ => ⟨g, A0, c0, A1, c1, A2, c2, A3, c3, A4, c4, e, all_below x h⟩) (fun _ _ _ _ _ h => h) ?_ _ (by rfl) ?_
  · refine obs_cons (by rfl) (fun vals w' hgr hdep K hK => ?_) (obs_cons (by rfl) (fun vals w' hgr hdep K hK => ?_) (obs_cons (by rfl) (fun vals w' hgr hdep K hK => ?_) (obs_cons (by rfl) (fun vals w' hgr hdep K hK => ?_) (obs_cons (by rfl) (fun vals w' hgr hdep K hK => ?_) (obs_cons (by rfl) (fun vals w' hgr hdep K hK => ?_) (obs_cons (by rfl) (fun vals w' hgr hdep K hK => ?_) (obs_cons (by rfl) (fun vals w' hgr hdep K hK => ?_) (obs_cons (by rfl) (fun vals w' hgr hdep K hK => ?_) (obs_cons (by rfl) (fun vals w' hgr hdep K hK => ?_) (obs_cons (by rfl) (fun vals w' hgr hdep K hK => ?_) (obs_cons (by rfl) (fun vals w' hgr hdep K hK => ?_) (obs_cons (by rfl) (fun vals w' hgr hdep K hK => ?_) (obs_cons (by rfl) (fun vals w' hgr hdep K hK => ?_) (obs_cons (by rfl) (fun vals w' hgr hdep K hK => ?_) (obs_cons (by rfl) (fun vals w' hgr hdep K hK => ?_) (obs_cons (by rfl) (fun vals w' hgr hdep K hK => ?_) (obs_cons (by rfl) (fun vals w' hgr hdep K hK => ?_) (obs_cons (by rfl) (fun vals w' hgr hdep K hK => ?_) (obs_cons (by rfl) (fun vals w' hgr hdep K hK => ?_) (obs_cons (by rfl) (fun vals w' hgr hdep K hK => ?_) (obs_cons (by rfl) (fun vals w' hgr hdep K hK => ?_) (obs_cons (by rfl) (fun vals w' hgr hdep K hK => ?_) (obs_cons (by rfl) (fun vals w' hgr hdep K hK => ?_) (obs_nil))))))))))))))))))))))))
    · exact wp_field (.tmp 1) rfl _ _ (at_out _ (by kernel_rfl) rfl) (field0 _ _) (hK _ _ (Below.refl _ _) rfl)
    · exact wp_load1 (.tmp 6) rfl ⟨w.heap.size, 0, none⟩ ((at_dst 0 (by kernel_rfl)).trans (hdep 0 (by simp) (by kernel_rfl))) Try.underlying3 rfl _ (((PW.out.below hgr PW.out.lt).cell 0).trans rfl) (hK _ _ (Below.refl _ _) rfl)
    · exact wp_bin (.const (.int .i64 1048576)) (.tmp 7) rfl _ _ _ rfl ((at_dst 1 (by kernel_rfl)).trans (hdep 1 (by simp) (by kernel_rfl))) (b_mul _ _ _ _ _ (by omega) (by omega)) (hK _ _ (Below.refl _ _) rfl)
    · exact wp_bin (.const (.int .i64 1610612736)) (.tmp 8) rfl _ _ _ rfl ((at_dst 2 (by kernel_rfl)).trans (hdep 2 (by simp) (by kernel_rfl))) (b_add _ _ _ _ _ (by omega) (by omega)) (hK _ _ (Below.refl _ _) rfl)
    · exact wp_field (.tmp 1) rfl _ _ (at_out _ (by kernel_rfl) rfl) (field1 _ _) (hK _ _ (Below.refl _ _) rfl)
    · exact wp_load1 (.tmp 10) rfl ⟨w.heap.size, 1, none⟩ ((at_dst 4 (by kernel_rfl)).trans (hdep 4 (by simp) (by kernel_rfl))) Try.underlying3 rfl _ (((PW.out.below hgr PW.out.lt).cell 1).trans rfl) (hK _ _ (Below.refl _ _) rfl)
    · exact wp_bin (.tmp 9) (.tmp 11) rfl _ _ _ ((at_dst 3 (by kernel_rfl)).trans (hdep 3 (by simp) (by kernel_rfl))) ((at_dst 5 (by kernel_rfl)).trans (hdep 5 (by simp) (by kernel_rfl))) (b_add _ _ _ _ _ (by omega) (by omega)) (hK _ _ (Below.refl _ _) rfl)
    · exact wp_call 29 [.tmp 12] _ rfl ent_four [.int .i64 (1610612736 + (1048576 * p.cls) + p.lab)] (congrArg (fun z => [z]) ((at_dst 6 (by kernel_rfl)).trans (hdep 6 (by simp) (by kernel_rfl)))) (fun v w'' => Lies w'' v 4 [(1610612736 + (1048576 * p.cls) + p.lab) / 16777216, (1610612736 + (1048576 * p.cls) + p.lab) / 65536 % 256, (1610612736 + (1048576 * p.cls) + p.lab) / 256 % 256, (1610612736 + (1048576 * p.cls) + p.lab) % 256] ∧ Below w'.heap.size w' w'') ((four_any (1610612736 + (1048576 * p.cls) + p.lab) w' (by omega) (by omega)).mono fun e w'' ⟨A, h1, h2, h3⟩ => ⟨_, h1, ⟨A, 4, rfl, h2⟩, h3⟩) (fun v w'' ⟨h1, h2⟩ => hK v _ h2 h1)
    · exact st_load_row 25 (.tmp 1) rfl w.heap.size (at_out _ (by kernel_rfl) rfl) 25 #[.int .i64 p.cls, .int .i64 p.lab, .int .i64 p.hop, .string p.src, .string p.dst, .slice E m ce, .int .i64 p.next, .slice A n c] (0, 0) _ (PW.out.below hgr PW.out.lt) Try.underlying25 rfl (by kernel_rfl) (hK _ _ (Below.refl _ _) rfl)
    · exact wp_call 25 [.tmp 14] _ rfl ent_size [.agg #[.int .i64 p.cls, .int .i64 p.lab, .int .i64 p.hop, .string p.src, .string p.dst, .slice E m ce, .int .i64 p.next, .slice A n c]] (congrArg (fun z => [z]) ((at_dst 8 (by kernel_rfl)).trans (hdep 8 (by simp) (by kernel_rfl)))) (fun v w'' => v = .int .i64 (S : Int) ∧ Below w'.heap.size w' w'') ((SZ.out w' hgr).mono fun e w'' ⟨h1, h2⟩ => ⟨_, h1, rfl, h2⟩) (fun v w'' ⟨h1, h2⟩ => hK v _ h2 h1)
    · exact wp_call 30 [.tmp 15] _ rfl ent_two [.int .i64 (S : Int)] (congrArg (fun z => [z]) ((at_dst 9 (by kernel_rfl)).trans (hdep 9 (by simp) (by kernel_rfl)))) (fun v w'' => Lies w'' v 2 [(S : Int) / 256, (S : Int) % 256] ∧ Below w'.heap.size w' w'') ((two_any (S : Int) w' (by omega) (by omega)).mono fun e w'' ⟨A, h1, h2, h3⟩ => ⟨_, h1, ⟨A, 2, rfl, h2⟩, h3⟩) (fun v w'' ⟨h1, h2⟩ => hK v _ h2 h1)
    · exact st_load_row 25 (.tmp 1) rfl w.heap.size (at_out _ (by kernel_rfl) rfl) 25 #[.int .i64 p.cls, .int .i64 p.lab, .int .i64 p.hop, .string p.src, .string p.dst, .slice E m ce, .int .i64 p.next, .slice A n c] (0, 0) _ (PW.out.below hgr PW.out.lt) Try.underlying25 rfl (by kernel_rfl) (hK _ _ (Below.refl _ _) rfl)
    · exact wp_call 31 [.tmp 17, .const (.int .i64 0)] _ rfl ent_kind [.agg #[.int .i64 p.cls, .int .i64 p.lab, .int .i64 p.hop, .string p.src, .string p.dst, .slice E m ce, .int .i64 p.next, .slice A n c], .int .i64 0] (two_list ((at_dst 11 (by kernel_rfl)).trans (hdep 11 (by simp) (by kernel_rfl))) rfl) (fun v w'' => v = .int .u8 k0 ∧ Below w'.heap.size w' w'') ((KA.out w' hgr).mono fun e w'' ⟨h1, h2⟩ => ⟨_, h1, rfl, h2⟩) (fun v w'' ⟨h1, h2⟩ => hK v _ h2 h1)
    · exact wp_field (.tmp 1) rfl _ _ (at_out _ (by kernel_rfl) rfl) (field2 _ _) (hK _ _ (Below.refl _ _) rfl)
    · exact wp_load1 (.tmp 19) rfl ⟨w.heap.size, 2, none⟩ ((at_dst 13 (by kernel_rfl)).trans (hdep 13 (by simp) (by kernel_rfl))) Try.underlying3 rfl _ (((PW.out.below hgr PW.out.lt).cell 2).trans rfl) (hK _ _ (Below.refl _ _) rfl)
    · exact wp_conv (.tmp 20) rfl _ _ ((at_dst 14 (by kernel_rfl)).trans (hdep 14 (by simp) (by kernel_rfl))) (conv_u8 _ _ (by omega) (by omega)) (hK _ _ (Below.refl _ _) rfl)
    · exact st_slice8_2 (.tmp 18) (.tmp 21) rfl _ _ ((at_dst 12 (by kernel_rfl)).trans (hdep 12 (by simp) (by kernel_rfl))) ((at_dst 15 (by kernel_rfl)).trans (hdep 15 (by simp) (by kernel_rfl))) (by omega) (by omega) (by omega) (by omega) (fun o => hK _ _ ((Below.refl _ _).alloc (Nat.le_refl _) _) o)
    · exact wp_field (.tmp 1) rfl _ _ (at_out _ (by kernel_rfl) rfl) (field3 _ _) (hK _ _ (Below.refl _ _) rfl)
    · exact wp_load1 (.tmp 23) rfl ⟨w.heap.size, 3, none⟩ ((at_dst 17 (by kernel_rfl)).trans (hdep 17 (by simp) (by kernel_rfl))) Try.underlying9 rfl _ (((PW.out.below hgr PW.out.lt).cell 3).trans rfl) (hK _ _ (Below.refl _ _) rfl)
    · exact st_nums (.tmp 24) rfl p.src ((at_dst 18 (by kernel_rfl)).trans (hdep 18 (by simp) (by kernel_rfl))) (by simp only [maxLen]; omega) (fun v w'' o b => hK _ _ b o)
    · exact wp_field (.tmp 1) rfl _ _ (at_out _ (by kernel_rfl) rfl) (field4 _ _) (hK _ _ (Below.refl _ _) rfl)
    · exact wp_load1 (.tmp 26) rfl ⟨w.heap.size, 4, none⟩ ((at_dst 20 (by kernel_rfl)).trans (hdep 20 (by simp) (by kernel_rfl))) Try.underlying9 rfl _ (((PW.out.below hgr PW.out.lt).cell 4).trans rfl) (hK _ _ (Below.refl _ _) rfl)
    · exact st_nums (.tmp 27) rfl p.dst ((at_dst 21 (by kernel_rfl)).trans (hdep 21 (by simp) (by kernel_rfl))) (by simp only [maxLen]; omega) (fun v w'' o b => hK _ _ b o)
    · obtain ⟨A0, c0, e0, l0⟩ := hdep 7 (by simp) (by kernel_rfl)
      obtain ⟨A1, c1, e1, l1⟩ := hdep 10 (by simp) (by kernel_rfl)
      obtain ⟨A2, c2, e2, l2⟩ := hdep 16 (by simp) (by kernel_rfl)
      obtain ⟨A3, c3, e3, l3⟩ := hdep 19 (by simp) (by kernel_rfl)
      obtain ⟨A4, c4, e4, l4⟩ := hdep 22 (by simp) (by kernel_rfl)
      exact st_slice5 (.tmp 13) (.tmp 16) (.tmp 22) (.tmp 25) (.tmp 28) rfl _ _ _ _ _ _ _ _ _ _ _ _ _ _ _ ((at_dst 7 (by kernel_rfl)).trans e0) ((at_dst 10 (by kernel_rfl)).trans e1) ((at_dst 16 (by kernel_rfl)).trans e2) ((at_dst 19 (by kernel_rfl)).trans e3) ((at_dst 22 (by kernel_rfl)).trans e4) (hK _ _ ((Below.refl _ _).alloc (Nat.le_refl _) _) ⟨_, A0, c0, A1, c1, A2, c2, A3, c3, A4, c4, rfl, all_lit _ _ _ _ rfl (mem5 l0 l1 l2 l3 l4)⟩)
  · intro vals w' hgr hG
    obtain ⟨g, A0, c0, A1, c1, A2, c2, A3, c3, A4, c4, eg, al⟩ : ∃ g A0 c0 A1 c1 A2 c2 A3 c3 A4 c4, vals 23 = .slice (some ⟨g, 0, none⟩) 5 5 ∧ Both.All w' w'.heap.size g [⟨A0, 4, c0, [(1610612736 + (1048576 * p.cls) + p.lab) / 16777216, (1610612736 + (1048576 * p.cls) + p.lab) / 65536 % 256, (1610612736 + (1048576 * p.cls) + p.lab) / 256 % 256, (1610612736 + (1048576 * p.cls) + p.lab) % 256]⟩, ⟨A1, 2, c1, [(S : Int) / 256, (S : Int) % 256]⟩, ⟨A2, 2, c2, [k0, p.hop]⟩, ⟨A3, p.src.size, c3, nums p.src⟩, ⟨A4, p.dst.size, c4, nums p.dst⟩] := hG 23 (by simp)
    refine wp_call 17 [.tmp 29] _ rfl ent_both [.slice (some ⟨g, 0, none⟩) 5 5] (congrArg (fun z => [z]) ((at_dst 23 (by kernel_rfl)).trans eg)) (fun v w'' => Owns w'' w'.heap.size v 40 (p.head S) ∧ Below w'.heap.size w' w'') ((Both.both_any g 5 5 _ w' al rfl (by decide) (by show 4 + (2 + (2 + (p.src.size + (p.dst.size + 0)))) ≤ 1048576; omega)).mono fun e w'' ⟨v, h1, h2, h3⟩ => ⟨v, h1, by rw [HD.out]; rw [(by show 4 + (2 + (2 + (p.src.size + (p.dst.size + 0)))) = 40; omega : Both.total [⟨A0, 4, c0, [(1610612736 + (1048576 * p.cls) + p.lab) / 16777216, (1610612736 + (1048576 * p.cls) + p.lab) / 65536 % 256, (1610612736 + (1048576 * p.cls) + p.lab) / 256 % 256, (1610612736 + (1048576 * p.cls) + p.lab) % 256]⟩, ⟨A1, 2, c1, [(S : Int) / 256, (S : Int) % 256]⟩, ⟨A2, 2, c2, [k0, p.hop]⟩, ⟨A3, p.src.size, c3, nums p.src⟩, ⟨A4, p.dst.size, c4, nums p.dst⟩] = 40)] at h2; simpa [Both.flat] using h2, h3⟩) (fun v2 w2 ⟨o2, hb⟩ => ?_)
    refine wpAnyH_next 25 _ rfl rfl (by kernel_rfl) (st_assign (.tmp 30) _ rfl (put_tmps_eq (fill_size _ _ _) (by kernel_rfl)) ⟨trivial, wpAnyH_done (by kernel_rfl) ?_ _⟩)
    have gr2 : Below w1.heap.size w1 w2 := ((below_drewN (Below.refl w1.heap.size w1) 1).trans hgr).trans (hb.mono hgr.size)
    have B2 := Lib.hid (B1.out.trans (gr2.mono B1.out.size))
    have P2 := Lib.hid (P1.out.below gr2 P1.out.lt)
    have O2 := Lib.hid (o2.mono hgr.size)
    have s2 := gr2.size
    clear hG hgr o2 hb gr2 eg al
    simp only [fill, dstAt, List.getElem?_cons_zero, List.getElem?_cons_succ, Option.bind_some, Act.put, List.setIfInBounds_toArray, List.set_cons_zero, List.set_cons_succ]
    generalize vals 0 = x0, vals 1 = x1, vals 2 = x2, vals 3 = x3, vals 4 = x4, vals 5 = x5, vals 6 = x6, vals 7 = x7, vals 8 = x8, vals 9 = x9, vals 10 = x10, vals 11 = x11, vals 12 = x12, vals 13 = x13, vals 14 = x14, vals 15 = x15, vals 16 = x16, vals 17 = x17, vals 18 = x18, vals 19 = x19, vals 20 = x20, vals 21 = x21, vals 22 = x22, vals 23 = x23
    have lw1 := P1.out.lt
    clear PW SZ KA P1 B1
    go_wp2_with fail
    go_loopw [3, 4] (fun s i wr => Bl p E m ce A n c w w1.heap.size S s i wr) (fun _ i _ => m - (intOf i).toNat)
    case atStart => exact ⟨0, _, rfl, rfl, by omega, Lib.hid (by have := O2.out; simpa [behind, pre, encs] using this), P2, B2, s2⟩
    case round =>
      obtain ⟨k, v, rfl, hs, hk, OV, PB, BB, hbase⟩ := hrel
      replace hs := hs.symm
      subst hs
      clear O2 P2 B2
      have btk := BT.out k
      have x5 := PB.out.cell 5
      by_cases hk2 : k = m
      · have hlt : decide (k < m) = false := by simp [hk2]
        have full : p.exts.take k = p.exts := List.take_of_length_le (by rw [L.out]; omega)
        have OF : Hid (Owns wr w1.heap.size v (40 + behind p.exts) (p.head S ++ encs p.exts p.next)) := Lib.hid (by
          have := OV.out
          rwa [full, pre_all _ (by rw [L.out]; omega)] at this)
        have x7 := PB.out.cell 7
        have HA := Lib.hid (HL.out.below BB.out)
        clear hk2 full OV
        go_wp2_with (at_builtin
                     refine wpList_append_bytes rfl (.tmp 68) (.tmp 70) rfl w1.heap.size v _ _ rfl OF.out w.heap.size A n c l rfl HA.out (by omega) hbase ?_
                     intro v9 w9 o9 g9 _)
        go_ret
        refine ⟨_, rfl, ?_, BB.out.grown g9 BB.out.size fun g hg => by have := (OF.out.lt g hg).1; omega⟩
        rw [BY.out]
        have e40 : 40 + behind p.exts + n = 40 + S := by have := SS.out; omega
        rw [e40] at o9
        exact o9.mono (by omega)
      · have hlt : decide (k < m) = true := by rw [decide_eq_true_eq]; omega
        obtain ⟨a, q, d, rfl, hq, hab, c1, c2, c3⟩ := (R0.out.below BB.out).at_ (k := k) (by omega)
        have hi : k < m := by omega
        have FT := fits_spec (fits_at FI.out hq)
        simp only at FT
        have NX := Lib.hid (pre_next hq p.next)
        have TB := Lib.hid (behind_take hq)
        have btk1 := BT.out (k + 1)
        rw [TB.out] at btk1
        obtain ⟨nk, hnk⟩ : ∃ nk, nk = kindOf (p.exts.drop (k + 1)) p.next := ⟨_, rfl⟩
        have kd := KD.out (k + 1)
        rw [← hnk] at NX kd
        have KK : Hid (∀ W, Below w.heap.size w W → Calls Try.prog 31 #[.agg #[.int .i64 p.cls, .int .i64 p.lab, .int .i64 p.hop, .string p.src, .string p.dst, .slice (some a) m ce, .int .i64 p.next, .slice A n c], .int .i64 ((k : Int) + 1)] W fun e w' => e = .returned (.int .u8 nk) ∧ Below W.heap.size W w') := Lib.hid (fun W bel => by
          have := kind_any p (some a) m ce A n c W (k + 1) (R0.out.below bel) hm (by omega) (by rw [← hnk]; omega) (by rw [← hnk]; omega)
          rw [← hnk] at this
          rwa [show ((k + 1 : Nat) : Int) = (k : Int) + 1 by omega] at this)
        have X1 := Lib.hid (Blk.new wr 43 #[.int .i64 q, .string d])
        have P1' := Lib.hid (PB.out.alloc (.cells #[.int .i64 q, .string d] 43))
        have BB1 := Lib.hid (BB.out.alloc BB.out.size (.cells #[.int .i64 q, .string d] 43))
        have OV1 := Lib.hid (OV.out.alloc (.cells #[.int .i64 q, .string d] 43))
        have hsz : sz (q, d) = opn q + d.size := rfl
        have dsm : d.size ≤ 2046 := by omega
        have opb := opn_le q
        have ox : some wr.heap.size ≠ v.ownBlock := fun q => by have := (OV.out.lt _ q.symm).2; omega
        have opx : some w.heap.size ≠ v.ownBlock := fun q => by have := (OV.out.lt _ q.symm).1; omega
        have wx := PB.out.lt
        clear hq hk2 hnk PB BB OV
        go_wp2_with (first
          | (refine wpList_load_pair rfl _ rfl a k q d rfl c1 c2 ?_)
          | (refine Loads.wpList_load_w rfl 25 (.tmp 1) rfl w.heap.size rfl 25 #[.int .i64 p.cls, .int .i64 p.lab, .int .i64 p.hop, .string p.src, .string p.dst, .slice (some a) m ce, .int .i64 p.next, .slice A n c] (0, 0) _ P1'.out (Try.underlying25) rfl (by kernel_rfl) ?_))
        refine (KK.out _ BB1.out).mono ?_
        rintro e w3 ⟨rfl, hb⟩
        have X3 := Lib.hid (X1.out.below hb X1.out.lt)
        have P3 := Lib.hid (P1'.out.below hb P1'.out.lt)
        have BB3 := Lib.hid (BB1.out.trans (hb.mono BB1.out.size))
        have OV3 := Lib.hid (OV1.out.below hb (Nat.le_refl _))
        have s3 : w1.heap.size ≤ w3.heap.size := by have := hb.size; simp at this; omega
        have zz : ∀ y ∈ [nk], 0 ≤ y ∧ y ≤ 255 := fun y hy => by simp at hy; omega
        have LN := Lib.hid (Owns.lit w3 0 (Nat.zero_le _) [nk] #[.int .u8 nk] rfl (by simp [maxLen]) zz)
        have B4a := Lib.hid (BB3.out.alloc BB3.out.size (.cells #[.int .u8 nk] 5))
        have P4a := Lib.hid (P3.out.alloc (.cells #[.int .u8 nk] 5))
        have X4a := Lib.hid (X3.out.alloc (.cells #[.int .u8 nk] 5))
        clear X1 P1' BB1 OV1 hb zz x5
        by_cases q4 : q = 44
        · have q4b : (q != 44) = false := by rw [bne_eq_false_iff_eq]; exact q4
          have o1 : opn q = 1 := by unfold opn; rw [if_pos q4]
          have LE : Hid (p.head S ++ pre p.exts p.next k ++ [nk] ++ nums d = p.head S ++ pre p.exts p.next (k + 1)) := Lib.hid (by rw [NX.out]; unfold encX; rw [if_pos q4]; simp)
          go_wp2_with (first
            | (at_builtin
               refine wpList_append_bytes rfl (.tmp 43) (.tmp 48) rfl w1.heap.size v _ _ rfl (OV3.out.alloc _) _ (some ⟨w3.heap.size, 0, none⟩) 1 1 [nk] rfl (by simpa using LN.out.holds) (by omega) (by simp; omega) ?_
               intro v4 w4 o4 g4 a4
               have x40 := (X4a.out.grown g4 ox).cell 0
               have x41 := (X4a.out.grown g4 ox).cell 1
               have s4 := g4.size
               obtain ⟨w5, vd, hr5, od, hb5⟩ := run_bytes_string w4 d (by simp only [maxLen]; omega)
               obtain ⟨Ad, cd, rfl, hd5⟩ := od.slice
               have s5 := hb5.size
               have o5 := o4.below hb5 (Nat.le_refl _))
            | (at_builtin
               refine wpList_append_bytes rfl (.tmp 63) (.tmp 66) rfl w1.heap.size v4 _ _ rfl o5 _ Ad d.size cd (nums d) rfl hd5 (by omega) (by simp at s4; omega) ?_
               intro v6 w6 o6 g6 _))
          have B6 := Lib.hid (((B4a.out.grown g4 B4a.out.size (fun g hg => by have := (OV3.out.lt g hg).1; omega)).trans (hb5.mono (by have := B4a.out.size; omega))).grown g6 (by have := B4a.out.size; omega) (fun g hg => by have := (o4.lt g hg).1; omega))
          have P6 := Lib.hid ((((P4a.out.grown g4 opx)).below hb5 (P4a.out.grown g4 opx).lt).grown g6 (fun q => by have := (o4.lt _ q.symm).1; omega))
          rw [LE.out, show 40 + behind (p.exts.take k) + 1 + d.size = 40 + behind (p.exts.take (k + 1)) by rw [TB.out, hsz]; omega] at o6
          have O6 := Lib.hid o6
          have s6 : w1.heap.size ≤ w6.heap.size := by have := g6.size; simp at s4; omega
          clear o6 g6 g4 o4 o5 x40 x41 hr5 hd5 od hb5
          go_wp2_with fail
          go_roundw
          case rel => exact ⟨k + 1, _, by go_num, rfl, by omega, O6, P6, B6, s6⟩
          case measure => simp [intOf]; omega
        · have q4b : (q != 44) = true := by rw [bne_iff_ne]; exact q4
          have o2 : opn q = 2 := by unfold opn; rw [if_neg q4]
          have FT2 : d.size % 8 = 6 ∧ d.size ≤ 2046 := by
            rcases FT.2.2 with x | x
            · exact absurd x.1 q4
            · exact x.2
          have LE : Hid (p.head S ++ pre p.exts p.next k ++ [nk] ++ [((d.size : Int) + 2) / 8 - 1] ++ nums d = p.head S ++ pre p.exts p.next (k + 1)) := Lib.hid (by rw [NX.out]; unfold encX; rw [if_neg q4]; simp)
          obtain ⟨z, hz⟩ : ∃ z, z = ((d.size : Int) + 2) / 8 - 1 := ⟨_, rfl⟩
          have zb : 0 ≤ z ∧ z ≤ 255 := by omega
          have e8 : IntKind.u8.wrap (((d.size : Int) + 2) / 8 - 1) = z := by rw [← hz, IntKind.wrap_u8]; omega
          rw [← hz] at LE
          clear hz
          go_wp2_with (first
            | (at_builtin
               refine wpList_append_bytes rfl (.tmp 43) (.tmp 48) rfl w1.heap.size v _ _ rfl (OV3.out.alloc _) _ (some ⟨w3.heap.size, 0, none⟩) 1 1 [nk] rfl (by simpa using LN.out.holds) (by omega) (by simp; omega) ?_
               intro v4 w4 o4 g4 a4
               have X4 := Lib.hid (X4a.out.grown g4 ox)
               have x40 := X4.out.cell 0
               have x41 := X4.out.cell 1
               have s4 := g4.size
               have ox4 : some wr.heap.size ≠ v4.ownBlock := fun q => by
                 rcases a4 with e | e
                 · rw [e] at q; exact ox q
                 · rw [e] at q
                   injection q with q
                   have := X3.out.lt
                   simp at q
                   omega
               have op4 : some w.heap.size ≠ v4.ownBlock := fun q => by have := (o4.lt _ q.symm).1; omega
               have LZ := Lib.hid (Owns.lit w4 0 (Nat.zero_le _) [z] #[.int .u8 z] rfl (by simp [maxLen]) (fun y hy => by simp at hy; omega)))
            | (at_builtin
               refine wpList_append_bytes rfl (.tmp 53) (.tmp 61) rfl w1.heap.size v4 _ _ rfl (o4.alloc _) _ (some ⟨w4.heap.size, 0, none⟩) 1 1 [z] rfl (by simpa using LZ.out.holds) (by omega) (by simp at s4 ⊢; omega) ?_
               intro v7 w7 o7 g7 _
               have x71 := ((X4.out.alloc (.cells #[.int .u8 z] 5)).grown g7 ox4).cell 1
               have s7 := g7.size
               obtain ⟨w5, vd, hr5, od, hb5⟩ := run_bytes_string w7 d (by simp only [maxLen]; omega)
               obtain ⟨Ad, cd, rfl, hd5⟩ := od.slice
               have s5 := hb5.size
               have o5 := o7.below hb5 (Nat.le_refl _))
            | (at_builtin
               refine wpList_append_bytes rfl (.tmp 63) (.tmp 66) rfl w1.heap.size v7 _ _ rfl o5 _ Ad d.size cd (nums d) rfl hd5 (by omega) (by simp at s4 s7; omega) ?_
               intro v6 w6 o6 g6 _))
          have B6 := Lib.hid (((((B4a.out.grown g4 B4a.out.size (fun g hg => by have := (OV3.out.lt g hg).1; omega)).alloc (by have := B4a.out.size; omega) (.cells #[.int .u8 z] 5)).grown g7 (by have := B4a.out.size; simp; omega) (fun g hg => by have := (o4.lt g hg).1; omega)).trans (hb5.mono (by have := B4a.out.size; simp at s7; omega))).grown g6 (by have := B4a.out.size; simp at s7; omega) (fun g hg => by have := (o7.lt g hg).1; omega))
          have P7 := ((P4a.out.grown g4 opx).alloc (.cells #[.int .u8 z] 5)).grown g7 op4
          have P6 := Lib.hid ((P7.below hb5 P7.lt).grown g6 (fun q => by have := (o7.lt _ q.symm).1; omega))
          rw [LE.out, show 40 + behind (p.exts.take k) + 1 + 1 + d.size = 40 + behind (p.exts.take (k + 1)) by rw [TB.out, hsz]; omega] at o6
          have O6 := Lib.hid o6
          have s6 : w1.heap.size ≤ w6.heap.size := by have := g6.size; simp at s4 s7; omega
          clear o6 g6 g4 g7 o4 o7 o5 x40 x41 x71 hr5 hd5 od hb5 P7 X4 LZ
          go_wp2_with fail
          go_roundw
          case rel => exact ⟨k + 1, _, by go_num, rfl, by omega, O6, P6, B6, s6⟩
          case measure => simp [intOf]; omega
end Go.Proofs.Ytjfieoleoodfdaa.BytesRef
