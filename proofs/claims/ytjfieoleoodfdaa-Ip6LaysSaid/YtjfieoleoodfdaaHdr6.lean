/- The contract of header. -/
import Derived.Test.YtjfieoleoodfdaaParse6
import Derived.OwnWalk
set_option linter.unusedVariables false
namespace Go.Proofs.Ytjfieoleoodfdaa.Hdr6
open Go.RowKit Go.Proofs.Ytjfieoleoodfdaa.Sums Go.Proofs.Ytjfieoleoodfdaa.Mem Go.Proofs.Ytjfieoleoodfdaa.P6 Go.Proofs.Ytjfieoleoodfdaa.Blk Go.Proofs.Ytjfieoleoodfdaa.Regs Go.Proofs.Ytjfieoleoodfdaa.Small6 Go.Proofs.Ytjfieoleoodfdaa.Behind6 Go.Proofs.Ytjfieoleoodfdaa.Kinds6 Go.Proofs.Ytjfieoleoodfdaa.Loads6 Go.Proofs.Ytjfieoleoodfdaa.Free Go.Proofs.Ytjfieoleoodfdaa.Steps Go.Proofs.Ytjfieoleoodfdaa.Bits Go.Proofs.Ytjfieoleoodfdaa.Exts Go.Proofs.Ytjfieoleoodfdaa.Opts Go.Proofs.Ytjfieoleoodfdaa.Dec6

theorem made_take (n : Nat) : (madeCells #[Value.int .u8 0] n).size = n := by simp [madeCells]
set_option maxRecDepth 100000 in
theorem make_cap (n : Nat) (w : World) (hn : n ≤ 1048576) :
    (Instr.makeSlice 23 (.int .i64 0) (.int .i64 (n : Int))).run Try.prog w = .ok (.slice (some ⟨w.heap.size, 0, none⟩) 0 n) (w.alloc (.cells (madeCells #[.int .u8 0] n) 5)) := by
  obtain ⟨i, hi, hz, hsz, hby⟩ := info_parts byte_info
  have hr := run_make (P := Try.prog) w 23 5 i (.int .u8 0) Try.underlying23 hi hz .i64 .i64 0 (n : Int) (by omega) (by omega) (by rw [hby]; omega) (by omega)
  simp only [Int.toNat_natCast, hsz, Nat.mul_one] at hr
  exact hr
theorem Owns.made (w : World) (n : Nat) (hn : n ≤ 1048576) : Owns (w.alloc (.cells (madeCells #[.int .u8 0] n) 5)) w.heap.size (.slice (some ⟨w.heap.size, 0, none⟩) 0 n) 0 [] :=
  ⟨rfl, fun _ h => (by cases h), .inr ⟨w.heap.size, n, _, (0, 0), rfl, Nat.le_refl _, heap_alloc_new w _, .inl rfl, Nat.zero_le _, by simp only [maxLen]; omega, made_take n, rfl⟩⟩
theorem b_shr (a : Int) (x y : Operand) (w : World) (h0 : 0 ≤ a) (h1 : a ≤ 1048576) : (do eqGuard .shr 3 x y (.int .i64 a) (.int .u64 8); binOp .shr 3 (.int .i64 a) (.int .u64 8) : Sem Value).run Try.prog w = .ok (.int .i64 (a / 256)) w := by
  simp [go_sem, eqGuard]
theorem conv_low (a : Int) (w : World) (h0 : 0 ≤ a) : (convert 3 5 (.int .i64 a)).run Try.prog w = .ok (.int .u8 (a % 256)) w := by
  have e : IntKind.u8.wrap a = a % 256 := by rw [IntKind.wrap_u8]
  have u1 := Try.underlying3
  have u2 := Try.underlying5
  simp [convert, run_underlying u1, run_underlying u2, Conv.intToInt, e]
theorem field2 (g : Nat) (w : World) : (Instr.fieldAt 25 (.pointer (some ⟨g, 0, none⟩)) 2).run Try.prog w = .ok (.pointer (some ⟨g, 2, none⟩)) w := by kernel_rfl
theorem ent_kindAt : Enters Try.prog 21 := enters_of Try.func21 (by kernel_rfl) rfl
theorem two_list {a : Act} {x y : Operand} {u v : Value} (h1 : a.eval x = u) (h2 : a.eval y = v) : [x, y].map a.eval = [u, v] := by simp [h1, h2]
theorem run_slice8_4 (w : World) (u v x y : Int) : (Instr.buildSlice 23 4 #[(0, .int .u8 u), (1, .int .u8 v), (2, .int .u8 x), (3, .int .u8 y)]).run Try.prog w = .ok (.slice (some ⟨w.heap.size, 0, none⟩) 4 4) (w.alloc (.cells #[.int .u8 u, .int .u8 v, .int .u8 x, .int .u8 y] 5)) := by
  kernel_rfl
theorem st_slice8_4 {o : Oper} {a : Act} {w : World} {K : Act → World → Prop} {Q : Exit → Act → World → Prop} (x1 x2 x3 x4 : Operand) (ho : o.op = .buildSlice 23 4 #[(0, x1), (1, x2), (2, x3), (3, x4)]) (u1 u2 u3 u4 : Int) (h1 : a.eval x1 = .int .u8 u1) (h2 : a.eval x2 = .int .u8 u2) (h3 : a.eval x3 = .int .u8 u3) (h4 : a.eval x4 = .int .u8 u4)
    (a1 : 0 ≤ u1) (b1 : u1 ≤ 255) (a2 : 0 ≤ u2) (b2 : u2 ≤ 255) (a3 : 0 ≤ u3) (b3 : u3 ≤ 255) (a4 : 0 ≤ u4) (b4 : u4 ≤ 255)
    (hK : Owns (w.alloc (.cells #[.int .u8 u1, .int .u8 u2, .int .u8 u3, .int .u8 u4] 5)) 0 (.slice (some ⟨w.heap.size, 0, none⟩) 4 4) 4 [u1, u2, u3, u4] → K (a.put o.dst (.slice (some ⟨w.heap.size, 0, none⟩) 4 4)) (w.alloc (.cells #[.int .u8 u1, .int .u8 u2, .int .u8 u3, .int .u8 u4] 5))) : Step Try.prog o a w K Q := by
  constructor
  have hr : (execOp a.eval o).run Try.prog w = .ok (.value (.slice (some ⟨w.heap.size, 0, none⟩) 4 4)) (w.alloc (.cells #[.int .u8 u1, .int .u8 u2, .int .u8 u3, .int .u8 u4] 5)) := by
    simp [execOp, ho, h1, h2, h3, h4, run_slice8_4 w, Result.andThen]
  unfold Oper.wp
  rw [hr]
  exact hK (Owns.lits w 0 (Nat.zero_le _) [u1, u2, u3, u4] 4 _ _ rfl rfl rfl (by decide) (fun y hy => by simp at hy; omega))
theorem or_six {x y : Int} (x0 : 0 ≤ x) (x1 : x ≤ 255) (y0 : 0 ≤ y) (y1 : y ≤ 1048575) : bits .or .i64 1610612736 (x * 1048576) = 1610612736 + x * 1048576 ∧ bits .or .i64 (1610612736 + x * 1048576) y = 1610612736 + x * 1048576 + y := by
  have e1 := or_low 28 (a := 6) (b := x * 1048576) (by decide) (by decide) (by omega) (by simp; omega) (by decide)
  have e2 := or_low 20 (a := 1536 + x) (b := y) (by omega) (by simp; omega) y0 (by simp; omega) (by decide)
  simp at e1 e2
  refine ⟨e1, ?_⟩
  rw [show 1610612736 + x * 1048576 = (1536 + x) * 1048576 by omega]
  exact e2

set_option maxHeartbeats 4000000 in
set_option maxRecDepth 100000 in
theorem header_any (p : Pkt) (E : Option Addr) (m ce : Nat) (A : Option Addr) (n c : Nat) (w : World) (hr : Row w (.slice E m ce) p.exts) (hz : Small p.exts) (hm : m ≤ 65536) (hn : n ≤ 1048576) (hv : Valid p) (hS : n + behind p.exts ≤ 65535) :
    Calls Try.prog 20 #[.agg #[.int .i64 p.cls, .int .i64 p.lab, .int .i64 p.hop, .string p.src, .string p.dst, .slice E m ce, .int .i64 p.next, .slice A n c]] w fun e w' => ∃ v, e = .returned v ∧ Owns w' w.heap.size v 40 (p.head (n + behind p.exts)) ∧ Below w.heap.size w w' := by
  obtain ⟨S, hSS⟩ : ∃ S, S = n + behind p.exts := ⟨_, rfl⟩
  have hc := hv.c
  have hl := hv.l
  have hh := hv.h
  have hs := hv.s
  have hd := hv.d
  have kk := kind_in hv.e hv.n.1 hv.n.2
  obtain ⟨k0, hk0⟩ : ∃ k0, k0 = kindOf p.exts p.next := ⟨_, rfl⟩
  rw [← hk0] at kk
  have B0 := Lib.hid ((Below.refl w.heap.size w).alloc (Nat.le_refl _) (.cells #[.int .i64 p.cls, .int .i64 p.lab, .int .i64 p.hop, .string p.src, .string p.dst, .slice E m ce, .int .i64 p.next, .slice A n c] 25))
  have P0 := Lib.hid (Blk.new w 25 #[.int .i64 p.cls, .int .i64 p.lab, .int .i64 p.hop, .string p.src, .string p.dst, .slice E m ce, .int .i64 p.next, .slice A n c])
  have BH := Lib.hid (fun W (bel : Below w.heap.size w W) => behind_code p E m ce A n c W (hr.below bel) hz hm hn)
  have KA0 := Lib.hid (fun W (bel : Below w.heap.size w W) => kindAt_any p E m ce A n c W 0 (hr.below bel) hm (by omega))
  rw [← hSS] at BH hS ⊢
  rw [List.drop_zero, ← hk0] at KA0
  have HD : Hid (p.head S = [96 + p.cls / 16, p.cls % 16 * 16 + p.lab / 65536, p.lab / 256 % 256, p.lab % 256] ++ [(S : Int) / 256, (S : Int) % 256, k0, p.hop] ++ nums p.src ++ nums p.dst) := Lib.hid (by rw [Pkt.head, ← hk0]; simp)
  have e1 : IntKind.i64.wrap (p.cls * 1048576) = p.cls * 1048576 := IntWalk.i64_in _ (by omega)
  obtain ⟨e2, e3⟩ := or_six hc.1 hc.2 hl.1 hl.2
  have MK := make_cap (40 + S) 
  have MC : ∀ W, (Instr.makeSlice 23 (.int .i64 0) (.int .i64 (40 + (S : Int)))).run Try.prog W = .ok (.slice (some ⟨W.heap.size, 0, none⟩) 0 (40 + S)) (W.alloc (.cells (madeCells #[.int .u8 0] (40 + S)) 5)) := fun W => by
    have := make_cap (40 + S) W (by omega)
    rwa [show ((40 + S : Nat) : Int) = 40 + (S : Int) by omega] at this
  have f1 : IntKind.u8.wrap ((1610612736 + p.cls * 1048576 + p.lab) / 16777216) = 96 + p.cls / 16 := by rw [IntKind.wrap_u8]; omega
  have f2 : IntKind.u8.wrap ((1610612736 + p.cls * 1048576 + p.lab) / 65536) = p.cls % 16 * 16 + p.lab / 65536 := by rw [IntKind.wrap_u8]; omega
  have f3 : IntKind.u8.wrap ((1610612736 + p.cls * 1048576 + p.lab) / 256) = p.lab / 256 % 256 := by rw [IntKind.wrap_u8]; omega
  have f4 : IntKind.u8.wrap (1610612736 + p.cls * 1048576 + p.lab) = p.lab % 256 := by rw [IntKind.wrap_u8]; omega
  clear MK hr hz hSS hk0
  go_enter Try.func20, Try.ntmps20
  go_wp2_with (first
    | (refine Loads.wpList_load_w rfl 25 (.tmp 1) rfl w.heap.size rfl 25 #[.int .i64 p.cls, .int .i64 p.lab, .int .i64 p.hop, .string p.src, .string p.dst, .slice E m ce, .int .i64 p.next, .slice A n c] (0, 0) _ P0.out (Try.underlying25) rfl (by kernel_rfl) ?_))
  refine (BH.out _ B0.out).mono ?_
  rintro e w1 ⟨rfl, hb⟩
  have B1 := Lib.hid (B0.out.trans (hb.mono B0.out.size))
  have P1 := Lib.hid (P0.out.below hb P0.out.lt)
  clear hb
  have d0 := P1.out.cell 0
  have d1 := P1.out.cell 1
  have O2 := Lib.hid (Owns.made w1 (40 + S) (by omega))
  have O3 := Lib.hid (Owns.lit (w1.alloc (.cells (madeCells #[.int .u8 0] (40 + S)) 5)) 0 (Nat.zero_le _) [96 + p.cls / 16, p.cls % 16 * 16 + p.lab / 65536, p.lab / 256 % 256, p.lab % 256] #[.int .u8 (96 + p.cls / 16), .int .u8 (p.cls % 16 * 16 + p.lab / 65536), .int .u8 (p.lab / 256 % 256), .int .u8 (p.lab % 256)] rfl (by simp [maxLen]) (fun y hy => by simp at hy; omega))
  have s1 := B1.out.size
  go_wp2_with (at_builtin
               refine wpList_append_bytes rfl (.tmp 18) (.tmp 30) rfl w1.heap.size _ 0 [] rfl (O2.out.alloc _) _ (some ⟨w1.heap.size + 1, 0, none⟩) 4 4 [96 + p.cls / 16, p.cls % 16 * 16 + p.lab / 65536, p.lab / 256 % 256, p.lab % 256] rfl (by simpa using O3.out.holds) (by omega) (by simp; omega) ?_
               intro v5 w5 o5 g5 _)
  have B5 := Lib.hid (((B1.out.alloc B1.out.size (.cells (madeCells #[.int .u8 0] (40 + S)) 5)).alloc (by simp; omega) (.cells #[.int .u8 (96 + p.cls / 16), .int .u8 (p.cls % 16 * 16 + p.lab / 65536), .int .u8 (p.lab / 256 % 256), .int .u8 (p.lab % 256)] 5)).grown g5 (by simp; omega) (fun g hg => by have := (O2.out.lt g hg).1; omega))
  have P5 := Lib.hid (((P1.out.alloc (.cells (madeCells #[.int .u8 0] (40 + S)) 5)).alloc (.cells #[.int .u8 (96 + p.cls / 16), .int .u8 (p.cls % 16 * 16 + p.lab / 65536), .int .u8 (p.lab / 256 % 256), .int .u8 (p.lab % 256)] 5)).grown g5 (fun q => by have := (O2.out.lt _ q.symm).1; have := P1.out.lt; omega))
  have O5 : Hid (Owns w5 w1.heap.size v5 4 [96 + p.cls / 16, p.cls % 16 * 16 + p.lab / 65536, p.lab / 256 % 256, p.lab % 256]) := Lib.hid (by simpa using o5)
  have W5 : w1.heap.size ≤ w5.heap.size := by have := g5.size; simp at this; omega
  have PW := Lib.hid P5.out.drew
  have KA : Hid (∀ w', Below w5.drew.heap.size w5.drew w' → Calls Try.prog 21 #[.agg #[.int .i64 p.cls, .int .i64 p.lab, .int .i64 p.hop, .string p.src, .string p.dst, .slice E m ce, .int .i64 p.next, .slice A n c], .int .i64 0] w' fun e w'' => e = .returned (.int .i64 k0) ∧ Below w'.heap.size w' w'') := Lib.hid fun w' h => KA0.out w' (B5.out.trans (((below_drewN (Below.refl w5.heap.size w5) 1).trans h).mono B5.out.size))
  clear o5 g5 e1 e2 e3 f1 f2 f3 f4 MC d0 d1 O2 O3 BH B1 P0 B0
  refine wp_region_free [0, 1, 2, 3, 4, 5, 6, 7, 8, 9, 10, 11, 12] 13 [14] (fun w1 w2 => Below w1.heap.size w1 w2) (fun k' w' v => match k' with
    | 0 => v = v5
    | 1 => v = .int .i64 ((S : Int))
    | 2 => v = .int .i64 ((S : Int) / 256)
    | 3 => v = .int .u8 ((S : Int) / 256)
    | 4 => v = .int .i64 ((S : Int))
    | 5 => v = .int .u8 ((S : Int) % 256)
    | 6 => v = .agg #[.int .i64 p.cls, .int .i64 p.lab, .int .i64 p.hop, .string p.src, .string p.dst, .slice E m ce, .int .i64 p.next, .slice A n c]
    | 7 => v = .int .i64 k0
    | 8 => v = .int .u8 k0
    | 9 => v = .pointer (some ⟨w.heap.size, 2, none⟩)
    | 10 => v = .int .i64 p.hop
    | 11 => v = .int .u8 p.hop
    | _ => Owns w' 0 v 4 [(S : Int) / 256, (S : Int) % 256, k0, p.hop]) (by kernel_rfl) (by kernel_rfl) (Below.refl _ _) (fun _ _ _ h k => h.trans (k.mono h.size)) (fun k' w1 w2 v h => match k' with
    | 0 => fun x => x
    | 1 => fun x => x
    | 2 => fun x => x
    | 3 => fun x => x
    | 4 => fun x => x
    | 5 => fun x => x
    | 6 => fun x => x
    | 7 => fun x => x
    | 8 => fun x => x
    | 9 => fun x => x
    | 10 => fun x => x
    | 11 => fun x => x
    | _ + 12 => fun o => Owns.below o h (Nat.le_refl _)) (fun _ _ _ _ _ h => h) ?_ _ (by rfl) ?_
  · refine obs_cons (by rfl) (fun vals w' hgr hdep K hK => ?_) (obs_cons (by rfl) (fun vals w' hgr hdep K hK => ?_) (obs_cons (by rfl) (fun vals w' hgr hdep K hK => ?_) (obs_cons (by rfl) (fun vals w' hgr hdep K hK => ?_) (obs_cons (by rfl) (fun vals w' hgr hdep K hK => ?_) (obs_cons (by rfl) (fun vals w' hgr hdep K hK => ?_) (obs_cons (by rfl) (fun vals w' hgr hdep K hK => ?_) (obs_cons (by rfl) (fun vals w' hgr hdep K hK => ?_) (obs_cons (by rfl) (fun vals w' hgr hdep K hK => ?_) (obs_cons (by rfl) (fun vals w' hgr hdep K hK => ?_) (obs_cons (by rfl) (fun vals w' hgr hdep K hK => ?_) (obs_cons (by rfl) (fun vals w' hgr hdep K hK => ?_) (obs_cons (by rfl) (fun vals w' hgr hdep K hK => ?_) (obs_nil)))))))))))))
    · exact wp_move (.tmp 5) rfl _ (at_out _ (by kernel_rfl) rfl) (hK _ _ (Below.refl _ _) rfl)
    · exact wp_move (.tmp 3) rfl _ (at_out _ (by kernel_rfl) rfl) (hK _ _ (Below.refl _ _) rfl)
    · exact wp_bin (.tmp 33) (.const (.int .u64 8)) rfl _ _ _ ((at_dst 1 (by kernel_rfl)).trans (hdep 1 (by simp) (by kernel_rfl))) rfl (b_shr _ _ _ _ (by omega) (by omega)) (hK _ _ (Below.refl _ _) rfl)
    · exact wp_conv (.tmp 34) rfl _ _ ((at_dst 2 (by kernel_rfl)).trans (hdep 2 (by simp) (by kernel_rfl))) (conv_u8 _ _ (by omega) (by omega)) (hK _ _ (Below.refl _ _) rfl)
    · exact wp_move (.tmp 3) rfl _ (at_out _ (by kernel_rfl) rfl) (hK _ _ (Below.refl _ _) rfl)
    · exact wp_conv (.tmp 36) rfl _ _ ((at_dst 4 (by kernel_rfl)).trans (hdep 4 (by simp) (by kernel_rfl))) (conv_low _ _ (by omega)) (hK _ _ (Below.refl _ _) rfl)
    · exact st_load_row 25 (.tmp 1) rfl w.heap.size (at_out _ (by kernel_rfl) rfl) 25 #[.int .i64 p.cls, .int .i64 p.lab, .int .i64 p.hop, .string p.src, .string p.dst, .slice E m ce, .int .i64 p.next, .slice A n c] (0, 0) _ (PW.out.below hgr PW.out.lt) Try.underlying25 rfl (by kernel_rfl) (hK _ _ (Below.refl _ _) rfl)
    · exact wp_call 21 [.tmp 38, .const (.int .i64 0)] _ rfl ent_kindAt [.agg #[.int .i64 p.cls, .int .i64 p.lab, .int .i64 p.hop, .string p.src, .string p.dst, .slice E m ce, .int .i64 p.next, .slice A n c], .int .i64 0] (two_list ((at_dst 6 (by kernel_rfl)).trans (hdep 6 (by simp) (by kernel_rfl))) rfl) (fun v w'' => v = .int .i64 k0 ∧ Below w'.heap.size w' w'') ((KA.out w' hgr).mono fun e w'' ⟨h1, h2⟩ => ⟨_, h1, rfl, h2⟩) (fun v w'' ⟨h1, h2⟩ => hK v _ h2 h1)
    · exact wp_conv (.tmp 39) rfl _ _ ((at_dst 7 (by kernel_rfl)).trans (hdep 7 (by simp) (by kernel_rfl))) (conv_u8 _ _ (by omega) (by omega)) (hK _ _ (Below.refl _ _) rfl)
    · exact wp_field (.tmp 1) rfl _ _ (at_out _ (by kernel_rfl) rfl) (field2 _ _) (hK _ _ (Below.refl _ _) rfl)
    · exact wp_load1 (.tmp 41) rfl ⟨w.heap.size, 2, none⟩ ((at_dst 9 (by kernel_rfl)).trans (hdep 9 (by simp) (by kernel_rfl))) Try.underlying3 rfl _ (((PW.out.below hgr PW.out.lt).cell 2).trans rfl) (hK _ _ (Below.refl _ _) rfl)
    · exact wp_conv (.tmp 42) rfl _ _ ((at_dst 10 (by kernel_rfl)).trans (hdep 10 (by simp) (by kernel_rfl))) (conv_u8 _ _ (by omega) (by omega)) (hK _ _ (Below.refl _ _) rfl)
    · exact st_slice8_4 (.tmp 35) (.tmp 37) (.tmp 40) (.tmp 43) rfl _ _ _ _ ((at_dst 3 (by kernel_rfl)).trans (hdep 3 (by simp) (by kernel_rfl))) ((at_dst 5 (by kernel_rfl)).trans (hdep 5 (by simp) (by kernel_rfl))) ((at_dst 8 (by kernel_rfl)).trans (hdep 8 (by simp) (by kernel_rfl))) ((at_dst 11 (by kernel_rfl)).trans (hdep 11 (by simp) (by kernel_rfl))) (by omega) (by omega) (by omega) (by omega) (by omega) (by omega) (by omega) (by omega) (fun o => hK _ _ ((Below.refl _ _).alloc (Nat.le_refl _) _) o)
  · intro vals w' hgr hG
    obtain ⟨Ax, cx, qx, hx⟩ := Owns.slice (hG 12 (by simp))
    refine wp_append_bytes (.tmp 32) (.tmp 44) rfl w1.heap.size v5 4 [96 + p.cls / 16, p.cls % 16 * 16 + p.lab / 65536, p.lab / 256 % 256, p.lab % 256] ((at_dst 0 (by kernel_rfl)).trans (hG 0 (by simp))) ((show Owns w5.drew w1.heap.size v5 4 _ from O5.out).below hgr (Nat.le_refl _)) w'.heap.size Ax 4 cx _ ((at_dst 12 (by kernel_rfl)).trans qx) hx (by omega) (Nat.le_trans W5 hgr.size) (fun v6 w6 o6 g6 => ?_)
    refine wpAnyH_next 14 _ rfl rfl (by kernel_rfl) (st_assign (.tmp 45) _ rfl (put_tmps_eq (fill_size _ _ _) (by kernel_rfl)) ⟨trivial, wpAnyH_done (by kernel_rfl) ?_ _⟩)
    have B6 := Lib.hid ((B5.out.trans (((below_drewN (Below.refl w5.heap.size w5) 1).trans hgr).mono B5.out.size)).grown g6 (Nat.le_trans B5.out.size hgr.size) (fun g hg => by have := (O5.out.lt g hg).1; omega))
    have P6 := Lib.hid ((PW.out.below hgr PW.out.lt).grown g6 (fun q => by have := (O5.out.lt _ q.symm).1; have := P1.out.lt; omega))
    have O6 := Lib.hid o6
    have W6 := Nat.le_trans hgr.size g6.size
    clear hG hgr g6 o6 hx qx
    simp only [fill, dstAt, List.getElem?_cons_zero, List.getElem?_cons_succ, Option.bind_some, Act.put, List.setIfInBounds_toArray, List.set_cons_zero, List.set_cons_succ]
    generalize vals 0 = x0, vals 1 = x1, vals 2 = x2, vals 3 = x3, vals 4 = x4, vals 5 = x5, vals 6 = x6, vals 7 = x7, vals 8 = x8, vals 9 = x9, vals 10 = x10, vals 11 = x11, vals 12 = x12
    have c3 := P6.out.cell 3
    have b6 := Nat.le_trans W5 (show w5.heap.size ≤ w6.heap.size from W6)
    go_wp2_with (first
      | (at_builtin
         refine wpList_append_text rfl (.tmp 46) (.tmp 48) rfl w1.heap.size v6 _ _ rfl O6.out p.src rfl (by omega) b6 ?_
         intro v7 w7 o7 g7
         have p7 := P6.out.grown g7 (fun q => by have := (O6.out.lt _ q.symm).1; have := P1.out.lt; omega)
         have c4 := p7.cell 4
         have s7 := g7.size)
      | (at_builtin
         refine wpList_append_text rfl (.tmp 50) (.tmp 52) rfl w1.heap.size v7 _ _ rfl o7 p.dst rfl (by omega) (by omega) ?_
         intro v8 w8 o8 g8))
    go_ret
    refine ⟨_, rfl, ?_, ((B6.out.grown g7 B6.out.size fun k hk => by have := (O6.out.lt k hk).1; omega).grown g8 (by have := B6.out.size; omega) fun k hk => by have := (o7.lt k hk).1; omega)⟩
    rw [HD.out]
    have e40 : 4 + 4 + p.src.size + p.dst.size = 40 := by omega
    rw [e40] at o8
    exact o8.mono s1
end Go.Proofs.Ytjfieoleoodfdaa.Hdr6
