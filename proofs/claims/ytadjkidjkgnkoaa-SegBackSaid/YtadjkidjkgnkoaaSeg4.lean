/- Contracts of the code: unsummed, Bytes. -/
import Derived.Test.YtadjkidjkgnkoaaSeg1
import Derived.Test.YtadjkidjkgnkoaaSeg3
import Derived.Laws.MakeOwn
import Derived.OwnWalk
import Derived.LoopTactic
set_option linter.unusedVariables false
namespace Go.Proofs.Ytadjkidjkgnkoaa.Seg4
open Go.RowKit Go.Sort Go.Proofs.Ytadjkidjkgnkoaa.Sums Go.Proofs.Ytadjkidjkgnkoaa.Words Go.Proofs.Ytadjkidjkgnkoaa.Mem Go.Proofs.Ytadjkidjkgnkoaa.Ahead Go.Proofs.Ytadjkidjkgnkoaa.SegD Go.Proofs.Ytadjkidjkgnkoaa.Blk Go.Proofs.Ytadjkidjkgnkoaa.Bits Go.Proofs.Ytadjkidjkgnkoaa.InetSum Go.Proofs.Ytadjkidjkgnkoaa.Steps Go.Proofs.Ytadjkidjkgnkoaa.Free Go.Proofs.Ytadjkidjkgnkoaa.Cut
open Go.Proofs.Ytadjkidjkgnkoaa.Seg1 Go.Proofs.Ytadjkidjkgnkoaa.Seg2 Go.Proofs.Ytadjkidjkgnkoaa.Seg3 Go.Proofs.Ytadjkidjkgnkoaa.Com

set_option maxRecDepth 100000 in
theorem make_bytes (m : Nat) (z : Int) (hz0 : z = (m : Int)) (hn : m ≤ 1048576) (w : World) :
    (Instr.makeSlice 22 (.int .i64 0) (.int .i64 z)).run Try.prog w = .ok (.slice (some ⟨w.heap.size, 0, none⟩) 0 m) (w.alloc (.cells (madeCells #[.int .u8 0] m) 5)) := by
  subst hz0
  obtain ⟨i, hi, hz, hsz, hby⟩ := info_parts byte_info
  have hr := run_make (P := Try.prog) w 22 5 i (.int .u8 0) Try.underlying22 hi hz .i64 .i64 0 (m : Int) (by omega) (by omega) (by rw [hby]; omega) (by omega)
  rw [show (m : Int).toNat = m by omega, hsz, Nat.mul_one] at hr
  exact hr

/-- The ten words of a header. -/
def ws (p : Sg) (W : Int) : Array Value := #[.int .i64 p.src, .int .i64 p.dst, .int .i64 (p.seq / 65536), .int .i64 p.seq, .int .i64 (p.ack / 65536), .int .i64 p.ack, .int .i64 (W * 4096 + p.flags), .int .i64 p.window, .int .i64 0, .int .i64 p.urgent]
def hd (p : Sg) (W : Int) : List Int := [p.src / 256 % 256, p.src % 256, p.dst / 256 % 256, p.dst % 256, p.seq / 65536 / 256 % 256, p.seq / 65536 % 256, p.seq / 256 % 256, p.seq % 256, p.ack / 65536 / 256 % 256, p.ack / 65536 % 256, p.ack / 256 % 256, p.ack % 256,
  (W * 4096 + p.flags) / 256 % 256, (W * 4096 + p.flags) % 256, p.window / 256 % 256, p.window % 256, 0 / 256 % 256, 0 % 256, p.urgent / 256 % 256, p.urgent % 256]
theorem hd_raw {p : Sg} (h : Valid p) {W : Int} (hW : W = 5 + (p.opt.size : Int) / 4) (l : List Int) : hd p W ++ nums p.opt ++ l = p.raw 0 l := by
  obtain ⟨s0, s1, d0, d1, w0, w1, u0, u1, q0, q1, a0, a1, f0, f1, z4, z⟩ := h
  simp only [hd, Sg.raw, Sg.front, Sg.back, List.cons_append, List.nil_append, List.cons.injEq]
  repeat' apply And.intro
  all_goals first | trivial | rfl | omega
theorem hd_take (p : Sg) (W : Int) {k : Nat} (hk : k < 10) :
    ∃ x : Int, (ws p W)[k]? = some (.int .i64 x) ∧ (hd p W).take (2 * (k + 1)) = (hd p W).take (2 * k) ++ [x / 256 % 256, x % 256] := by
  rcases (show k = 0 ∨ k = 1 ∨ k = 2 ∨ k = 3 ∨ k = 4 ∨ k = 5 ∨ k = 6 ∨ k = 7 ∨ k = 8 ∨ k = 9 by omega) with rfl | rfl | rfl | rfl | rfl | rfl | rfl | rfl | rfl | rfl
  all_goals exact ⟨_, rfl, rfl⟩
theorem hd_len (p : Sg) (W : Int) : (hd p W).take (2 * 10) = hd p W := rfl
/-- Numbers of the walk. -/
theorem quo4 {m : Nat} (h : m % 4 = 0) : (20 + (m : Int)).tdiv 4 = 5 + (m : Int) / 4 := by
  rw [Int.tdiv_eq_ediv_of_nonneg (by omega)]; omega
theorem or12 {W f : Int} (w0 : 0 ≤ W) (w1 : W ≤ 15) (f0 : 0 ≤ f) (f1 : f ≤ 255) : bits .or .i64 (W * 4096) f = W * 4096 + f := by
  have := or_low 12 (a := W) (b := f) w0 (by show W * 4096 < _; omega) f0 (by show f < 4096; omega) (by decide)
  rw [show ((2 ^ 12 : Nat) : Int) = 4096 from rfl] at this
  exact this

set_option maxHeartbeats 2000000 in
set_option maxRecDepth 100000 in
theorem unsummed_any (p : Sg) (A : Option Addr) (n c : Nat) (l : List Int) (w : World) (B : Nat) (h : Holds w B A n c l) (hB : B ≤ w.heap.size) (V : Valid p) (hn : 20 + p.opt.size + n ≤ 65535) :
    Calls Try.prog 25 #[.agg #[.int .i64 p.src, .int .i64 p.dst, .int .i64 p.seq, .int .i64 p.ack, .int .i64 p.flags, .int .i64 p.window, .int .i64 p.urgent, .string p.opt, .slice A n c]] w fun e w' => ∃ v, e = .returned v ∧ Owns w' w.heap.size v (20 + p.opt.size + n) (p.raw 0 l) ∧ Below w.heap.size w w' := by
  have f0 := V.f0
  have f1 := V.f1
  have z4 := V.z4
  have z := V.z
  obtain ⟨W, hW⟩ : ∃ W, W = 5 + (p.opt.size : Int) / 4 := ⟨_, rfl⟩
  have RW := Lib.hid (hd_raw V hW l)
  have wq := quo4 z4
  have w0 : 0 ≤ W := by omega
  have w1 : W ≤ 15 := by omega
  rw [← hW] at wq
  have e1 : IntKind.i64.wrap W = W := IntWalk.i64_in _ (by omega)
  have e2 : IntKind.i64.wrap (W * 4096) = W * 4096 := IntWalk.i64_in _ (by omega)
  have e3 := or12 w0 w1 f0 f1
  have B0 := Lib.hid ((((Below.refl w.heap.size w).alloc (Nat.le_refl _) (.cells #[.int .i64 p.src, .int .i64 p.dst, .int .i64 p.seq, .int .i64 p.ack, .int .i64 p.flags, .int .i64 p.window, .int .i64 p.urgent, .string p.opt, .slice A n c] 24)).alloc (by simp) (.cells (madeCells #[.int .u8 0] (20 + p.opt.size + n)) 5)).alloc (by simp; omega) (.cells (ws p W) 3))
  have K0 := Blk.new w 24 #[.int .i64 p.src, .int .i64 p.dst, .int .i64 p.seq, .int .i64 p.ack, .int .i64 p.flags, .int .i64 p.window, .int .i64 p.urgent, .string p.opt, .slice A n c]
  have k0 := K0.cell 0
  have k1 := K0.cell 1
  have k2 := K0.cell 2
  have k3 := K0.cell 3
  have k4 := K0.cell 4
  have k5 := K0.cell 5
  have k6 := K0.cell 6
  have k7 := K0.cell 7
  have k8 := K0.cell 8
  have K1 := K0.alloc (.cells (madeCells #[.int .u8 0] (20 + p.opt.size + n)) 5)
  have j0 := K1.cell 0
  have j1 := K1.cell 1
  have j2 := K1.cell 2
  have j3 := K1.cell 3
  have j4 := K1.cell 4
  have j5 := K1.cell 5
  have j6 := K1.cell 6
  have j7 := K1.cell 7
  have j8 := K1.cell 8
  have U0 := Lib.hid (K1.alloc (.cells (ws p W) 3))
  clear K0 K1
  have sz1 : (w.alloc (.cells #[.int .i64 p.src, .int .i64 p.dst, .int .i64 p.seq, .int .i64 p.ack, .int .i64 p.flags, .int .i64 p.window, .int .i64 p.urgent, .string p.opt, .slice A n c] 24)).heap.size = w.heap.size + 1 := by simp
  have sz2 : ((w.alloc (.cells #[.int .i64 p.src, .int .i64 p.dst, .int .i64 p.seq, .int .i64 p.ack, .int .i64 p.flags, .int .i64 p.window, .int .i64 p.urgent, .string p.opt, .slice A n c] 24)).alloc (.cells (madeCells #[.int .u8 0] (20 + p.opt.size + n)) 5)).heap.size = w.heap.size + 2 := by simp
  have O0 := owns_made (w.alloc (.cells #[.int .i64 p.src, .int .i64 p.dst, .int .i64 p.seq, .int .i64 p.ack, .int .i64 p.flags, .int .i64 p.window, .int .i64 p.urgent, .string p.opt, .slice A n c] 24)) (20 + p.opt.size + n) (w.heap.size + 1) (by omega) (by omega)
  rw [sz1] at O0
  have O1 := Lib.hid (O0.alloc (.cells (ws p W) 3))
  have I0 := Blk.new ((w.alloc (.cells #[.int .i64 p.src, .int .i64 p.dst, .int .i64 p.seq, .int .i64 p.ack, .int .i64 p.flags, .int .i64 p.window, .int .i64 p.urgent, .string p.opt, .slice A n c] 24)).alloc (.cells (madeCells #[.int .u8 0] (20 + p.opt.size + n)) 5)) 3 (ws p W)
  rw [sz2] at I0
  have I1 := Lib.hid I0
  clear sz1 sz2 O0 I0
  have H := Lib.hid h
  have hmk := make_bytes (20 + p.opt.size + n) (20 + (p.opt.size : Int) + (n : Int)) (by omega) (by omega)
  have V' := Lib.hid V
  clear h V hW z4
  go_enter Try.func25, Try.ntmps25
  go_wp2_with fail
  clear hmk k0 k1 k2 k3 k4 k5 k6 k7 k8 j0 j1 j2 j3 j4 j5 j6 j7 j8 e1 e2 e3 wq
  have WS : ws p W = #[.int .i64 p.src, .int .i64 p.dst, .int .i64 (p.seq / 65536), .int .i64 p.seq, .int .i64 (p.ack / 65536), .int .i64 p.ack, .int .i64 (W * 4096 + p.flags), .int .i64 p.window, .int .i64 0, .int .i64 p.urgent] := rfl
  rw [← WS]
  clear WS
  generalize ((w.alloc (.cells #[.int .i64 p.src, .int .i64 p.dst, .int .i64 p.seq, .int .i64 p.ack, .int .i64 p.flags, .int .i64 p.window, .int .i64 p.urgent, .string p.opt, .slice A n c] 24)).alloc (.cells (madeCells #[.int .u8 0] (20 + p.opt.size + n)) 5)).alloc (.cells (ws p W) 3) = w1 at *
  go_loopw [4, 43] (fun v i wr => ∃ k : Nat, i = .int .i64 (k : Int) ∧ k ≤ 10 ∧ Hid (Owns wr (w.heap.size + 1) v (2 * k) ((hd p W).take (2 * k))) ∧ Hid (Blk wr w.heap.size 24 #[.int .i64 p.src, .int .i64 p.dst, .int .i64 p.seq, .int .i64 p.ack, .int .i64 p.flags, .int .i64 p.window, .int .i64 p.urgent, .string p.opt, .slice A n c]) ∧ Hid (Blk wr (w.heap.size + 2) 3 (ws p W)) ∧ Hid (Below w.heap.size w wr)) (fun _ i _ => 10 - (intOf i).toNat)
  case atStart => exact ⟨0, rfl, by omega, O1, U0, I1, B0⟩
  case round =>
    obtain ⟨k, rfl, hk, HO, HU, HI, HB⟩ := hrel
    clear O1 U0 I1 B0
    have hbs := HB.out.size
    have hul := HI.out.lt
    by_cases hlt : k < 10
    · obtain ⟨x, hx, ht⟩ := hd_take p W hlt
      have T := Lib.hid ht
      have hcl := (HI.out.cell k).trans hx
      have e1 : IntKind.u8.wrap (x / 256) = x / 256 % 256 := by rw [IntKind.wrap_u8]
      have e2 : IntKind.u8.wrap x = x % 256 := by rw [IntKind.wrap_u8]
      have XL := Lib.hid (Holds.lit wr [x / 256 % 256, x % 256] #[.int .u8 (x / 256 % 256), .int .u8 (x % 256)] rfl (by simp [maxLen]) (by intro z hz; simp at hz; omega))
      have hk2 : 2 * k + 2 ≤ 1048576 := by omega
      clear hx ht
      go_wp2_with (at_builtin
                   refine wpList_append_bytes rfl (.tmp 47) (.tmp 53) rfl (w.heap.size + 1) _ _ _ rfl (HO.out.alloc _) _ _ 2 2 [x / 256 % 256, x % 256] rfl XL.out hk2 (by simp; omega) ?_
                   intro v' w' ho' hg' hat)
      have HU2 := Lib.hid ((HU.out.alloc (.cells #[.int .u8 (x / 256 % 256), .int .u8 (x % 256)] 5)).grown hg' (owns_far HO.out (by omega)))
      have HI2 := Lib.hid ((HI.out.alloc (.cells #[.int .u8 (x / 256 % 256), .int .u8 (x % 256)] 5)).grown hg' (fun e => own_other HO.out HI.out (by decide) e.symm))
      have HB2 := Lib.hid ((HB.out.alloc hbs (.cells #[.int .u8 (x / 256 % 256), .int .u8 (x % 256)] 5)).grown hg' (by simp; omega) fun g hg => Nat.le_trans (Nat.le_succ _) (HO.out.lt g hg).1)
      go_roundw
      case rel => exact ⟨k + 1, by go_num, by omega, Lib.hid (by rw [T.out]; exact ho'), HU2, HI2, HB2⟩
      case measure => simp [intOf]; omega
    · obtain rfl : k = 10 := by omega
      have O4 : Hid (Owns wr (w.heap.size + 1) u4 20 (hd p W)) := HO
      have j7 := HU.out.cell 7
      have HH := Lib.hid (H.out.below (HB.out.mono hB))
      have hsm : 20 + p.opt.size ≤ 1048576 := by omega
      have hsm2 : 20 + p.opt.size + n ≤ 1048576 := by omega
      have hb1 : w.heap.size + 1 ≤ wr.heap.size := by omega
      clear HO HI
      go_wp2_with (at_builtin
                   first
                   | (refine wpList_append_text rfl (.tmp 56) (.tmp 58) rfl (w.heap.size + 1) _ _ _ rfl O4.out p.opt rfl hsm hb1 ?_
                      intro v2 w2 o2 g2
                      have O2 := Lib.hid o2
                      have B2 := Lib.hid (HB.out.grown g2 hbs fun g hg => Nat.le_trans (Nat.le_succ _) (O4.out.lt g hg).1)
                      have U2 := HU.out.grown g2 (owns_far O4.out (by omega))
                      have j8 := U2.cell 8
                      have hb2 : w.heap.size + 1 ≤ w2.heap.size := Nat.le_trans hb1 g2.size
                      have H2 := Lib.hid (H.out.below (B2.out.mono hB))
                      clear o2 g2 U2 j7)
                   | (refine wpList_append_bytes rfl (.tmp 60) (.tmp 62) rfl (w.heap.size + 1) _ _ _ rfl O2.out B A n c l rfl H2.out hsm2 hb2 ?_
                      intro v3 w3 o3 g3 _))
      rw [RW.out] at o3
      go_ret
      exact ⟨_, rfl, o3.mono (by omega), B2.out.grown g3 (by omega) fun g hg => Nat.le_trans (Nat.le_succ _) (O2.out.lt g hg).1⟩

theorem store_two : True := trivial
end Go.Proofs.Ytadjkidjkgnkoaa.Seg4
