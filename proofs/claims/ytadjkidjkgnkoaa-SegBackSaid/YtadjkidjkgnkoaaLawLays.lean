/- The law SegLays. -/
import Derived.Test.YtadjkidjkgnkoaaLawParses
import Derived.Test.YtadjkidjkgnkoaaSegB
set_option linter.unusedVariables false
namespace Go.Proofs.Ytadjkidjkgnkoaa.LawLays
open Go.RowKit Go.Sort Go.Proofs.Ytadjkidjkgnkoaa.Sums Go.Proofs.Ytadjkidjkgnkoaa.Words Go.Proofs.Ytadjkidjkgnkoaa.Mem Go.Proofs.Ytadjkidjkgnkoaa.Ahead Go.Proofs.Ytadjkidjkgnkoaa.SegD Go.Proofs.Ytadjkidjkgnkoaa.Blk Go.Proofs.Ytadjkidjkgnkoaa.Bits Go.Proofs.Ytadjkidjkgnkoaa.InetSum Go.Proofs.Ytadjkidjkgnkoaa.Steps Go.Proofs.Ytadjkidjkgnkoaa.Free Go.Proofs.Ytadjkidjkgnkoaa.Cut
open Go.Proofs.Ytadjkidjkgnkoaa.Com Go.Proofs.Ytadjkidjkgnkoaa.Seg1 Go.Proofs.Ytadjkidjkgnkoaa.Seg5 Go.Proofs.Ytadjkidjkgnkoaa.Seg6 Go.Proofs.Ytadjkidjkgnkoaa.Seg7 Go.Proofs.Ytadjkidjkgnkoaa.SegA Go.Proofs.Ytadjkidjkgnkoaa.SegB Go.Proofs.Ytadjkidjkgnkoaa.LawParses
open Go.Proofs.Ytadjkidjkgnkoaa.Regs (Lies lies_own)

theorem ent_awake : Enters Try.prog 16 := enters_of Try.func16 (by kernel_rfl) rfl
theorem ent_bytes : Enters Try.prog 17 := enters_of Try.func17 (by kernel_rfl) rfl
theorem eql_str (s : ByteArray) (x y : Operand) (w : World) : (do eqGuard .eql 9 x y (.string s) (.string s); binOp .eql 9 (.string s) (.string s) : Sem Value).run Try.prog w = .ok (.bool true) w := by
  simp [go_sem, eqGuard]
theorem st_pick {o : Oper} {a : Act} {w : World} {K : Act → World → Prop} {Q : Exit → Act → World → Prop} (c x y : Operand) (ho : o.op = .pick c x y) (v : Value) (hc : a.eval c = .bool true) (hx : a.eval x = v) (hK : K (a.put o.dst v) w) : Step Try.prog o a w K Q :=
  wp_value v (by simp [execOp, ho, hc, hx, asBool]) hK
theorem list3 {f : Operand → Value} {x y z : Operand} {u v t : Value} (h1 : f x = u) (h2 : f y = v) (h3 : f z = t) : [x, y, z].map f = [u, v, t] := by simp [h1, h2, h3]
theorem owns_setCell {w : World} {base n q : Nat} {v : Value} {l : List Int} (h : Owns w base v n l) (hq : some q ≠ v.ownBlock) (o : Nat) (u : Value) : Owns (w.setCell ⟨q, o, none⟩ u) base v n l :=
  h.kept (row := some q) ⟨rfl, rfl, rfl, by simp, fun k _ hk => Below.heap_setCell w ⟨q, o, none⟩ u k (fun e => hk (by rw [e]))⟩ (.inr fun e => hq e.symm)

/-- What is known of the two segments in every later world. -/
structure Seen (w : World) (g1 g2 : Nat) (p : Sg) (A : Option Addr) (n c : Nat) (A2 : Option Addr) (c2 : Nat) (k L : Int) : Prop where
  x0_0 : ∀ d' os, (grow (redrawn w d') os).cell? ⟨g1, 0, none⟩ = some (.int .i64 p.src)
  x0_1 : ∀ d' os, (grow (redrawn w d') os).cell? ⟨g1, 1, none⟩ = some (.int .i64 p.dst)
  x0_2 : ∀ d' os, (grow (redrawn w d') os).cell? ⟨g1, 2, none⟩ = some (.int .i64 p.seq)
  x0_3 : ∀ d' os, (grow (redrawn w d') os).cell? ⟨g1, 3, none⟩ = some (.int .i64 p.ack)
  x0_4 : ∀ d' os, (grow (redrawn w d') os).cell? ⟨g1, 4, none⟩ = some (.int .i64 p.flags)
  x0_5 : ∀ d' os, (grow (redrawn w d') os).cell? ⟨g1, 5, none⟩ = some (.int .i64 p.window)
  x0_6 : ∀ d' os, (grow (redrawn w d') os).cell? ⟨g1, 6, none⟩ = some (.int .i64 p.urgent)
  x0_7 : ∀ d' os, (grow (redrawn w d') os).cell? ⟨g1, 7, none⟩ = some (.string p.opt)
  x0_8 : ∀ d' os, (grow (redrawn w d') os).cell? ⟨g1, 8, none⟩ = some (.slice A n c)
  x1_0 : ∀ d' os, (grow (redrawn w d') os).cell? ⟨g2, 0, none⟩ = some (.int .i64 p.src)
  x1_1 : ∀ d' os, (grow (redrawn w d') os).cell? ⟨g2, 1, none⟩ = some (.int .i64 p.dst)
  x1_2 : ∀ d' os, (grow (redrawn w d') os).cell? ⟨g2, 2, none⟩ = some (.int .i64 p.seq)
  x1_3 : ∀ d' os, (grow (redrawn w d') os).cell? ⟨g2, 3, none⟩ = some (.int .i64 p.ack)
  x1_4 : ∀ d' os, (grow (redrawn w d') os).cell? ⟨g2, 4, none⟩ = some (.int .i64 p.flags)
  x1_5 : ∀ d' os, (grow (redrawn w d') os).cell? ⟨g2, 5, none⟩ = some (.int .i64 p.window)
  x1_6 : ∀ d' os, (grow (redrawn w d') os).cell? ⟨g2, 6, none⟩ = some (.int .i64 p.urgent)
  x1_7 : ∀ d' os, (grow (redrawn w d') os).cell? ⟨g2, 7, none⟩ = some (.string p.opt)
  x1_8 : ∀ d' os, (grow (redrawn w d') os).cell? ⟨g2, 8, none⟩ = some (.slice A2 n c2)
  ck : ∀ d' os, Calls Try.prog 12 #[.agg #[.int .i64 p.src, .int .i64 p.dst, .int .i64 p.seq, .int .i64 p.ack, .int .i64 p.flags, .int .i64 p.window, .int .i64 p.urgent, .string p.opt, .slice A2 n c2]] (grow (redrawn w d') os) fun e w'' => e = .returned (.int .i64 k) ∧ ∃ p : Regrown, w'' = grow (redrawn w p.d) p.os
  sm : ∀ d' os, Calls Try.prog 13 #[.agg #[.int .i64 p.src, .int .i64 p.dst, .int .i64 p.seq, .int .i64 p.ack, .int .i64 p.flags, .int .i64 p.window, .int .i64 p.urgent, .string p.opt, .slice A2 n c2], .agg #[.int .i64 p.src, .int .i64 p.dst, .int .i64 p.seq, .int .i64 p.ack, .int .i64 p.flags, .int .i64 p.window, .int .i64 p.urgent, .string p.opt, .slice A n c]] (grow (redrawn w d') os) fun e w'' => e = .returned (.bool true) ∧ ∃ p : Regrown, w'' = grow (redrawn w p.d) p.os
  l1 : ∀ d' os, Calls Try.prog 14 #[.agg #[.int .i64 p.src, .int .i64 p.dst, .int .i64 p.seq, .int .i64 p.ack, .int .i64 p.flags, .int .i64 p.window, .int .i64 p.urgent, .string p.opt, .slice A2 n c2]] (grow (redrawn w d') os) fun e w'' => e = .returned (.int .i64 L) ∧ ∃ p : Regrown, w'' = grow (redrawn w p.d) p.os
  l2 : ∀ d' os, Calls Try.prog 15 #[.agg #[.int .i64 p.src, .int .i64 p.dst, .int .i64 p.seq, .int .i64 p.ack, .int .i64 p.flags, .int .i64 p.window, .int .i64 p.urgent, .string p.opt, .slice A n c]] (grow (redrawn w d') os) fun e w'' => e = .returned (.int .i64 L) ∧ ∃ p : Regrown, w'' = grow (redrawn w p.d) p.os
theorem seen {w : World} {g1 g2 : Nat} {p : Sg} {A : Option Addr} {n c : Nat} {A2 : Option Addr} {c2 : Nat} {l : List Int} (b1 : Blk w g1 24 #[.int .i64 p.src, .int .i64 p.dst, .int .i64 p.seq, .int .i64 p.ack, .int .i64 p.flags, .int .i64 p.window, .int .i64 p.urgent, .string p.opt, .slice A n c]) (b2 : Blk w g2 24 #[.int .i64 p.src, .int .i64 p.dst, .int .i64 p.seq, .int .i64 p.ack, .int .i64 p.flags, .int .i64 p.window, .int .i64 p.urgent, .string p.opt, .slice A2 n c2]) (h1 : Holds w w.heap.size A n c l) (h2 : Holds w w.heap.size A2 n c2 l) (hz : p.opt.size ≤ 1048576) (hn : n ≤ 1048576) : Seen w g1 g2 p A n c A2 c2 (p.chk n) (len n p.flags) :=
  ⟨fun d' os => cell_regrown (b1.cell 0) d' os,
   fun d' os => cell_regrown (b1.cell 1) d' os,
   fun d' os => cell_regrown (b1.cell 2) d' os,
   fun d' os => cell_regrown (b1.cell 3) d' os,
   fun d' os => cell_regrown (b1.cell 4) d' os,
   fun d' os => cell_regrown (b1.cell 5) d' os,
   fun d' os => cell_regrown (b1.cell 6) d' os,
   fun d' os => cell_regrown (b1.cell 7) d' os,
   fun d' os => cell_regrown (b1.cell 8) d' os,
   fun d' os => cell_regrown (b2.cell 0) d' os,
   fun d' os => cell_regrown (b2.cell 1) d' os,
   fun d' os => cell_regrown (b2.cell 2) d' os,
   fun d' os => cell_regrown (b2.cell 3) d' os,
   fun d' os => cell_regrown (b2.cell 4) d' os,
   fun d' os => cell_regrown (b2.cell 5) d' os,
   fun d' os => cell_regrown (b2.cell 6) d' os,
   fun d' os => cell_regrown (b2.cell 7) d' os,
   fun d' os => cell_regrown (b2.cell 8) d' os,
   fun d' os => Calls.regrown_of (check_any p A2 n c2 _ hz hn),
   fun d' os => Calls.regrown_of (same_yes p A2 n c2 A n c l _ _ (h2.below (below_regrown w d' os)) (h1.below (below_regrown w d' os)) (below_regrown w d' os).size),
   fun d' os => Calls.regrown_of (length_any p A2 n c2 _ (by omega)),
   fun d' os => Calls.regrown_of (length_ref p A n c _ (by omega))⟩

theorem lays_no (p : Sg) (A : Option Addr) (n c : Nat) (s d : ByteArray) (w : World) (h0 : p.opt.size ≤ 140737488355328) (h1 : s.size ≤ 140737488355328) (h2 : d.size ≤ 140737488355328) (h3 : n ≤ 140737488355328) (hf : fewB p n = false ∨ (fewB p n = true ∧ 300 < s.size + d.size)) :
    Calls Try.prog 3 #[.agg #[.int .i64 p.src, .int .i64 p.dst, .int .i64 p.seq, .int .i64 p.ack, .int .i64 p.flags, .int .i64 p.window, .int .i64 p.urgent, .string p.opt, .slice A n c], .string s, .string d] w (Yes w) := by
  have B0 := Lib.hid ((Below.refl w.heap.size w).alloc (Nat.le_refl _) (.cells #[.int .i64 p.src, .int .i64 p.dst, .int .i64 p.seq, .int .i64 p.ack, .int .i64 p.flags, .int .i64 p.window, .int .i64 p.urgent, .string p.opt, .slice A n c] 24))
  have P0 := Lib.hid (Blk.new w 24 #[.int .i64 p.src, .int .i64 p.dst, .int .i64 p.seq, .int .i64 p.ack, .int .i64 p.flags, .int .i64 p.window, .int .i64 p.urgent, .string p.opt, .slice A n c])
  have F := Lib.hid (fun W => few_any p A n c W h0 h3)
  rcases hf with hf | ⟨hf, hs⟩
  · rw [hf] at F
    clear hf
    go_enter Try.func3, Try.ntmps3
    go_wp2_with (first
      | (refine Loads.wpList_load_w rfl 24 (.tmp 3) rfl w.heap.size rfl 24 #[.int .i64 p.src, .int .i64 p.dst, .int .i64 p.seq, .int .i64 p.ack, .int .i64 p.flags, .int .i64 p.window, .int .i64 p.urgent, .string p.opt, .slice A n c] (0, 0) _ P0.out (Try.underlying24) rfl (by kernel_rfl) ?_))
    refine (F.out _).mono ?_
    rintro e w1 ⟨rfl, hb⟩
    have B1 := Lib.hid (B0.out.trans (hb.mono B0.out.size))
    clear hb
    go_wp2_with fail
    go_ret
    exact ⟨rfl, B1.out⟩
  · rw [hf] at F
    have b5 : ((300 : Int) < (s.size : Int) + (d.size : Int)) = True := eq_true (by omega)
    clear hf hs
    go_enter Try.func3, Try.ntmps3
    go_wp2_with (first
      | (refine Loads.wpList_load_w rfl 24 (.tmp 3) rfl w.heap.size rfl 24 #[.int .i64 p.src, .int .i64 p.dst, .int .i64 p.seq, .int .i64 p.ack, .int .i64 p.flags, .int .i64 p.window, .int .i64 p.urgent, .string p.opt, .slice A n c] (0, 0) _ P0.out (Try.underlying24) rfl (by kernel_rfl) ?_))
    refine (F.out _).mono ?_
    rintro e w1 ⟨rfl, hb⟩
    have B1 := Lib.hid (B0.out.trans (hb.mono B0.out.size))
    clear hb
    go_wp2_with fail
    go_ret
    exact ⟨rfl, B1.out⟩

set_option maxHeartbeats 4000000 in
set_option maxRecDepth 100000 in
theorem lays_err (p : Sg) (A : Option Addr) (n c : Nat) (l : List Int) (s d : ByteArray) (w : World) (h : Holds w w.heap.size A n c l) (h0 : p.opt.size ≤ 140737488355328) (h3 : n ≤ 140737488355328) (hf : fewB p n = true) (hs : s.size + d.size ≤ 300) (hk : p.err s d n ≠ 0) :
    Calls Try.prog 3 #[.agg #[.int .i64 p.src, .int .i64 p.dst, .int .i64 p.seq, .int .i64 p.ack, .int .i64 p.flags, .int .i64 p.window, .int .i64 p.urgent, .string p.opt, .slice A n c], .string s, .string d] w (Yes w) := by
  have B0 := Lib.hid ((Below.refl w.heap.size w).alloc (Nat.le_refl _) (.cells #[.int .i64 p.src, .int .i64 p.dst, .int .i64 p.seq, .int .i64 p.ack, .int .i64 p.flags, .int .i64 p.window, .int .i64 p.urgent, .string p.opt, .slice A n c] 24))
  have P0 := Lib.hid (Blk.new w 24 #[.int .i64 p.src, .int .i64 p.dst, .int .i64 p.seq, .int .i64 p.ack, .int .i64 p.flags, .int .i64 p.window, .int .i64 p.urgent, .string p.opt, .slice A n c])
  have fw := few_true hf
  have F := Lib.hid (fun W => few_any p A n c W h0 h3)
  rw [hf] at F
  have HL := Lib.hid h
  have n66 : n ≤ 66000 := fw.2
  have z66 : p.opt.size ≤ 300 := fw.1
  have HK := Lib.hid hk
  have b5 : ((300 : Int) < (s.size : Int) + (d.size : Int)) = False := eq_false (by omega)
  clear h hf fw hk
  go_enter Try.func3, Try.ntmps3
  go_wp2_with (first
    | (refine Loads.wpList_load_w rfl 24 (.tmp 3) rfl w.heap.size rfl 24 #[.int .i64 p.src, .int .i64 p.dst, .int .i64 p.seq, .int .i64 p.ack, .int .i64 p.flags, .int .i64 p.window, .int .i64 p.urgent, .string p.opt, .slice A n c] (0, 0) _ P0.out (Try.underlying24) rfl (by kernel_rfl) ?_))
  refine (F.out _).mono ?_
  rintro e w1 ⟨rfl, hb⟩
  have B1 := Lib.hid (B0.out.trans (hb.mono B0.out.size))
  have P1 := Lib.hid (P0.out.below hb P0.out.lt)
  clear hb F P0
  have Q2 := Lib.hid (Blk.new w1 24 #[.int .i64 p.src, .int .i64 p.dst, .int .i64 p.seq, .int .i64 p.ack, .int .i64 p.flags, .int .i64 p.window, .int .i64 p.urgent, .string p.opt, .slice A n c])
  have P2 := Lib.hid (P1.out.alloc (.cells #[.int .i64 p.src, .int .i64 p.dst, .int .i64 p.seq, .int .i64 p.ack, .int .i64 p.flags, .int .i64 p.window, .int .i64 p.urgent, .string p.opt, .slice A n c] 24))
  have B2 := Lib.hid (B1.out.alloc B1.out.size (.cells #[.int .i64 p.src, .int .i64 p.dst, .int .i64 p.seq, .int .i64 p.ack, .int .i64 p.flags, .int .i64 p.window, .int .i64 p.urgent, .string p.opt, .slice A n c] 24))
  have p2 := P2.out.cell 8
  have hne : w.heap.size < w1.heap.size := P1.out.lt
  go_wp2_with (first
    | (refine Loads.wpList_load_w rfl 24 (.tmp 3) rfl w.heap.size rfl 24 #[.int .i64 p.src, .int .i64 p.dst, .int .i64 p.seq, .int .i64 p.ack, .int .i64 p.flags, .int .i64 p.window, .int .i64 p.urgent, .string p.opt, .slice A n c] (0, 0) _ P1.out (Try.underlying24) rfl (by kernel_rfl) ?_))
  have hz2 : (w1.alloc (.cells #[.int .i64 p.src, .int .i64 p.dst, .int .i64 p.seq, .int .i64 p.ack, .int .i64 p.flags, .int .i64 p.window, .int .i64 p.urgent, .string p.opt, .slice A n c] 24)).heap.size = w1.heap.size + 1 := by simp
  generalize w1.alloc (.cells #[.int .i64 p.src, .int .i64 p.dst, .int .i64 p.seq, .int .i64 p.ack, .int .i64 p.flags, .int .i64 p.window, .int .i64 p.urgent, .string p.opt, .slice A n c] 24) = w2 at *
  refine (Both.both_lit (B := w2.heap.size) (Nat.le_refl _) [⟨A, n, c, l⟩] _ _ rfl (Both.mem1 ((HL.out.below B2.out).more B2.out.size)) _ 1 hz2 rfl (by decide) (by show n + 0 ≤ 1048576; omega)).mono ?_
  rintro e w3 ⟨A2, c2, rfl, h3', o3, hb⟩
  have e1 : Both.flat [⟨A, n, c, l⟩] = l := by simp [Both.flat]
  have e0 : Both.total [⟨A, n, c, l⟩] = n := rfl
  rw [e1, e0] at h3' o3
  rw [e0]
  have H3 := Lib.hid h3'
  have O3 := Lib.hid o3
  have B3 := Lib.hid (B2.out.trans (hb.mono B2.out.size))
  have P3 := Lib.hid (P2.out.below hb P2.out.lt)
  have Q3 := Lib.hid (Q2.out.below hb Q2.out.lt)
  have qc : w3.cell? ⟨w1.heap.size, 8, none⟩ = some (.slice A n c) := Q3.out.cell 8
  have qf := Q3.out.frozen 8
  have Q4 : Hid (Blk (w3.setCell ⟨w1.heap.size, 8, none⟩ (.slice A2 n c2)) w1.heap.size 24 #[.int .i64 p.src, .int .i64 p.dst, .int .i64 p.seq, .int .i64 p.ack, .int .i64 p.flags, .int .i64 p.window, .int .i64 p.urgent, .string p.opt, .slice A2 n c2]) := Lib.hid (Q3.out.put 8 _)
  have P4 := Lib.hid (P3.out.far (p := ⟨w1.heap.size, 8, none⟩) (by show w.heap.size ≠ w1.heap.size; omega) (.slice A2 n c2))
  have B4 := Lib.hid (B3.out.setCell (p := ⟨w1.heap.size, 8, none⟩) (by show w.heap.size ≤ w1.heap.size; omega) (.slice A2 n c2))
  have hq2 := Q2.out.lt
  have H4 : Hid (Holds (w3.setCell ⟨w1.heap.size, 8, none⟩ (.slice A2 n c2)) (w3.setCell ⟨w1.heap.size, 8, none⟩ (.slice A2 n c2)).heap.size A2 n c2 l) := Lib.hid (owns_setCell O3.out (owns_far O3.out hq2) 8 (.slice A2 n c2)).holds
  clear hb h3' o3 e1 e0 p2
  clear P1 P2 P3 Q2 Q3 H3 O3
  go_wp2_with (first
    | (refine Loads.wpList_load_w rfl 24 (.tmp 7) rfl w1.heap.size rfl 24 #[.int .i64 p.src, .int .i64 p.dst, .int .i64 p.seq, .int .i64 p.ack, .int .i64 p.flags, .int .i64 p.window, .int .i64 p.urgent, .string p.opt, .slice A2 n c2] (0, 0) _ Q4.out (Try.underlying24) rfl (by kernel_rfl) ?_))
  clear qc qf
  generalize w3.setCell ⟨w1.heap.size, 8, none⟩ (.slice A2 n c2) = w4 at *
  obtain ⟨g, hg⟩ : ∃ g, g = w1.heap.size := ⟨_, rfl⟩
  rw [← hg] at Q4 ⊢
  clear hg
  refine (bytes_err p A2 n c2 s d w4 (by omega) (by omega) HK.out).mono ?_
  rintro e w5 ⟨rfl, hb⟩
  have B5 := Lib.hid (B4.out.trans (hb.mono B4.out.size))
  have P5 := Lib.hid (P4.out.below hb P4.out.lt)
  have Q5 := Lib.hid (Q4.out.below hb Q4.out.lt)
  have C5 := Lib.hid hb
  clear hb P4 Q4
  obtain ⟨k, hk⟩ : ∃ k, k = p.chk n := ⟨_, rfl⟩
  have KH := Lib.hid hk
  clear hk
  go_wp2_with (first
    | (refine Loads.wpList_load_w rfl 24 (.tmp 3) rfl w.heap.size rfl 24 #[.int .i64 p.src, .int .i64 p.dst, .int .i64 p.seq, .int .i64 p.ack, .int .i64 p.flags, .int .i64 p.window, .int .i64 p.urgent, .string p.opt, .slice A n c] (0, 0) _ P5.out (Try.underlying24) rfl (by kernel_rfl) ?_))
  refine (check_ref p A n c w5 (by omega) (by omega)).mono ?_
  rintro e w6 ⟨rfl, hb⟩
  rw [← KH.out]
  have B6 := Lib.hid (B5.out.trans (hb.mono B5.out.size))
  have P6 := Lib.hid (P5.out.below hb P5.out.lt)
  have Q6 := Lib.hid (Q5.out.below hb Q5.out.lt)
  have C6 := Lib.hid (C5.out.trans (hb.mono C5.out.size))
  clear hb P5 Q5 C5
  have SN := seen P6.out Q6.out ((HL.out.below B6.out).more B6.out.size) ((H4.out.below C6.out).more C6.out.size) (by omega) (by omega)
  rw [← KH.out] at SN
  obtain ⟨L, hL⟩ : ∃ L, L = len n p.flags := ⟨_, rfl⟩
  rw [← hL] at SN
  clear hL
  obtain ⟨x0_0, x0_1, x0_2, x0_3, x0_4, x0_5, x0_6, x0_7, x0_8, x1_0, x1_1, x1_2, x1_3, x1_4, x1_5, x1_6, x1_7, x1_8, ck, sm, l1, l2⟩ := SN
  go_wp2_with fail
  refine wp_region_quiet_below (by kernel_rfl) (by kernel_rfl) ?_
  repeat (go_big_quiet_step (first | with_reducible exact ck _ _ | with_reducible exact sm _ _ | with_reducible exact l1 _ _ | with_reducible exact l2 _ _))
  refine wpQuiet_nil ?_
  intro _ hw'
  obtain ⟨⟨dq, osq⟩, hw''⟩ := hw'
  subst hw''
  clear x0_0 x0_1 x0_2 x0_3 x0_4 x0_5 x0_6 x0_7 x0_8 x1_0 x1_1 x1_2 x1_3 x1_4 x1_5 x1_6 x1_7 x1_8 ck sm l1 l2
  have G7 := Lib.hid (below_regrown w6 dq osq)
  generalize grow (redrawn w6 dq) osq = w7 at *
  have B7 := Lib.hid (B6.out.trans (G7.out.mono B6.out.size))
  clear P6 Q6 C6 G7
  obtain ⟨m, hm⟩ : ∃ m, m = p.err s d n := ⟨_, rfl⟩
  have m0 : (m != 0) = true := by rw [bne_iff_ne, hm]; exact HK.out
  have EM : Hid (m = if paired s d = true then k else 1) := Lib.hid (by rw [hm, KH.out]; rfl)
  rw [← hm]
  have AW := Lib.hid (awake_any w7)
  clear hm
  by_cases q : s.size = d.size
  · have gsd : ((s.size : Int) != (d.size : Int)) = false := by rw [bne_eq_false_iff_eq]; omega
    by_cases q4 : s.size = 4
    · have g4 : ((s.size : Int) != 4) = false := by rw [bne_eq_false_iff_eq]; omega
      have MK : m = k := by rw [EM.out, if_pos (paired_make q (.inl q4))]
      subst MK
      clear q q4 EM
      go_wp2_with fail
      refine AW.out.mono ?_
      rintro e w8 ⟨rfl, hb⟩
      have B8 := Lib.hid (B7.out.trans (hb.mono B7.out.size))
      clear hb
      go_wp2_with fail
      go_ret
      exact ⟨rfl, B8.out⟩
    · have g4 : ((s.size : Int) != 4) = true := by rw [bne_iff_ne]; omega
      by_cases q16 : s.size = 16
      · have g16 : ((s.size : Int) != 16) = false := by rw [bne_eq_false_iff_eq]; omega
        have MK : m = k := by rw [EM.out, if_pos (paired_make q (.inr q16))]
        subst MK
        clear q q4 q16 EM
        go_wp2_with fail
        refine AW.out.mono ?_
        rintro e w8 ⟨rfl, hb⟩
        have B8 := Lib.hid (B7.out.trans (hb.mono B7.out.size))
        clear hb
        go_wp2_with fail
        go_ret
        exact ⟨rfl, B8.out⟩
      · have g16 : ((s.size : Int) != 16) = true := by rw [bne_iff_ne]; omega
        have MK : m = 1 := by rw [EM.out, if_neg (fun x => by have := paired_true x; omega)]
        subst MK
        clear q q4 q16 EM
        go_wp2_with fail
        refine AW.out.mono ?_
        rintro e w8 ⟨rfl, hb⟩
        have B8 := Lib.hid (B7.out.trans (hb.mono B7.out.size))
        clear hb
        go_wp2_with fail
        go_ret
        exact ⟨rfl, B8.out⟩
  · have gsd : ((s.size : Int) != (d.size : Int)) = true := by rw [bne_iff_ne]; omega
    have MK : m = 1 := by rw [EM.out, if_neg (fun x => by have := paired_true x; omega)]
    subst MK
    clear q EM
    go_wp2_with fail
    refine AW.out.mono ?_
    rintro e w8 ⟨rfl, hb⟩
    have B8 := Lib.hid (B7.out.trans (hb.mono B7.out.size))
    clear hb
    go_wp2_with fail
    go_ret
    exact ⟨rfl, B8.out⟩

set_option maxHeartbeats 4000000 in
set_option maxRecDepth 100000 in
theorem lays_ok (p : Sg) (A : Option Addr) (n c : Nat) (l : List Int) (s d : ByteArray) (w : World) (h : Holds w w.heap.size A n c l) (h0 : p.opt.size ≤ 140737488355328) (h3 : n ≤ 140737488355328) (hf : fewB p n = true) (hs : s.size + d.size ≤ 300) (hk : p.err s d n = 0) :
    Calls Try.prog 3 #[.agg #[.int .i64 p.src, .int .i64 p.dst, .int .i64 p.seq, .int .i64 p.ack, .int .i64 p.flags, .int .i64 p.window, .int .i64 p.urgent, .string p.opt, .slice A n c], .string s, .string d] w (Yes w) := by
  have B0 := Lib.hid ((Below.refl w.heap.size w).alloc (Nat.le_refl _) (.cells #[.int .i64 p.src, .int .i64 p.dst, .int .i64 p.seq, .int .i64 p.ack, .int .i64 p.flags, .int .i64 p.window, .int .i64 p.urgent, .string p.opt, .slice A n c] 24))
  have P0 := Lib.hid (Blk.new w 24 #[.int .i64 p.src, .int .i64 p.dst, .int .i64 p.seq, .int .i64 p.ack, .int .i64 p.flags, .int .i64 p.window, .int .i64 p.urgent, .string p.opt, .slice A n c])
  have fw := few_true hf
  have F := Lib.hid (fun W => few_any p A n c W h0 h3)
  rw [hf] at F
  have HL := Lib.hid h
  have n66 : n ≤ 66000 := fw.2
  have z66 : p.opt.size ≤ 300 := fw.1
  have HK := Lib.hid hk
  have b5 : ((300 : Int) < (s.size : Int) + (d.size : Int)) = False := eq_false (by omega)
  clear h hf fw hk
  go_enter Try.func3, Try.ntmps3
  go_wp2_with (first
    | (refine Loads.wpList_load_w rfl 24 (.tmp 3) rfl w.heap.size rfl 24 #[.int .i64 p.src, .int .i64 p.dst, .int .i64 p.seq, .int .i64 p.ack, .int .i64 p.flags, .int .i64 p.window, .int .i64 p.urgent, .string p.opt, .slice A n c] (0, 0) _ P0.out (Try.underlying24) rfl (by kernel_rfl) ?_))
  refine (F.out _).mono ?_
  rintro e w1 ⟨rfl, hb⟩
  have B1 := Lib.hid (B0.out.trans (hb.mono B0.out.size))
  have P1 := Lib.hid (P0.out.below hb P0.out.lt)
  clear hb F P0
  have Q2 := Lib.hid (Blk.new w1 24 #[.int .i64 p.src, .int .i64 p.dst, .int .i64 p.seq, .int .i64 p.ack, .int .i64 p.flags, .int .i64 p.window, .int .i64 p.urgent, .string p.opt, .slice A n c])
  have P2 := Lib.hid (P1.out.alloc (.cells #[.int .i64 p.src, .int .i64 p.dst, .int .i64 p.seq, .int .i64 p.ack, .int .i64 p.flags, .int .i64 p.window, .int .i64 p.urgent, .string p.opt, .slice A n c] 24))
  have B2 := Lib.hid (B1.out.alloc B1.out.size (.cells #[.int .i64 p.src, .int .i64 p.dst, .int .i64 p.seq, .int .i64 p.ack, .int .i64 p.flags, .int .i64 p.window, .int .i64 p.urgent, .string p.opt, .slice A n c] 24))
  have p2 := P2.out.cell 8
  have hne : w.heap.size < w1.heap.size := P1.out.lt
  go_wp2_with (first
    | (refine Loads.wpList_load_w rfl 24 (.tmp 3) rfl w.heap.size rfl 24 #[.int .i64 p.src, .int .i64 p.dst, .int .i64 p.seq, .int .i64 p.ack, .int .i64 p.flags, .int .i64 p.window, .int .i64 p.urgent, .string p.opt, .slice A n c] (0, 0) _ P1.out (Try.underlying24) rfl (by kernel_rfl) ?_))
  have hz2 : (w1.alloc (.cells #[.int .i64 p.src, .int .i64 p.dst, .int .i64 p.seq, .int .i64 p.ack, .int .i64 p.flags, .int .i64 p.window, .int .i64 p.urgent, .string p.opt, .slice A n c] 24)).heap.size = w1.heap.size + 1 := by simp
  generalize w1.alloc (.cells #[.int .i64 p.src, .int .i64 p.dst, .int .i64 p.seq, .int .i64 p.ack, .int .i64 p.flags, .int .i64 p.window, .int .i64 p.urgent, .string p.opt, .slice A n c] 24) = w2 at *
  refine (Both.both_lit (B := w2.heap.size) (Nat.le_refl _) [⟨A, n, c, l⟩] _ _ rfl (Both.mem1 ((HL.out.below B2.out).more B2.out.size)) _ 1 hz2 rfl (by decide) (by show n + 0 ≤ 1048576; omega)).mono ?_
  rintro e w3 ⟨A2, c2, rfl, h3', o3, hb⟩
  have e1 : Both.flat [⟨A, n, c, l⟩] = l := by simp [Both.flat]
  have e0 : Both.total [⟨A, n, c, l⟩] = n := rfl
  rw [e1, e0] at h3' o3
  rw [e0]
  have H3 := Lib.hid h3'
  have O3 := Lib.hid o3
  have B3 := Lib.hid (B2.out.trans (hb.mono B2.out.size))
  have P3 := Lib.hid (P2.out.below hb P2.out.lt)
  have Q3 := Lib.hid (Q2.out.below hb Q2.out.lt)
  have qc : w3.cell? ⟨w1.heap.size, 8, none⟩ = some (.slice A n c) := Q3.out.cell 8
  have qf := Q3.out.frozen 8
  have Q4 : Hid (Blk (w3.setCell ⟨w1.heap.size, 8, none⟩ (.slice A2 n c2)) w1.heap.size 24 #[.int .i64 p.src, .int .i64 p.dst, .int .i64 p.seq, .int .i64 p.ack, .int .i64 p.flags, .int .i64 p.window, .int .i64 p.urgent, .string p.opt, .slice A2 n c2]) := Lib.hid (Q3.out.put 8 _)
  have P4 := Lib.hid (P3.out.far (p := ⟨w1.heap.size, 8, none⟩) (by show w.heap.size ≠ w1.heap.size; omega) (.slice A2 n c2))
  have B4 := Lib.hid (B3.out.setCell (p := ⟨w1.heap.size, 8, none⟩) (by show w.heap.size ≤ w1.heap.size; omega) (.slice A2 n c2))
  have hq2 := Q2.out.lt
  have H4 : Hid (Holds (w3.setCell ⟨w1.heap.size, 8, none⟩ (.slice A2 n c2)) (w3.setCell ⟨w1.heap.size, 8, none⟩ (.slice A2 n c2)).heap.size A2 n c2 l) := Lib.hid (owns_setCell O3.out (owns_far O3.out hq2) 8 (.slice A2 n c2)).holds
  clear hb h3' o3 e1 e0 p2
  clear P1 P2 P3 Q2 Q3 H3 O3
  go_wp2_with (first
    | (refine Loads.wpList_load_w rfl 24 (.tmp 7) rfl w1.heap.size rfl 24 #[.int .i64 p.src, .int .i64 p.dst, .int .i64 p.seq, .int .i64 p.ack, .int .i64 p.flags, .int .i64 p.window, .int .i64 p.urgent, .string p.opt, .slice A2 n c2] (0, 0) _ Q4.out (Try.underlying24) rfl (by kernel_rfl) ?_))
  clear qc qf
  generalize w3.setCell ⟨w1.heap.size, 8, none⟩ (.slice A2 n c2) = w4 at *
  obtain ⟨g, hg⟩ : ∃ g, g = w1.heap.size := ⟨_, rfl⟩
  rw [← hg] at Q4 ⊢
  clear hg
  refine (bytes_ok p A2 n c2 l s d w4 _ H4.out (Nat.le_refl _) HK.out).mono ?_
  rintro e w5 ⟨v5, rfl, o5, hb⟩
  obtain ⟨A5, c5, rfl, h5⟩ := o5.slice
  have H5 := Lib.hid h5
  clear h5 o5
  have B5 := Lib.hid (B4.out.trans (hb.mono B4.out.size))
  have P5 := Lib.hid (P4.out.below hb P4.out.lt)
  have Q5 := Lib.hid (Q4.out.below hb Q4.out.lt)
  have C5 := Lib.hid hb
  clear hb P4 Q4
  obtain ⟨k, hk⟩ : ∃ k, k = p.chk n := ⟨_, rfl⟩
  have KH := Lib.hid hk
  clear hk
  go_wp2_with (first
    | (refine Loads.wpList_load_w rfl 24 (.tmp 3) rfl w.heap.size rfl 24 #[.int .i64 p.src, .int .i64 p.dst, .int .i64 p.seq, .int .i64 p.ack, .int .i64 p.flags, .int .i64 p.window, .int .i64 p.urgent, .string p.opt, .slice A n c] (0, 0) _ P5.out (Try.underlying24) rfl (by kernel_rfl) ?_))
  refine (check_ref p A n c w5 (by omega) (by omega)).mono ?_
  rintro e w6 ⟨rfl, hb⟩
  rw [← KH.out]
  have B6 := Lib.hid (B5.out.trans (hb.mono B5.out.size))
  have P6 := Lib.hid (P5.out.below hb P5.out.lt)
  have Q6 := Lib.hid (Q5.out.below hb Q5.out.lt)
  have C6 := Lib.hid (C5.out.trans (hb.mono C5.out.size))
  have D6 := Lib.hid hb
  clear hb P5 Q5 C5
  have SN := seen P6.out Q6.out ((HL.out.below B6.out).more B6.out.size) ((H4.out.below C6.out).more C6.out.size) (by omega) (by omega)
  rw [← KH.out] at SN
  obtain ⟨L, hL⟩ : ∃ L, L = len n p.flags := ⟨_, rfl⟩
  rw [← hL] at SN
  clear hL
  obtain ⟨x0_0, x0_1, x0_2, x0_3, x0_4, x0_5, x0_6, x0_7, x0_8, x1_0, x1_1, x1_2, x1_3, x1_4, x1_5, x1_6, x1_7, x1_8, ck, sm, l1, l2⟩ := SN
  go_wp2_with fail
  refine wp_region_quiet_below (by kernel_rfl) (by kernel_rfl) ?_
  repeat (go_big_quiet_step (first | with_reducible exact ck _ _ | with_reducible exact sm _ _ | with_reducible exact l1 _ _ | with_reducible exact l2 _ _))
  refine wpQuiet_nil ?_
  intro _ hw'
  obtain ⟨⟨dq, osq⟩, hw''⟩ := hw'
  subst hw''
  clear x0_0 x0_1 x0_2 x0_3 x0_4 x0_5 x0_6 x0_7 x0_8 x1_0 x1_1 x1_2 x1_3 x1_4 x1_5 x1_6 x1_7 x1_8 ck sm l1 l2
  have G7 := Lib.hid (below_regrown w6 dq osq)
  generalize grow (redrawn w6 dq) osq = w7 at *
  have B7 := Lib.hid (B6.out.trans (G7.out.mono B6.out.size))
  have P7 := Lib.hid (P6.out.below G7.out P6.out.lt)
  have H7 := Lib.hid ((H5.out.below (D6.out.trans (G7.out.mono D6.out.size))).more (Nat.le_trans D6.out.size G7.out.size))
  clear P6 Q6 C6 D6 H5 G7
  have EE := Sg.err_zero HK.out
  have k0 : k = 0 := KH.out.trans EE.2
  have ps := paired_true EE.1
  subst k0
  have gsd : ((s.size : Int) != (d.size : Int)) = false := by rw [bne_eq_false_iff_eq]; omega
  obtain ⟨N, hN⟩ : ∃ N, N = 20 + p.opt.size + n := ⟨_, rfl⟩
  obtain ⟨bstr, hbs⟩ : ∃ bstr, strOfNums (p.bytes s d l) = bstr := ⟨_, rfl⟩
  have BS := Lib.hid hbs
  have BR := Lib.hid (fun W (bel : Below w.heap.size w W) => bytes_ref p A n c l s d W w.heap.size (HL.out.below bel) bel.size HK.out)
  rw [← hN] at H7 BR ⊢
  have ps2 : s.size = 4 ∨ s.size = 16 := ps.2
  clear hbs hN ps EE
  rcases ps2 with q4 | q4
  all_goals
    first
    | have g4 : ((s.size : Int) != 4) = false := by rw [bne_eq_false_iff_eq]; omega
      have g16 : ((s.size : Int) != 16) = true := by rw [bne_iff_ne]; omega
    | have g4 : ((s.size : Int) != 4) = true := by rw [bne_iff_ne]; omega
      have g16 : ((s.size : Int) != 16) = false := by rw [bne_eq_false_iff_eq]; omega
    clear q4
    go_wp2_with fail
    refine wp_region_freeP [0, 1, 2, 3, 4, 5, 6, 7, 8, 9, 10] 11 [] [(1, true)] (fun w1 w2 => Below w1.heap.size w1 w2) (fun k' w' v => match k' with
      | 0 => v = .bool true
      | 1 => v = .bool true
      | 2 => v = .slice A5 N c5
      | 3 => v = .string bstr
      | 4 => v = .agg #[.int .i64 p.src, .int .i64 p.dst, .int .i64 p.seq, .int .i64 p.ack, .int .i64 p.flags, .int .i64 p.window, .int .i64 p.urgent, .string p.opt, .slice A n c]
      | 5 => v = .string s
      | 6 => v = .string d
      | 7 => Lies w' v N (p.bytes s d l)
      | 8 => v = .string bstr
      | 9 => v = .bool true
      | _ => v = .bool true) (by kernel_rfl) (by kernel_rfl) (fun q hq w v hv => ?_) (Below.refl _ _) (fun _ _ _ h k => h.trans (k.mono h.size)) (fun k' w1 w2 v h => match k' with
      | 0 => fun x => x
      | 1 => fun x => x
      | 2 => fun x => x
      | 3 => fun x => x
      | 4 => fun x => x
      | 5 => fun x => x
      | 6 => fun x => x
      | 7 => fun x => Regs.Lies.below x h
      | 8 => fun x => x
      | 9 => fun x => x
      | _ + 10 => fun x => x) (fun _ _ _ _ _ h => h) ?_ _ (by rfl) ?_
    · simp only [List.mem_cons, List.not_mem_nil, or_false] at hq
      rcases hq with rfl <;> exact hv
    · refine obs_cons (by rfl) (fun vals w' hgr hdep K hK => ?_) (obs_cons (by rfl) (fun vals w' hgr hdep K hK => ?_) (obs_cons (by rfl) (fun vals w' hgr hdep K hK => ?_) (obs_cons (by rfl) (fun vals w' hgr hdep K hK => ?_) (obs_cons (by rfl) (fun vals w' hgr hdep K hK => ?_) (obs_cons (by rfl) (fun vals w' hgr hdep K hK => ?_) (obs_cons (by rfl) (fun vals w' hgr hdep K hK => ?_) (obs_cons (by rfl) (fun vals w' hgr hdep K hK => ?_) (obs_cons (by rfl) (fun vals w' hgr hdep K hK => ?_) (obs_cons (by rfl) (fun vals w' hgr hdep K hK => ?_) (obs_cons (by rfl) (fun vals w' hgr hdep K hK => ?_) (obs_nil)))))))))))
      · exact wp_call 16 [] _ rfl ent_awake [] rfl (fun v w'' => v = .bool true ∧ Below w'.heap.size w' w'') ((awake_any w').mono fun e w'' ⟨h1, h2⟩ => ⟨_, h1, rfl, h2⟩) (fun v w'' ⟨h1, h2⟩ => hK v _ h2 h1)
      · exact wp_move (.tmp 80) rfl _ ((at_dst 0 (by kernel_rfl)).trans (hdep 0 (by simp) (by kernel_rfl))) (hK _ _ (Below.refl _ _) rfl)
      · exact wp_move (.tmp 8) rfl _ (at_out _ (by kernel_rfl) rfl) (hK _ _ (Below.refl _ _) rfl)
      · exact wp_conv (.tmp 82) rfl _ _ ((at_dst 2 (by kernel_rfl)).trans (hdep 2 (by simp) (by kernel_rfl))) (by have := run_string_bytes (H7.out.below ((below_drewN (Below.refl w7.heap.size w7) 1).trans hgr)); rwa [BS.out] at this) (hK _ _ (Below.refl _ _) rfl)
      · exact st_load_row 24 (.tmp 3) rfl w.heap.size (at_out _ (by kernel_rfl) rfl) 24 #[.int .i64 p.src, .int .i64 p.dst, .int .i64 p.seq, .int .i64 p.ack, .int .i64 p.flags, .int .i64 p.window, .int .i64 p.urgent, .string p.opt, .slice A n c] (0, 0) _ (P7.out.below ((below_drewN (Below.refl w7.heap.size w7) 1).trans hgr) P7.out.lt) Try.underlying24 rfl (by kernel_rfl) (hK _ _ (Below.refl _ _) rfl)
      · exact wp_move (.tmp 1) rfl _ (at_out _ (by kernel_rfl) rfl) (hK _ _ (Below.refl _ _) rfl)
      · exact wp_move (.tmp 2) rfl _ (at_out _ (by kernel_rfl) rfl) (hK _ _ (Below.refl _ _) rfl)
      · exact wp_call 17 [.tmp 84, .tmp 85, .tmp 86] _ rfl ent_bytes [.agg #[.int .i64 p.src, .int .i64 p.dst, .int .i64 p.seq, .int .i64 p.ack, .int .i64 p.flags, .int .i64 p.window, .int .i64 p.urgent, .string p.opt, .slice A n c], .string s, .string d] (list3 ((at_dst 4 (by kernel_rfl)).trans (hdep 4 (by simp) (by kernel_rfl))) ((at_dst 5 (by kernel_rfl)).trans (hdep 5 (by simp) (by kernel_rfl))) ((at_dst 6 (by kernel_rfl)).trans (hdep 6 (by simp) (by kernel_rfl)))) (fun v w'' => Lies w'' v N (p.bytes s d l) ∧ Below w'.heap.size w' w'') ((BR.out w' (B7.out.trans (((below_drewN (Below.refl w7.heap.size w7) 1).trans hgr).mono B7.out.size))).mono fun e w'' ⟨v, h1, h2, h3⟩ => ⟨v, h1, lies_own h2, h3⟩) (fun v w'' ⟨h1, h2⟩ => hK v _ h2 h1)
      · obtain ⟨A6, c6, e6, l6⟩ := hdep 7 (by simp) (by kernel_rfl)
        exact wp_conv (.tmp 87) rfl _ _ ((at_dst 7 (by kernel_rfl)).trans e6) (by have := run_string_bytes l6; rwa [BS.out] at this) (hK _ _ (Below.refl _ _) rfl)
      · exact wp_bin (.tmp 83) (.tmp 88) rfl _ _ _ ((at_dst 3 (by kernel_rfl)).trans (hdep 3 (by simp) (by kernel_rfl))) ((at_dst 8 (by kernel_rfl)).trans (hdep 8 (by simp) (by kernel_rfl))) (eql_str bstr _ _ _) (hK _ _ (Below.refl _ _) rfl)
      · exact st_pick (.tmp 81) (.tmp 89) _ rfl _ ((at_dst 1 (by kernel_rfl)).trans (hdep 1 (by simp) (by kernel_rfl))) ((at_dst 9 (by kernel_rfl)).trans (hdep 9 (by simp) (by kernel_rfl))) (hK _ _ (Below.refl _ _) rfl)
    · intro vals w' hgr hG
      refine st_assign (.tmp 90) _ rfl ((at_dst 10 (by kernel_rfl)).trans (hG 10 (by simp))) (wpAnyH_done (by kernel_rfl) ?_ _)
      have B8 := Lib.hid (B7.out.trans (((below_drewN (Below.refl w7.heap.size w7) 1).trans hgr).mono B7.out.size))
      clear hG hgr
      simp only [fill, dstAt, List.getElem?_cons_zero, List.getElem?_cons_succ, Option.bind_some, Act.put, List.setIfInBounds_toArray, List.set_cons_zero, List.set_cons_succ]
      go_wp2_with fail
      go_ret
      exact ⟨rfl, B8.out⟩

theorem lays_any (p : Sg) (A : Option Addr) (n c : Nat) (l : List Int) (s d : ByteArray) (w : World) (h : Holds w w.heap.size A n c l) (h0 : p.opt.size ≤ 140737488355328) (h1 : s.size ≤ 140737488355328) (h2 : d.size ≤ 140737488355328) (h3 : n ≤ 140737488355328) :
    Calls Try.prog 3 #[.agg #[.int .i64 p.src, .int .i64 p.dst, .int .i64 p.seq, .int .i64 p.ack, .int .i64 p.flags, .int .i64 p.window, .int .i64 p.urgent, .string p.opt, .slice A n c], .string s, .string d] w (Yes w) := by
  cases hf : fewB p n with
  | false => exact lays_no p A n c s d w h0 h1 h2 h3 (.inl hf)
  | true =>
    by_cases hs : 300 < s.size + d.size
    · exact lays_no p A n c s d w h0 h1 h2 h3 (.inr ⟨hf, hs⟩)
    · by_cases hk : p.err s d n = 0
      · exact lays_ok p A n c l s d w h h0 h3 hf (by omega) hk
      · exact lays_err p A n c l s d w h h0 h3 hf (by omega) hk
end Go.Proofs.Ytadjkidjkgnkoaa.LawLays
