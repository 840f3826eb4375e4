/- The law Ip6Fields. -/
import Derived.Test.YtjfieoleoodfdaaAwake6
set_option linter.unusedVariables false
namespace Go.Proofs.Ytjfieoleoodfdaa.LawFields
open Go.RowKit Go.Sort Go.Proofs.Ytjfieoleoodfdaa.Sums Go.Proofs.Ytjfieoleoodfdaa.Mem Go.Proofs.Ytjfieoleoodfdaa.P6 Go.Proofs.Ytjfieoleoodfdaa.Blk Go.Proofs.Ytjfieoleoodfdaa.Small6 Go.Proofs.Ytjfieoleoodfdaa.Loads6 Go.Proofs.Ytjfieoleoodfdaa.Exts Go.Proofs.Ytjfieoleoodfdaa.Opts Go.Proofs.Ytjfieoleoodfdaa.Exb6 Go.Proofs.Ytjfieoleoodfdaa.Dec6 Go.Proofs.Ytjfieoleoodfdaa.Bytes6 Go.Proofs.Ytjfieoleoodfdaa.Same6 Go.Proofs.Ytjfieoleoodfdaa.Parse6 Go.Proofs.Ytjfieoleoodfdaa.Awake6 Go.Proofs.Ytjfieoleoodfdaa.Check6 Go.Proofs.Ytjfieoleoodfdaa.Kinds6 Go.Proofs.Ytjfieoleoodfdaa.Cut

/-- What a law gives: true, and what was there is there. -/
def Yes (w : World) (e : Ending) (w' : World) : Prop := e = .returned (.bool true) ∧ Below w.heap.size w w'
/-- What is known of an argument. -/
structure Got (p : Pkt) (E : Option Addr) (m ce : Nat) (A : Option Addr) (n c : Nat) (l : List Int) (w : World) : Prop where
  row : Row w (.slice E m ce) p.exts
  data : Holds w w.heap.size A n c l
  big : Big p.exts
  s : p.src.size ≤ 140737488355328
  d : p.dst.size ≤ 140737488355328
  m : m ≤ 140737488355328
  n : n ≤ 140737488355328
theorem Got.few {p : Pkt} {E : Option Addr} {m ce : Nat} {A : Option Addr} {n c : Nat} {l : List Int} {w : World} (h : Got p E m ce A n c l w) (W : World) (bel : Below w.heap.size w W) : Calls Try.prog 7 #[.agg #[.int .i64 p.cls, .int .i64 p.lab, .int .i64 p.hop, .string p.src, .string p.dst, .slice E m ce, .int .i64 p.next, .slice A n c]] W (Fw p n W) :=
  few_any p E m ce A n c W (h.row.below bel) h.big h.s h.d h.m h.n

theorem fields_no (p : Pkt) (E : Option Addr) (m ce : Nat) (A : Option Addr) (n c : Nat) (l : List Int) (w : World) (h : Got p E m ce A n c l w) (hf : fewB p n = false) :
    Calls Try.prog 6 #[.agg #[.int .i64 p.cls, .int .i64 p.lab, .int .i64 p.hop, .string p.src, .string p.dst, .slice E m ce, .int .i64 p.next, .slice A n c]] w (Yes w) := by
  have B0 := Lib.hid ((Below.refl w.heap.size w).alloc (Nat.le_refl _) (.cells #[.int .i64 p.cls, .int .i64 p.lab, .int .i64 p.hop, .string p.src, .string p.dst, .slice E m ce, .int .i64 p.next, .slice A n c] 25))
  have F := Lib.hid (h.few _ B0.out)
  unfold Fw at F
  rw [hf] at F
  clear h hf
  go_enter Try.func6, Try.ntmps6
  go_wp2_with fail
  refine F.out.mono ?_
  rintro e w1 ⟨rfl, hb⟩
  have B1 := Lib.hid (B0.out.trans (hb.mono B0.out.size))
  clear hb
  go_wp2_with fail
  go_ret
  exact ⟨rfl, B1.out⟩

set_option maxHeartbeats 1000000 in
set_option maxRecDepth 100000 in
theorem fields_err (p : Pkt) (E : Option Addr) (m ce : Nat) (A : Option Addr) (n c : Nat) (l : List Int) (w : World) (h : Got p E m ce A n c l w) (hf : fewB p n = true) (hk : p.chk n ≠ 0) :
    Calls Try.prog 6 #[.agg #[.int .i64 p.cls, .int .i64 p.lab, .int .i64 p.hop, .string p.src, .string p.dst, .slice E m ce, .int .i64 p.next, .slice A n c]] w (Yes w) := by
  have B0 := Lib.hid ((Below.refl w.heap.size w).alloc (Nat.le_refl _) (.cells #[.int .i64 p.cls, .int .i64 p.lab, .int .i64 p.hop, .string p.src, .string p.dst, .slice E m ce, .int .i64 p.next, .slice A n c] 25))
  have P0 := Lib.hid (Blk.new w 25 #[.int .i64 p.cls, .int .i64 p.lab, .int .i64 p.hop, .string p.src, .string p.dst, .slice E m ce, .int .i64 p.next, .slice A n c])
  have fw := few_true hf
  have F := Lib.hid (h.few _ B0.out)
  unfold Fw at F
  rw [hf] at F
  have ml := h.row.len
  have EB := Lib.hid (fun W (bel : Below w.heap.size w W) => bytes_err p E m ce A n c W (h.row.below bel) fw.2.2.2 (by omega) (by omega) hk)
  have CK := Lib.hid (fun W (bel : Below w.heap.size w W) => check_code p E m ce A n c W (h.row.below bel) fw.2.2.2 (by omega) (by omega))
  have hk' : (p.chk n != 0) = true := by rw [bne_iff_ne]; exact hk
  clear h hf hk ml fw
  go_enter Try.func6, Try.ntmps6
  go_wp2_with fail
  refine F.out.mono ?_
  rintro e w1 ⟨rfl, hb⟩
  have B1 := Lib.hid (B0.out.trans (hb.mono B0.out.size))
  have P1 := Lib.hid (P0.out.below hb P0.out.lt)
  clear hb F
  go_wp2_with (first
    | (refine Loads.wpList_load_w rfl 25 (.tmp 1) rfl w.heap.size rfl 25 #[.int .i64 p.cls, .int .i64 p.lab, .int .i64 p.hop, .string p.src, .string p.dst, .slice E m ce, .int .i64 p.next, .slice A n c] (0, 0) _ P1.out (Try.underlying25) rfl (by kernel_rfl) ?_))
  refine (EB.out _ B1.out).mono ?_
  rintro e w2 ⟨rfl, hb⟩
  have B2 := Lib.hid (B1.out.trans (hb.mono B1.out.size))
  have P2 := Lib.hid (P1.out.below hb P1.out.lt)
  clear hb
  go_wp2_with fail
  refine (awake_any w2).mono ?_
  rintro e w3 ⟨rfl, hb⟩
  have B3 := Lib.hid (B2.out.trans (hb.mono B2.out.size))
  have P3 := Lib.hid (P2.out.below hb P2.out.lt)
  clear hb
  go_wp2_with (first
    | (refine Loads.wpList_load_w rfl 25 (.tmp 1) rfl w.heap.size rfl 25 #[.int .i64 p.cls, .int .i64 p.lab, .int .i64 p.hop, .string p.src, .string p.dst, .slice E m ce, .int .i64 p.next, .slice A n c] (0, 0) _ P3.out (Try.underlying25) rfl (by kernel_rfl) ?_))
  refine (CK.out _ B3.out).mono ?_
  rintro e w4 ⟨rfl, hb⟩
  have B4 := Lib.hid (B3.out.trans (hb.mono B3.out.size))
  clear hb
  go_wp2_with fail
  go_ret
  exact ⟨rfl, B4.out⟩

set_option maxHeartbeats 4000000 in
set_option maxRecDepth 100000 in
theorem fields_ok (p : Pkt) (E : Option Addr) (m ce : Nat) (A : Option Addr) (n c : Nat) (l : List Int) (w : World) (h : Got p E m ce A n c l w) (hf : fewB p n = true) (hk : p.chk n = 0) :
    Calls Try.prog 6 #[.agg #[.int .i64 p.cls, .int .i64 p.lab, .int .i64 p.hop, .string p.src, .string p.dst, .slice E m ce, .int .i64 p.next, .slice A n c]] w (Yes w) := by
  obtain ⟨hv, hS⟩ := chk_zero hk
  have B0 := Lib.hid ((Below.refl w.heap.size w).alloc (Nat.le_refl _) (.cells #[.int .i64 p.cls, .int .i64 p.lab, .int .i64 p.hop, .string p.src, .string p.dst, .slice E m ce, .int .i64 p.next, .slice A n c] 25))
  have P0 := Lib.hid (Blk.new w 25 #[.int .i64 p.cls, .int .i64 p.lab, .int .i64 p.hop, .string p.src, .string p.dst, .slice E m ce, .int .i64 p.next, .slice A n c])
  have fw := few_true hf
  have F := Lib.hid (h.few _ B0.out)
  unfold Fw at F
  rw [hf] at F
  have ml := h.row.len
  have OK := Lib.hid (fun W (bel : Below w.heap.size w W) => bytes_ok p E m ce A n c l W (h.row.below bel) ((h.data.below bel).more bel.size) (by omega) hv hS)
  have R0 := Lib.hid h.row
  have HL := Lib.hid h.data
  have hn := h.data.1
  have hc := hv.c
  have hl := hv.l
  have hh := hv.h
  obtain ⟨S, hSS⟩ : ∃ S, S = n + behind p.exts := ⟨_, rfl⟩
  obtain ⟨k0, hk0⟩ : ∃ k0, k0 = kindOf p.exts p.next := ⟨_, rfl⟩
  have kk := kind_in hv.e hv.n.1 hv.n.2
  rw [← hk0] at kk
  obtain ⟨L, hL⟩ : ∃ L, L = p.bytes l := ⟨_, rfl⟩
  have y0 : L[0]? = some (96 + p.cls / 16) := by rw [hL]; rfl
  have y4 : L[4]? = some ((S : Int) / 256) := by rw [hL, hSS, ← hn]; rfl
  have y5 : L[5]? = some ((S : Int) % 256) := by rw [hL, hSS, ← hn]; rfl
  have y6 : L[6]? = some k0 := by rw [hL, hk0]; rfl
  have y7 : L[7]? = some p.hop := by rw [hL]; rfl
  have hd8 : L.drop 8 = nums p.src ++ (nums p.dst ++ (encs p.exts p.next ++ l)) := by
    rw [hL, Pkt.bytes, Pkt.head, List.append_assoc, List.append_assoc]; rfl
  have ls : (nums p.src).length = 16 := by rw [nums_len]; exact hv.s
  have ld : (nums p.dst).length = 16 := by rw [nums_len]; exact hv.d
  have t1 : strOfNums ((L.drop 8).take 16) = p.src := by rw [hd8, ← ls, List.take_left, str_nums]
  have t2 : strOfNums ((L.drop 24).take 16) = p.dst := by rw [show 24 = 8 + 16 from rfl, ← List.drop_drop, hd8, ← ls, List.drop_left, ls, ← ld, List.take_left, str_nums]
  have t3 : L.drop (40 + behind p.exts) = l := by
    rw [← List.drop_drop, hL, Pkt.bytes, ← head_len hv (l.length + behind p.exts), List.drop_left, ← encs_len p.exts p.next, List.drop_left]
  have T1 := Lib.hid t1
  have T2 := Lib.hid t2
  have T3 := Lib.hid t3
  obtain ⟨M, hM⟩ : ∃ M, M = 40 + behind p.exts := ⟨_, rfl⟩
  obtain ⟨N, hN⟩ : ∃ N, N = 40 + S := ⟨_, rfl⟩
  rw [← hSS] at OK hS
  rw [← hN, ← hL] at OK
  rw [← hM] at T3
  have KH := Lib.hid hk0
  have Y0 := Lib.hid y0
  have Y4 := Lib.hid y4
  have Y5 := Lib.hid y5
  have Y6 := Lib.hid y6
  have Y7 := Lib.hid y7
  have hM2 : M + n = N := by omega
  have hn2 : n ≤ 65535 := by omega
  have hN2 : N ≤ 65575 := by omega
  have hN3 : 40 ≤ N := by omega
  have hNS : (N : Int) = 40 + (S : Int) := by omega
  have NS := Lib.hid hNS
  clear h hf hk fw t1 t2 t3 y0 y4 y5 y6 y7 hk0 hL hd8 ls ld hN hSS hn hv hNS hM
  go_enter Try.func6, Try.ntmps6
  go_wp2_with fail
  refine F.out.mono ?_
  rintro e w1 ⟨rfl, hb⟩
  have B1 := Lib.hid (B0.out.trans (hb.mono B0.out.size))
  have P1 := Lib.hid (P0.out.below hb P0.out.lt)
  clear hb F P0
  go_wp2_with (first
    | (refine Loads.wpList_load_w rfl 25 (.tmp 1) rfl w.heap.size rfl 25 #[.int .i64 p.cls, .int .i64 p.lab, .int .i64 p.hop, .string p.src, .string p.dst, .slice E m ce, .int .i64 p.next, .slice A n c] (0, 0) _ P1.out (Try.underlying25) rfl (by kernel_rfl) ?_))
  refine (OK.out _ B1.out).mono ?_
  rintro e w2 ⟨v, rfl, o2, hb⟩
  have B2 := Lib.hid (B1.out.trans (hb.mono B1.out.size))
  have P2 := Lib.hid (P1.out.below hb P1.out.lt)
  clear hb OK P1 B1 B0
  obtain ⟨A2, c2, rfl, h2⟩ := o2.slice
  obtain ⟨g, rfl, hg1, hg2⟩ := o2.form (by omega)
  have H2 := Lib.hid h2
  have hcN := h2.2.1
  have hcM := h2.2.2.1
  unfold maxLen at hcM
  have x6 := P2.out.cell 6
  have x5 := P2.out.cell 5
  have d0 := Lib.hid (o2.cell Y0.out)
  have d4 := Lib.hid (o2.cell Y4.out)
  have d5 := Lib.hid (o2.cell Y5.out)
  have d6 := Lib.hid (o2.cell Y6.out)
  have d7 := Lib.hid (o2.cell Y7.out)
  clear o2 h2 Y0 Y4 Y5 Y6 Y7
  have key : ∀ (tm : Array Value), tm.size = 106 → tm[1]? = some (.pointer (some ⟨w.heap.size, 0, none⟩)) → True := fun _ _ _ => trivial
  clear key
  by_cases hm0 : m = 0
  · have hx : p.exts = [] := by cases hp : p.exts with | nil => rfl | cons x r => rw [hp] at ml; simp at ml; omega
    have KN : Hid (p.next = k0) := Lib.hid (by rw [KH.out, hx]; rfl)
    subst hm0
    clear hx ml
    rw [KN.out] at x6
    go_wp2_with fail
    clear x5 x6 KN KH R0 hcM
    have e1 : IntKind.i64.wrap (256 * ((S : Int) / 256)) = 256 * ((S : Int) / 256) := IntWalk.i64_in _ (by omega)
    have e2 : IntKind.i64.wrap (40 + 256 * ((S : Int) / 256)) = 40 + 256 * ((S : Int) / 256) := IntWalk.i64_in _ (by omega)
    have e3 : IntKind.i64.wrap (40 + 256 * ((S : Int) / 256) + (S : Int) % 256) = (N : Int) := by rw [NS.out, IntWalk.i64_in _ (by omega)]; omega
    have e4 : IntKind.i64.wrap ((S : Int) / 256) = (S : Int) / 256 := IntWalk.i64_in _ (by omega)
    have e5 : IntKind.i64.wrap ((S : Int) % 256) = (S : Int) % 256 := IntWalk.i64_in _ (by omega)
    have e6 : IntKind.i64.wrap k0 = k0 := IntWalk.i64_in _ (by omega)
    have e7 : IntKind.i64.wrap p.hop = p.hop := IntWalk.i64_in _ (by omega)
    have e9 : IntKind.i64.wrap ((N : Int) - (n : Int)) = (M : Int) := by rw [IntWalk.i64_in _ (by omega)]; omega
    have e0 : (96 + p.cls / 16).tdiv 16 = 6 := by rw [Int.tdiv_eq_ediv_of_nonneg (by omega)]; omega
    have e0' : (96 + p.cls / 16) / 16 = 6 := by omega
    have i0 : (0 : Int) < (N : Int) := by omega
    have i4 : (4 : Int) < (N : Int) := by omega
    have i5 : (5 : Int) < (N : Int) := by omega
    have i6 : (6 : Int) < (N : Int) := by omega
    have i7 : (7 : Int) < (N : Int) := by omega
    have i0' : 0 < N := by omega
    have g0 := fun d' os => cell_regrown d0.out d' os
    have g4 := fun d' os => cell_regrown d4.out d' os
    have g5 := fun d' os => cell_regrown d5.out d' os
    have g6 := fun d' os => cell_regrown d6.out d' os
    have g7 := fun d' os => cell_regrown d7.out d' os
    have b2 := fun d' os => cell_regrown (P2.out.cell 2) d' os
    have b3 := fun d' os => cell_regrown (P2.out.cell 3) d' os
    have b4 := fun d' os => cell_regrown (P2.out.cell 4) d' os
    have b7 := fun d' os => cell_regrown (P2.out.cell 7) d' os
    have u1 : ∀ W, (Instr.sliceAt 23 (.slice (some ⟨g, 0, none⟩) N c2) (some (.int .i64 8)) (some (.int .i64 24)) none).run Try.prog W = .ok (.slice (some (adr g 0 c2 8)) 16 (c2 - 8)) W := fun W => cutA_lh g 0 N c2 8 24 W (by omega) (by omega)
    have u2 : ∀ W, (Instr.sliceAt 23 (.slice (some ⟨g, 0, none⟩) N c2) (some (.int .i64 24)) (some (.int .i64 40)) none).run Try.prog W = .ok (.slice (some (adr g 0 c2 24)) 16 (c2 - 24)) W := fun W => cutA_lh g 0 N c2 24 40 W (by omega) (by omega)
    have u3 : ∀ W, (Instr.sliceAt 23 (.slice (some ⟨g, 0, none⟩) N c2) (some (.int .i64 (M : Int))) none none).run Try.prog W = .ok (.slice (some (adr g 0 c2 M)) (N - M) (c2 - M)) W := fun W => cutA_l g 0 N c2 M W (by omega) (by omega)
    have v1 : ∀ (d' : Nat) (os : Array Obj), (convert 23 9 (.slice (some (adr g 0 c2 8)) 16 (c2 - 8))).run Try.prog (grow (redrawn w2 d') os) = .ok (.string p.src) (grow (redrawn w2 d') os) := fun d' os => by
      have := run_string_bytes (cutA_holds (lo := 8) (hi := 24) (H2.out.below (below_regrown w2 d' os)) (by omega) (by omega))
      rwa [T1.out] at this
    have v2 : ∀ (d' : Nat) (os : Array Obj), (convert 23 9 (.slice (some (adr g 0 c2 24)) 16 (c2 - 24))).run Try.prog (grow (redrawn w2 d') os) = .ok (.string p.dst) (grow (redrawn w2 d') os) := fun d' os => by
      have := run_string_bytes (cutA_holds (lo := 24) (hi := 40) (H2.out.below (below_regrown w2 d' os)) (by omega) (by omega))
      rwa [T2.out] at this
    have v3 : ∀ (d' : Nat) (os : Array Obj), (convert 23 9 (.slice (some (adr g 0 c2 M)) (N - M) (c2 - M))).run Try.prog (grow (redrawn w2 d') os) = .ok (.string (strOfNums l)) (grow (redrawn w2 d') os) := fun d' os => by
      have := run_string_bytes (cutA_rest (lo := M) (H2.out.below (below_regrown w2 d' os)) (by omega))
      rwa [T3.out] at this
    have v4 : ∀ (d' : Nat) (os : Array Obj), (convert 23 9 (.slice A n c)).run Try.prog (grow (redrawn w2 d') os) = .ok (.string (strOfNums l)) (grow (redrawn w2 d') os) := fun d' os => run_string_bytes ((HL.out.below B2.out).below ((below_regrown w2 d' os).mono B2.out.size))
    generalize strOfNums l = dstr at *
    refine wp_region_quiet_below (by kernel_rfl) (by kernel_rfl) ?_
    simp only [List.append_eq, List.cons_append, List.nil_append]
    repeat (go_big_quiet_step (with_reducible exact Calls.regrown_of (awake_any _)))
    refine wpQuiet_nil ?_
    intro _ hw'
    obtain ⟨⟨dq, osq⟩, hw''⟩ := hw'
    subst hw''
    go_wp2_with fail
    go_ret
    exact ⟨rfl, B2.out.trans ((below_regrown w2 dq osq).mono B2.out.size)⟩
  · obtain ⟨a, q, d, rfl, hq, hab, c1, c3, _⟩ := (R0.out.below B2.out).at_ (k := 0) (by omega)
    have KN : q = k0 := by
      rw [KH.out]
      cases hp : p.exts with
      | nil => rw [hp] at hq; cases hq
      | cons x r => rw [hp] at hq; simp at hq; rw [hq]; rfl
    subst KN
    have c1' : w2.cell? a = some (.int .i64 q) := by
      have : a.add (0 * 2) = a := by rw [Nat.zero_mul]; unfold Addr.add; rw [if_pos rfl]
      rwa [this] at c1
    have mp : 0 < m := by omega
    have mp' : (0 : Int) < (m : Int) := by omega
    clear c1 c3 hm0 hq hab ml
    go_wp2_with fail
    clear x5 x6 KH R0 hcM c1' mp mp'
    have e1 : IntKind.i64.wrap (256 * ((S : Int) / 256)) = 256 * ((S : Int) / 256) := IntWalk.i64_in _ (by omega)
    have e2 : IntKind.i64.wrap (40 + 256 * ((S : Int) / 256)) = 40 + 256 * ((S : Int) / 256) := IntWalk.i64_in _ (by omega)
    have e3 : IntKind.i64.wrap (40 + 256 * ((S : Int) / 256) + (S : Int) % 256) = (N : Int) := by rw [NS.out, IntWalk.i64_in _ (by omega)]; omega
    have e4 : IntKind.i64.wrap ((S : Int) / 256) = (S : Int) / 256 := IntWalk.i64_in _ (by omega)
    have e5 : IntKind.i64.wrap ((S : Int) % 256) = (S : Int) % 256 := IntWalk.i64_in _ (by omega)
    have e6 : IntKind.i64.wrap q = q := IntWalk.i64_in _ (by omega)
    have e7 : IntKind.i64.wrap p.hop = p.hop := IntWalk.i64_in _ (by omega)
    have e9 : IntKind.i64.wrap ((N : Int) - (n : Int)) = (M : Int) := by rw [IntWalk.i64_in _ (by omega)]; omega
    have e0 : (96 + p.cls / 16).tdiv 16 = 6 := by rw [Int.tdiv_eq_ediv_of_nonneg (by omega)]; omega
    have e0' : (96 + p.cls / 16) / 16 = 6 := by omega
    have i0 : (0 : Int) < (N : Int) := by omega
    have i4 : (4 : Int) < (N : Int) := by omega
    have i5 : (5 : Int) < (N : Int) := by omega
    have i6 : (6 : Int) < (N : Int) := by omega
    have i7 : (7 : Int) < (N : Int) := by omega
    have i0' : 0 < N := by omega
    have g0 := fun d' os => cell_regrown d0.out d' os
    have g4 := fun d' os => cell_regrown d4.out d' os
    have g5 := fun d' os => cell_regrown d5.out d' os
    have g6 := fun d' os => cell_regrown d6.out d' os
    have g7 := fun d' os => cell_regrown d7.out d' os
    have b2 := fun d' os => cell_regrown (P2.out.cell 2) d' os
    have b3 := fun d' os => cell_regrown (P2.out.cell 3) d' os
    have b4 := fun d' os => cell_regrown (P2.out.cell 4) d' os
    have b7 := fun d' os => cell_regrown (P2.out.cell 7) d' os
    have u1 : ∀ W, (Instr.sliceAt 23 (.slice (some ⟨g, 0, none⟩) N c2) (some (.int .i64 8)) (some (.int .i64 24)) none).run Try.prog W = .ok (.slice (some (adr g 0 c2 8)) 16 (c2 - 8)) W := fun W => cutA_lh g 0 N c2 8 24 W (by omega) (by omega)
    have u2 : ∀ W, (Instr.sliceAt 23 (.slice (some ⟨g, 0, none⟩) N c2) (some (.int .i64 24)) (some (.int .i64 40)) none).run Try.prog W = .ok (.slice (some (adr g 0 c2 24)) 16 (c2 - 24)) W := fun W => cutA_lh g 0 N c2 24 40 W (by omega) (by omega)
    have u3 : ∀ W, (Instr.sliceAt 23 (.slice (some ⟨g, 0, none⟩) N c2) (some (.int .i64 (M : Int))) none none).run Try.prog W = .ok (.slice (some (adr g 0 c2 M)) (N - M) (c2 - M)) W := fun W => cutA_l g 0 N c2 M W (by omega) (by omega)
    have v1 : ∀ (d' : Nat) (os : Array Obj), (convert 23 9 (.slice (some (adr g 0 c2 8)) 16 (c2 - 8))).run Try.prog (grow (redrawn w2 d') os) = .ok (.string p.src) (grow (redrawn w2 d') os) := fun d' os => by
      have := run_string_bytes (cutA_holds (lo := 8) (hi := 24) (H2.out.below (below_regrown w2 d' os)) (by omega) (by omega))
      rwa [T1.out] at this
    have v2 : ∀ (d' : Nat) (os : Array Obj), (convert 23 9 (.slice (some (adr g 0 c2 24)) 16 (c2 - 24))).run Try.prog (grow (redrawn w2 d') os) = .ok (.string p.dst) (grow (redrawn w2 d') os) := fun d' os => by
      have := run_string_bytes (cutA_holds (lo := 24) (hi := 40) (H2.out.below (below_regrown w2 d' os)) (by omega) (by omega))
      rwa [T2.out] at this
    have v3 : ∀ (d' : Nat) (os : Array Obj), (convert 23 9 (.slice (some (adr g 0 c2 M)) (N - M) (c2 - M))).run Try.prog (grow (redrawn w2 d') os) = .ok (.string (strOfNums l)) (grow (redrawn w2 d') os) := fun d' os => by
      have := run_string_bytes (cutA_rest (lo := M) (H2.out.below (below_regrown w2 d' os)) (by omega))
      rwa [T3.out] at this
    have v4 : ∀ (d' : Nat) (os : Array Obj), (convert 23 9 (.slice A n c)).run Try.prog (grow (redrawn w2 d') os) = .ok (.string (strOfNums l)) (grow (redrawn w2 d') os) := fun d' os => run_string_bytes ((HL.out.below B2.out).below ((below_regrown w2 d' os).mono B2.out.size))
    generalize strOfNums l = dstr at *
    refine wp_region_quiet_below (by kernel_rfl) (by kernel_rfl) ?_
    simp only [List.append_eq, List.cons_append, List.nil_append]
    repeat (go_big_quiet_step (with_reducible exact Calls.regrown_of (awake_any _)))
    refine wpQuiet_nil ?_
    intro _ hw'
    obtain ⟨⟨dq, osq⟩, hw''⟩ := hw'
    subst hw''
    go_wp2_with fail
    go_ret
    exact ⟨rfl, B2.out.trans ((below_regrown w2 dq osq).mono B2.out.size)⟩

theorem fields_any (p : Pkt) (E : Option Addr) (m ce : Nat) (A : Option Addr) (n c : Nat) (l : List Int) (w : World) (h : Got p E m ce A n c l w) :
    Calls Try.prog 6 #[.agg #[.int .i64 p.cls, .int .i64 p.lab, .int .i64 p.hop, .string p.src, .string p.dst, .slice E m ce, .int .i64 p.next, .slice A n c]] w (Yes w) := by
  cases hf : fewB p n with
  | false => exact fields_no p E m ce A n c l w h hf
  | true =>
    by_cases hk : p.chk n = 0
    · exact fields_ok p E m ce A n c l w h hf hk
    · exact fields_err p E m ce A n c l w h hf hk
end Go.Proofs.Ytjfieoleoodfdaa.LawFields
