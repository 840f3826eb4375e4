/- The code's Check, counts, Peek, examine. -/
import Derived.Test.YtdnkbefpbehllaaDoorM23
import Derived.Test.YtdnkbefpbehllaaDoorM28
set_option linter.unusedVariables false
namespace Go.Proofs.YtdnkbefpbehllaaDoor.Esp2
open Go.RowKit Go.Proofs.YtdnkbefpbehllaaDoor.Sums Go.Proofs.YtdnkbefpbehllaaDoor.Mem Go.Proofs.YtdnkbefpbehllaaDoor.Blk Go.Proofs.YtdnkbefpbehllaaDoor.Bits3 Go.Proofs.YtdnkbefpbehllaaDoor.Ints Go.Proofs.YtdnkbefpbehllaaDoor.AesB Go.Proofs.YtdnkbefpbehllaaDoor.PadR Go.Proofs.YtdnkbefpbehllaaDoor.EspD Go.Proofs.YtdnkbefpbehllaaDoor.CutA
open Go.Proofs.YtdnkbefpbehllaaDoor.CtrD (four four_byt)
open Go.Proofs.YtdnkbefpbehllaaDoor.EspR2 Go.Proofs.YtdnkbefpbehllaaDoor.Esp1

set_option maxHeartbeats 1000000 in
theorem check_no (sp : Int) (ky sl mc : ByteArray) (es : Bool) (wn : Int) (w : World) : Calls Tryd.prog 11 #[.agg #[.int .i64 sp, .string ky, .string sl, .string mc, .bool es, .int .i64 wn]] w fun e w' => e = .returned (.int .i64 (if may sp ky sl mc wn then 0 else 1)) ∧ Below w.heap.size w w' := by
  obtain ⟨r, hr⟩ : ∃ r : Int, r = if may sp ky sl mc wn then 0 else 1 := ⟨_, rfl⟩
  rw [← hr]
  unfold may at hr
  have B0 := Lib.hid ((Below.refl w.heap.size w).alloc (Nat.le_refl _) (.cells #[.int .i64 sp, .string ky, .string sl, .string mc, .bool es, .int .i64 wn] 23))
  have K0 := Blk.new w 23 #[.int .i64 sp, .string ky, .string sl, .string mc, .bool es, .int .i64 wn]
  have k0 := K0.cell 0
  have k1 := K0.cell 1
  have k2 := K0.cell 2
  have k3 := K0.cell 3
  have k4 := K0.cell 4
  have k5 := K0.cell 5
  clear K0
  by_cases a1 : 256 ≤ sp
  · have ga1 : decide (sp < 256) = false := decide_eq_false (by omega)
    by_cases a2 : sp ≤ 4294967295
    · have ga2 : decide (4294967295 < sp) = false := decide_eq_false (by omega)
      by_cases q1 : ky.size = 16
      · have g3 : ((ky.size : Int) != 16) = false := by simp; omega
        by_cases a4 : sl.size = 4
        · have ga4 : ((sl.size : Int) != 4) = false := by simp; omega
          by_cases a5 : mc.size = 32
          · have ga5 : ((mc.size : Int) != 32) = false := by simp; omega
            by_cases a6 : 64 ≤ wn
            · have ga6 : decide (wn < 64) = false := decide_eq_false (by omega)
              by_cases a7 : wn ≤ 1024
              · have ga7 : decide (1024 < wn) = false := decide_eq_false (by omega)
                have E : Hid (r = 0) := Lib.hid (by rw [hr]; simp [a1, a2, q1, a4, a5, a6, a7])
                clear hr
                go_enter Tryd.func11, Tryd.ntmps11
                go_wp2_with fail
                go_ret
                exact ⟨by rw [E.out]; rfl, B0.out⟩
              · have ga7 : decide (1024 < wn) = true := decide_eq_true (by omega)
                have E : Hid (r = 1) := Lib.hid (by rw [hr]; simp [a1, a2, q1, a4, a5, a6, a7])
                clear hr
                go_enter Tryd.func11, Tryd.ntmps11
                go_wp2_with fail
                go_ret
                exact ⟨by rw [E.out]; rfl, B0.out⟩
            · have ga6 : decide (wn < 64) = true := decide_eq_true (by omega)
              have E : Hid (r = 1) := Lib.hid (by rw [hr]; simp [a1, a2, q1, a4, a5, a6])
              clear hr
              go_enter Tryd.func11, Tryd.ntmps11
              go_wp2_with fail
              go_ret
              exact ⟨by rw [E.out]; rfl, B0.out⟩
          · have ga5 : ((mc.size : Int) != 32) = true := by simp; omega
            have E : Hid (r = 1) := Lib.hid (by rw [hr]; simp [a1, a2, q1, a4, a5])
            clear hr
            go_enter Tryd.func11, Tryd.ntmps11
            go_wp2_with fail
            go_ret
            exact ⟨by rw [E.out]; rfl, B0.out⟩
        · have ga4 : ((sl.size : Int) != 4) = true := by simp; omega
          have E : Hid (r = 1) := Lib.hid (by rw [hr]; simp [a1, a2, q1, a4])
          clear hr
          go_enter Tryd.func11, Tryd.ntmps11
          go_wp2_with fail
          go_ret
          exact ⟨by rw [E.out]; rfl, B0.out⟩
      · have g3 : ((ky.size : Int) != 16) = true := by simp; omega
        by_cases q2 : ky.size = 32
        · have g3b : ((ky.size : Int) != 32) = false := by simp; omega
          by_cases a4 : sl.size = 4
          · have ga4 : ((sl.size : Int) != 4) = false := by simp; omega
            by_cases a5 : mc.size = 32
            · have ga5 : ((mc.size : Int) != 32) = false := by simp; omega
              by_cases a6 : 64 ≤ wn
              · have ga6 : decide (wn < 64) = false := decide_eq_false (by omega)
                by_cases a7 : wn ≤ 1024
                · have ga7 : decide (1024 < wn) = false := decide_eq_false (by omega)
                  have E : Hid (r = 0) := Lib.hid (by rw [hr]; simp [a1, a2, q2, a4, a5, a6, a7])
                  clear hr
                  go_enter Tryd.func11, Tryd.ntmps11
                  go_wp2_with fail
                  go_ret
                  exact ⟨by rw [E.out]; rfl, B0.out⟩
                · have ga7 : decide (1024 < wn) = true := decide_eq_true (by omega)
                  have E : Hid (r = 1) := Lib.hid (by rw [hr]; simp [a1, a2, q2, a4, a5, a6, a7])
                  clear hr
                  go_enter Tryd.func11, Tryd.ntmps11
                  go_wp2_with fail
                  go_ret
                  exact ⟨by rw [E.out]; rfl, B0.out⟩
              · have ga6 : decide (wn < 64) = true := decide_eq_true (by omega)
                have E : Hid (r = 1) := Lib.hid (by rw [hr]; simp [a1, a2, q2, a4, a5, a6])
                clear hr
                go_enter Tryd.func11, Tryd.ntmps11
                go_wp2_with fail
                go_ret
                exact ⟨by rw [E.out]; rfl, B0.out⟩
            · have ga5 : ((mc.size : Int) != 32) = true := by simp; omega
              have E : Hid (r = 1) := Lib.hid (by rw [hr]; simp [a1, a2, q2, a4, a5])
              clear hr
              go_enter Tryd.func11, Tryd.ntmps11
              go_wp2_with fail
              go_ret
              exact ⟨by rw [E.out]; rfl, B0.out⟩
          · have ga4 : ((sl.size : Int) != 4) = true := by simp; omega
            have E : Hid (r = 1) := Lib.hid (by rw [hr]; simp [a1, a2, q2, a4])
            clear hr
            go_enter Tryd.func11, Tryd.ntmps11
            go_wp2_with fail
            go_ret
            exact ⟨by rw [E.out]; rfl, B0.out⟩
        · have g3b : ((ky.size : Int) != 32) = true := by simp; omega
          have E : Hid (r = 1) := Lib.hid (by rw [hr]; simp [a1, a2, q1, q2])
          clear hr
          go_enter Tryd.func11, Tryd.ntmps11
          go_wp2_with fail
          go_ret
          exact ⟨by rw [E.out]; rfl, B0.out⟩
    · have ga2 : decide (4294967295 < sp) = true := decide_eq_true (by omega)
      have E : Hid (r = 1) := Lib.hid (by rw [hr]; simp [a1, a2])
      clear hr
      go_enter Tryd.func11, Tryd.ntmps11
      go_wp2_with fail
      go_ret
      exact ⟨by rw [E.out]; rfl, B0.out⟩
  · have ga1 : decide (sp < 256) = true := decide_eq_true (by omega)
    have E : Hid (r = 1) := Lib.hid (by rw [hr]; simp [a1])
    clear hr
    go_enter Tryd.func11, Tryd.ntmps11
    go_wp2_with fail
    go_ret
    exact ⟨by rw [E.out]; rfl, B0.out⟩

theorem counts_no (sp : Int) (ky sl mc : ByteArray) (es : Bool) (wn : Int) (q : Nat) (w : World) : Calls Tryd.prog 16 #[.agg #[.int .i64 sp, .string ky, .string sl, .string mc, .bool es, .int .i64 wn], .int .u64 (q : Int)] w fun e w' => e = .returned (.bool (may sp ky sl mc wn && num es q)) ∧ Below w.heap.size w w' := by
  have C := Lib.hid (check_no sp ky sl mc es wn)
  generalize may sp ky sl mc wn = m at *
  obtain ⟨r, hr⟩ : ∃ r, r = (m && num es q) := ⟨_, rfl⟩
  rw [← hr]
  unfold num at hr
  have K1 := Lib.hid (Blk.new w 23 #[.int .i64 sp, .string ky, .string sl, .string mc, .bool es, .int .i64 wn])
  have B0 := Lib.hid ((Below.refl w.heap.size w).alloc (Nat.le_refl _) (.cells #[.int .i64 sp, .string ky, .string sl, .string mc, .bool es, .int .i64 wn] 23))
  have start : True := trivial
  cases m
  · have E : Hid (r = false) := Lib.hid (by rw [hr]; rfl)
    clear hr
    go_enter Tryd.func16, Tryd.ntmps16
    go_wp2_with (refine Loads.wpList_load_w rfl 23 (.tmp 2) rfl w.heap.size rfl 23 #[.int .i64 sp, .string ky, .string sl, .string mc, .bool es, .int .i64 wn] (0, 0) _ (K1.out) Tryd.underlying23 rfl (by kernel_rfl) ?_)
    refine (C.out _).mono ?_
    rintro e w2 ⟨rfl, hb⟩
    have B2 := Lib.hid (B0.out.trans (hb.mono (by simp)))
    clear hb
    go_wp2_with fail
    go_ret
    exact ⟨by rw [E.out]; rfl, B2.out⟩
  · go_enter Tryd.func16, Tryd.ntmps16
    go_wp2_with (refine Loads.wpList_load_w rfl 23 (.tmp 2) rfl w.heap.size rfl 23 #[.int .i64 sp, .string ky, .string sl, .string mc, .bool es, .int .i64 wn] (0, 0) _ (K1.out) Tryd.underlying23 rfl (by kernel_rfl) ?_)
    refine (C.out _).mono ?_
    rintro e w2 ⟨rfl, hb⟩
    have B2 := Lib.hid (B0.out.trans (hb.mono (by simp)))
    have k4 := (Blk.below K1.out hb (Blk.lt K1.out)).cell 4
    clear hb
    by_cases a1 : 1 ≤ q
    · have g1 : decide ((0 : Int) < (q : Int)) = true := decide_eq_true (by omega)
      cases es
      · by_cases a2 : q ≤ 4294967295
        · have g2 : decide ((q : Int) ≤ 4294967295) = true := decide_eq_true (by omega)
          have E : Hid (r = true) := Lib.hid (by rw [hr]; simp [a1, a2])
          clear hr
          go_wp2_with fail
          go_ret
          exact ⟨by rw [E.out]; rfl, B2.out⟩
        · have g2 : decide ((q : Int) ≤ 4294967295) = false := decide_eq_false (by omega)
          have E : Hid (r = false) := Lib.hid (by rw [hr]; simp [a1, a2])
          clear hr
          go_wp2_with fail
          go_ret
          exact ⟨by rw [E.out]; rfl, B2.out⟩
      · have E : Hid (r = true) := Lib.hid (by rw [hr]; simp [a1])
        clear hr
        go_wp2_with fail
        go_ret
        exact ⟨by rw [E.out]; rfl, B2.out⟩
    · have g1 : decide ((0 : Int) < (q : Int)) = false := decide_eq_false (by omega)
      have E : Hid (r = false) := Lib.hid (by rw [hr]; simp [a1])
      clear hr
      go_wp2_with fail
      go_ret
      exact ⟨by rw [E.out]; rfl, B2.out⟩

theorem num4_in {l : List Int} (h : Bytes l) (k : Nat) : 0 ≤ num4 l k ∧ num4 l k ≤ 4294967295 := by
  have d0 := Regs.getD_in h k
  have d1 := Regs.getD_in h (k + 1)
  have d2 := Regs.getD_in h (k + 2)
  have d3 := Regs.getD_in h (k + 3)
  unfold num4
  omega
theorem num4_take (l : List Int) (h : 4 ≤ l.length) : num4 (l.take 4) 0 = num4 l 0 := by
  have g : ∀ i, i < 4 → (l.take 4).getD i 0 = l.getD i 0 := fun i hi => by rw [List.getD_eq_getElem?_getD, List.getElem?_take_of_lt hi, List.getD_eq_getElem?_getD]
  unfold num4
  rw [g 0 (by decide), g (0 + 1) (by decide), g (0 + 2) (by decide), g (0 + 3) (by decide)]
theorem num4_mid (l : List Int) (h : 8 ≤ l.length) : num4 ((l.drop 4).take 4) 0 = num4 l 4 := by
  rw [num4_take _ (by rw [List.length_drop]; omega)]
  have g : ∀ i, (l.drop 4).getD i 0 = l.getD (4 + i) 0 := fun i => by rw [List.getD_eq_getElem?_getD, List.getElem?_drop, List.getD_eq_getElem?_getD]
  unfold num4
  rw [g, g, g, g]
theorem peek_no (A : Option Addr) (n c : Nat) (l : List Int) (w : World) (B : Nat) (h : Holds w B A n c l) : Calls Tryd.prog 9 #[.slice A n c] w fun e w' => e = .returned (.tuple #[.int .i64 (peekX l), .int .i64 (peekY l), .int .i64 (peekE l)]) ∧ Below w.heap.size w w' := by
  have hl := h.1
  by_cases q : n < 8
  · have E : Hid (peekX l = 0 ∧ peekY l = 0 ∧ peekE l = 8) := Lib.hid (by unfold peekX peekY peekE; rw [hl, if_pos q, if_pos q, if_pos q]; exact ⟨rfl, rfl, rfl⟩)
    have g : decide ((n : Int) < 8) = true := decide_eq_true (by omega)
    clear h hl
    go_enter Tryd.func9, Tryd.ntmps9
    go_wp2_with fail
    go_ret3
    exact ⟨by rw [E.out.1, E.out.2.1, E.out.2.2]; rfl, Below.refl _ _⟩
  · have E : Hid (peekX l = num4 l 0 ∧ peekY l = num4 l 4 ∧ peekE l = 0) := Lib.hid (by unfold peekX peekY peekE; rw [hl, if_neg q, if_neg q, if_neg q]; exact ⟨rfl, rfl, rfl⟩)
    have g : decide ((n : Int) < 8) = false := decide_eq_false (by omega)
    obtain ⟨b, p, rfl, _⟩ := h.2.2.2.2 (by omega)
    have h0 := h.upto (k := 4) (by omega)
    have h4 := cutA_holds (lo := 4) (hi := 8) h (by omega) (by omega)
    have n0 := num4_in h.2.2.2.1 0
    have n4 := num4_in h.2.2.2.1 4
    have C0 : Hid (∀ k, Calls Tryd.prog 24 #[.slice (some ⟨b, p, none⟩) 4 c] (w.drewN k) fun e w' => e = .returned (.int .u64 (num4 l 0)) ∧ ∃ m, w' = (w.drewN k).drewN m) := Lib.hid fun k => by
      have := number_no (some ⟨b, p, none⟩) c (l.take 4) (w.drewN k) B (h0.keep fun _ _ _ => rfl)
      rw [num4_take l (by omega)] at this
      exact this.mono fun e w' ⟨h1, h2⟩ => ⟨h1, 0, h2.symm⟩
    have C4 : Hid (∀ k, Calls Tryd.prog 24 #[.slice (some (adr b p c 4)) 4 (c - 4)] (w.drewN k) fun e w' => e = .returned (.int .u64 (num4 l 4)) ∧ ∃ m, w' = (w.drewN k).drewN m) := Lib.hid fun k => by
      have := number_no (some (adr b p c 4)) (c - 4) ((l.drop 4).take 4) (w.drewN k) B (h4.keep fun _ _ _ => rfl)
      rw [num4_mid l (by omega)] at this
      exact this.mono fun e w' ⟨h1, h2⟩ => ⟨h1, 0, h2.symm⟩
    have cu0 : ∀ W, (Instr.sliceAt 25 (.slice (some ⟨b, p, none⟩) n c) none (some (.int .i64 4)) none).run Tryd.prog W = .ok (.slice (some ⟨b, p, none⟩) 4 c) W := fun W => MacU.cut_begin _ n c 4 (by omega) h.2.1 W
    have cu : ∀ W, (Instr.sliceAt 25 (.slice (some ⟨b, p, none⟩) n c) (some (.int .i64 4)) (some (.int .i64 8)) none).run Tryd.prog W = .ok (.slice (some (adr b p c 4)) 4 (c - 4)) W := fun W => cutA_lh b p n c 4 8 W (by omega) (by have := h.2.1; omega)
    generalize num4 l 0 = x0 at *
    generalize num4 l 4 = x4 at *
    generalize adr b p c 4 = a4 at *
    have i0 : IntKind.i64.wrap x0 = x0 := IntWalk.i64_in _ (by omega)
    have i4 : IntKind.i64.wrap x4 = x4 := IntWalk.i64_in _ (by omega)
    clear h h0 h4 hl n0 n4
    go_enter Tryd.func9, Tryd.ntmps9
    go_wp2_with fail
    go_quiet (first | with_reducible exact Calls.quiet_of (C0.out _) | with_reducible exact Calls.quiet_of (C4.out _))
    clear i0 i4
    go_wp2_with fail
    go_ret3
    exact ⟨by rw [E.out.1, E.out.2.1, E.out.2.2]; rfl, below_drewN (Below.refl _ _) _⟩

/-- What examine tells. -/
def exE (sp : Int) (ky sl mc : ByteArray) (es : Bool) (wn : Int) (q : Nat) (l : List Int) : Nat :=
  if (may sp ky sl mc wn && num es q) = false then 1 else if l.length < 36 then 8 else if formB sp q l = false then 4 else 0
theorem u64_low (q : Nat) (hq : q < 18446744073709551616) : bits .and .u64 (q : Int) 4294967295 = ((loN q : Nat) : Int) := by
  have n64 : ∀ n : Nat, n < 18446744073709551616 → (BitVec.ofInt 64 ((n : Nat) : Int)).toNat = n := fun n hn => by
    rw [BitVec.toNat_ofInt]
    omega
  show IntKind.u64.wrap ((BitVec.ofInt 64 ((q : Nat) : Int) &&& BitVec.ofInt 64 ((4294967295 : Nat) : Int)).toNat : Int) = _
  rw [BitVec.toNat_and, n64 _ hq, n64 _ (by decide)]
  have e : q &&& 4294967295 = q % 4294967296 := Nat.and_two_pow_sub_one_eq_mod q 32
  rw [e]
  exact IntWalk.u64_in _ (by omega)
set_option maxHeartbeats 1000000 in
theorem examine_no (sp : Int) (ky sl mc : ByteArray) (es : Bool) (wn : Int) (q : Nat) (hq : q < 18446744073709551616) (A : Option Addr) (n c : Nat) (l : List Int) (w : World) (B : Nat) (h : Holds w B A n c l) (hB : B ≤ w.heap.size) (hn : n ≤ 1000000) :
    Calls Tryd.prog 25 #[.agg #[.int .i64 sp, .string ky, .string sl, .string mc, .bool es, .int .i64 wn], .int .u64 (q : Int), .slice A n c] w fun e w' => e = .returned (.int .i64 (exE sp ky sl mc es wn q l : Nat)) ∧ Below w.heap.size w w' := by
  have hl := h.1
  have K1 := Lib.hid (Blk.new w 23 #[.int .i64 sp, .string ky, .string sl, .string mc, .bool es, .int .i64 wn])
  have B0 := Lib.hid ((Below.refl w.heap.size w).alloc (Nat.le_refl _) (.cells #[.int .i64 sp, .string ky, .string sl, .string mc, .bool es, .int .i64 wn] 23))
  have CP := Lib.hid (peek_no A n c l (w.alloc (.cells #[.int .i64 sp, .string ky, .string sl, .string mc, .bool es, .int .i64 wn] 23)) B (h.below (B0.out.mono hB)))
  have CC := Lib.hid (counts_no sp ky sl mc es wn q)
  have lo := u64_low q hq
  have lo2 : IntKind.i64.wrap ((loN q : Nat) : Int) = ((loN q : Nat) : Int) := IntWalk.i64_in _ (by unfold loN; omega)
  obtain ⟨r, hr⟩ : ∃ r, r = exE sp ky sl mc es wn q l := ⟨_, rfl⟩
  rw [← hr]
  unfold exE at hr
  rw [hl] at hr
  have FB : formB sp q l = (decide ((n - 16) % 4 = 0) && (decide (num4 l 0 = sp) && decide (num4 l 4 = (loN q : Int)))) := by unfold formB endN; rw [hl]
  rw [FB] at hr
  have PX : Hid (36 ≤ n → peekX l = num4 l 0) := Lib.hid fun z => by unfold peekX; rw [hl, if_neg (by omega)]
  have PY : Hid (36 ≤ n → peekY l = num4 l 4) := Lib.hid fun z => by unfold peekY; rw [hl, if_neg (by omega)]
  generalize peekX l = px at *
  generalize peekY l = py at *
  generalize peekE l = pe at *
  generalize (may sp ky sl mc wn && num es q) = m at *
  clear FB h hB hl hq
  generalize loN q = lw at *
  cases m
  · have E : Hid (r = 1) := Lib.hid (by rw [hr]; rfl)
    clear hr PX PY
    go_enter Tryd.func25, Tryd.ntmps25
    go_wp2_with fail
    refine CP.out.mono ?_
    rintro e w2 ⟨rfl, hb⟩
    have B2 := Lib.hid (B0.out.trans (hb.mono (by simp)))
    have K2 := Lib.hid (Blk.below K1.out hb (Blk.lt K1.out))
    clear hb
    go_wp2_with (refine Loads.wpList_load_w rfl 23 (.tmp 3) rfl w.heap.size rfl 23 #[.int .i64 sp, .string ky, .string sl, .string mc, .bool es, .int .i64 wn] (0, 0) _ (K2.out) Tryd.underlying23 rfl (by kernel_rfl) ?_)
    refine (CC.out _).mono ?_
    rintro e w3 ⟨rfl, hb⟩
    have B3 := Lib.hid (B2.out.trans (hb.mono B2.out.size))
    clear hb
    go_wp2_with fail
    go_ret
    exact ⟨by rw [E.out]; rfl, B3.out⟩
  · go_enter Tryd.func25, Tryd.ntmps25
    go_wp2_with fail
    refine CP.out.mono ?_
    rintro e w2 ⟨rfl, hb⟩
    have B2 := Lib.hid (B0.out.trans (hb.mono (by simp)))
    have K2 := Lib.hid (Blk.below K1.out hb (Blk.lt K1.out))
    clear hb
    go_wp2_with (refine Loads.wpList_load_w rfl 23 (.tmp 3) rfl w.heap.size rfl 23 #[.int .i64 sp, .string ky, .string sl, .string mc, .bool es, .int .i64 wn] (0, 0) _ (K2.out) Tryd.underlying23 rfl (by kernel_rfl) ?_)
    refine (CC.out _).mono ?_
    rintro e w3 ⟨rfl, hb⟩
    have B3 := Lib.hid (B2.out.trans (hb.mono B2.out.size))
    have k0 := (Blk.below K2.out hb (Blk.lt K2.out)).cell 0
    clear hb
    by_cases a1 : n < 36
    · have g1 : decide ((n : Int) < 36) = true := decide_eq_true (by omega)
      have E : Hid (r = 8) := Lib.hid (by rw [hr, if_neg (by decide), if_pos a1])
      clear hr PX PY
      go_wp2_with fail
      go_ret
      exact ⟨by rw [E.out]; rfl, B3.out⟩
    · have g1 : decide ((n : Int) < 36) = false := decide_eq_false (by omega)
      have px0 := PX.out (by omega)
      have py0 := PY.out (by omega)
      obtain ⟨d, hd⟩ : ∃ d, d = n - 32 := ⟨_, rfl⟩
      obtain ⟨s, hs⟩ : ∃ s, s = d % 4 := ⟨_, rfl⟩
      have f1 : IntKind.i64.wrap ((n : Int) - 32) = (d : Int) := by rw [IntWalk.i64_in _ (by omega)]; omega
      have f2 : ((d : Int)).tmod 4 = (s : Int) := by rw [Int.tmod_eq_emod_of_nonneg (by omega), hs]; rfl
      have f3 : IntKind.i64.wrap (s : Int) = (s : Int) := IntWalk.i64_in _ (by omega)
      clear PX PY
      generalize num4 l 0 = x0 at *
      generalize num4 l 4 = x4 at *
      subst px0 py0
      rw [if_neg (by decide), if_neg a1] at hr
      have ns : (n - 16) % 4 = s := by omega
      rw [ns] at hr
      clear hd hs ns a1
      by_cases a2 : s = 0
      · have g2 : ((s : Int) != 0) = false := by simp; omega
        by_cases a3 : px = sp
        · have g3 : (px != sp) = false := by simp [a3]
          by_cases a4 : py = (lw : Int)
          · have g4 : (py != (lw : Int)) = false := by simp [a4]
            have E : Hid (r = 0) := Lib.hid (by rw [hr]; simp [a2, a3, a4])
            clear hr a2 a3 a4
            go_wp2_with fail
            go_ret
            exact ⟨by rw [E.out]; rfl, B3.out⟩
          · have g4 : (py != (lw : Int)) = true := by simp [a4]
            have E : Hid (r = 4) := Lib.hid (by rw [hr]; simp [a2, a3, a4])
            clear hr a2 a3 a4
            go_wp2_with fail
            go_ret
            exact ⟨by rw [E.out]; rfl, B3.out⟩
        · have g3 : (px != sp) = true := by simp [a3]
          have E : Hid (r = 4) := Lib.hid (by rw [hr]; simp [a2, a3])
          clear hr a2 a3
          go_wp2_with fail
          go_ret
          exact ⟨by rw [E.out]; rfl, B3.out⟩
      · have g2 : ((s : Int) != 0) = true := by simp; omega
        have E : Hid (r = 4) := Lib.hid (by rw [hr]; simp [a2])
        clear hr a2
        go_wp2_with fail
        go_ret
        exact ⟨by rw [E.out]; rfl, B3.out⟩
end Go.Proofs.YtdnkbefpbehllaaDoor.Esp2

