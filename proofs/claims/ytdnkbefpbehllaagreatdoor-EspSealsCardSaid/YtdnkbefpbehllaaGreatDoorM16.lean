/- The contract of the document's Keys. -/
import Derived.Test.YtdnkbefpbehllaaGreatDoorM13
import Derived.Test.YtdnkbefpbehllaaGreatDoorM09
import Derived.Test.YtdnkbefpbehllaaGreatDoorM04
import Derived.Test.YtdnkbefpbehllaaGreatDoorM15
import Derived.Test.YtdnkbefpbehllaaGreatDoorM07
set_option linter.unusedVariables false
namespace Go.Proofs.YtdnkbefpbehllaaGreatDoor.AesKy
open Go.RowKit Go.Proofs.YtdnkbefpbehllaaGreatDoor.Sums Go.Proofs.YtdnkbefpbehllaaGreatDoor.Mem Go.Proofs.YtdnkbefpbehllaaGreatDoor.Blk Go.Proofs.YtdnkbefpbehllaaGreatDoor.Bits3 Go.Proofs.YtdnkbefpbehllaaGreatDoor.Ints Go.Proofs.YtdnkbefpbehllaaGreatDoor.Free Go.Proofs.YtdnkbefpbehllaaGreatDoor.Steps Go.Proofs.YtdnkbefpbehllaaGreatDoor.Ops Go.Proofs.YtdnkbefpbehllaaGreatDoor.CutA Go.Proofs.YtdnkbefpbehllaaGreatDoor.AesF Go.Proofs.YtdnkbefpbehllaaGreatDoor.AesB Go.Proofs.YtdnkbefpbehllaaGreatDoor.AesK Go.Proofs.YtdnkbefpbehllaaGreatDoor.AesR Go.Proofs.YtdnkbefpbehllaaGreatDoor.AesR2 Go.Proofs.YtdnkbefpbehllaaGreatDoor.AesR3

theorem ints_app (a b : List Nat) : ints (a ++ b) = ints a ++ ints b := by simp [ints]
theorem getD_app {a b : List Nat} {i : Nat} (h : i < a.length) : (a ++ b).getD i 0 = a.getD i 0 := by
  rw [List.getD_eq_getElem?_getD, List.getD_eq_getElem?_getD, List.getElem?_append_left h]
theorem own_cell {w : World} {base n c g : Nat} {o : List Nat} (h : Owns w base (.slice (some ⟨g, 0, none⟩) n c) n (ints o)) {j : Nat} (hj : j < o.length) : w.cell? ⟨g, j, none⟩ = some (.int .u8 ((o.getD j 0 : Nat) : Int)) := by
  refine h.cell ?_
  unfold ints
  rw [List.getElem?_map, List.getD_eq_getElem?_getD, List.getElem?_eq_getElem hj]
  rfl
theorem own_oth {w : World} {base n q : Nat} {v : Value} {l : List Int} {t : TypeId} {cs : Array Value} (h : Owns w base v n l) (hq : Blk w q t cs) (ht : t ≠ 5) : v.ownBlock ≠ some q := by
  rcases h.2.2 with ⟨rfl, _⟩ | ⟨g, cap, cur, fz, rfl, _, hg, _⟩
  · simp [Value.ownBlock]
  · intro e
    have : g = q := by simpa [Value.ownBlock] using e
    subst this
    unfold Blk at hq
    rw [hg] at hq
    injection hq with e
    injection e with _ e _
    exact ht e.symm
theorem four_is (f : Nat → Nat) : [0, 1, 2, 3].map f = [f 0, f 1, f 2, f 3] := rfl
/-- What stands once k bytes of a word are put behind. -/
def bput (tw : List Nat) (o : List Nat) (b k : Nat) : List Nat := o ++ ([0, 1, 2, 3].map fun i => tw.getD i 0 ^^^ o.getD (b + i) 0).take k
theorem bput_zero (tw o : List Nat) (b : Nat) : bput tw o b 0 = o := by simp [bput]
theorem bput_next (tw o : List Nat) (b : Nat) {k : Nat} (h : k < 4) : bput tw o b (k + 1) = bput tw o b k ++ [tw.getD k 0 ^^^ o.getD (b + k) 0] := by
  rcases (show k = 0 ∨ k = 1 ∨ k = 2 ∨ k = 3 by omega) with rfl | rfl | rfl | rfl <;> simp [bput]
theorem bput_len (tw o : List Nat) (b : Nat) {k : Nat} (h : k ≤ 4) : (bput tw o b k).length = o.length + k := by
  rcases (show k = 0 ∨ k = 1 ∨ k = 2 ∨ k = 3 ∨ k = 4 by omega) with rfl | rfl | rfl | rfl | rfl <;> simp [bput]
theorem bput_byt {tw o : List Nat} (b : Nat) (k : Nat) (ht : Byt tw) (ho : Byt o) : Byt (bput tw o b k) := by
  refine Byt.app ho fun x hx => ?_
  obtain ⟨i, _, rfl⟩ := List.mem_map.1 (List.mem_of_mem_take hx)
  exact xor_lt (ht.get i) (ho.get _)
theorem ent_times : Enters Tryz.prog 67 := enters_of Tryz.func67 (by kernel_rfl) rfl
theorem run_slicei_4 (w : World) (a b c d : Int) : (Instr.buildSlice 78 4 #[(0, .int .i64 a), (1, .int .i64 b), (2, .int .i64 c), (3, .int .i64 d)]).run Tryz.prog w = .ok (.slice (some ⟨w.heap.size, 0, none⟩) 4 4) (w.alloc (.cells #[.int .i64 a, .int .i64 b, .int .i64 c, .int .i64 d] 3)) := by kernel_rfl
theorem st_slicei_4 {o : Oper} {a : Act} {w : World} {K : Act → World → Prop} {Q : Exit → Act → World → Prop} (x1 x2 x3 x4 : Operand) (ho : o.op = .buildSlice 78 4 #[(0, x1), (1, x2), (2, x3), (3, x4)]) (u1 u2 u3 u4 : Int) (h1 : a.eval x1 = .int .i64 u1) (h2 : a.eval x2 = .int .i64 u2) (h3 : a.eval x3 = .int .i64 u3) (h4 : a.eval x4 = .int .i64 u4)
    (hK : K (a.put o.dst (.slice (some ⟨w.heap.size, 0, none⟩) 4 4)) (w.alloc (.cells #[.int .i64 u1, .int .i64 u2, .int .i64 u3, .int .i64 u4] 3))) : Step Tryz.prog o a w K Q := by
  constructor
  have hr : (execOp a.eval o).run Tryz.prog w = .ok (.value (.slice (some ⟨w.heap.size, 0, none⟩) 4 4)) (w.alloc (.cells #[.int .i64 u1, .int .i64 u2, .int .i64 u3, .int .i64 u4] 3)) := by
    simp [execOp, ho, h1, h2, h3, h4, run_slicei_4 w, Result.andThen]
  unfold Oper.wp
  rw [hr]
  exact hK
theorem run_slice8_1 (w : World) (u : Int) : (Instr.buildSlice 25 1 #[(0, .int .u8 u)]).run Tryz.prog w = .ok (.slice (some ⟨w.heap.size, 0, none⟩) 1 1) (w.alloc (.cells #[.int .u8 u] 5)) := by kernel_rfl
theorem st_slice8_1 {o : Oper} {a : Act} {w : World} {K : Act → World → Prop} {Q : Exit → Act → World → Prop} (x1 : Operand) (ho : o.op = .buildSlice 25 1 #[(0, x1)]) (u1 : Int) (h1 : a.eval x1 = .int .u8 u1)
    (hK : K (a.put o.dst (.slice (some ⟨w.heap.size, 0, none⟩) 1 1)) (w.alloc (.cells #[.int .u8 u1] 5))) : Step Tryz.prog o a w K Q := by
  constructor
  have hr : (execOp a.eval o).run Tryz.prog w = .ok (.value (.slice (some ⟨w.heap.size, 0, none⟩) 1 1)) (w.alloc (.cells #[.int .u8 u1] 5)) := by
    simp [execOp, ho, h1, run_slice8_1 w, Result.andThen]
  unfold Oper.wp
  rw [hr]
  exact hK
theorem st_byte_at0 {o : Oper} {a : Act} {w : World} {K : Act → World → Prop} {Q : Exit → Act → World → Prop} (x y : Operand) (ho : o.op = .indexAddr 25 x y)
    (b n c i : Nat) (z : Int) (hx : a.eval x = .slice (some ⟨b, 0, none⟩) n c) (hy : a.eval y = .int .i64 z) (hz : z = (i : Int)) (hi : i < n)
    (h : K (a.put o.dst (.pointer (some ⟨b, i, none⟩))) w) : Step Tryz.prog o a w K Q := by
  subst hz
  have := st_byte_at (w := w) (Q := Q) x y ho b 0 n c i hx hy hi (K := K)
  rw [Nat.zero_add] at this
  exact this h
theorem st_int_at0 {o : Oper} {a : Act} {w : World} {K : Act → World → Prop} {Q : Exit → Act → World → Prop} (x y : Operand) (ho : o.op = .indexAddr 78 x y)
    (b n c i : Nat) (z : Int) (hx : a.eval x = .slice (some ⟨b, 0, none⟩) n c) (hy : a.eval y = .int .i64 z) (hz : z = (i : Int)) (hi : i < n)
    (h : K (a.put o.dst (.pointer (some ⟨b, i, none⟩))) w) : Step Tryz.prog o a w K Q := by
  have := st_int_at (w := w) (Q := Q) x y ho b 0 n c i z hx hy hz hi (K := K)
  rw [Nat.zero_add] at this
  exact this h
theorem b_sub (a b : Int) (x y : Operand) (w : World) (h0 : -9223372036854775808 ≤ a - b) (h1 : a - b ≤ 9223372036854775807) : (do eqGuard .sub 3 x y (.int .i64 a) (.int .i64 b); binOp .sub 3 (.int .i64 a) (.int .i64 b) : Sem Value).run Tryz.prog w = .ok (.int .i64 (a - b)) w := by
  have e : IntKind.i64.wrap (a - b) = a - b := IntWalk.i64_in _ (by omega)
  simp [go_sem, eqGuard, e]

set_option maxHeartbeats 4000000 in
set_option maxRecDepth 100000 in
theorem keys_4 (A : Option Addr) (c : Nat) (ky : List Int) (w : World) (B : Nat) (h : Holds w B A 16 c ky) (hB : B ≤ w.heap.size) :
    Calls Tryz.prog 55 #[.slice A 16 c] w fun e w' => ∃ v, e = .returned v ∧ Owns w' w.heap.size v 176 (ints (keys (nats ky))) ∧ Below w.heap.size w w' := by
  have H := Lib.hid h
  have TT := Lib.hid (table_ref w)
  have K0 : Hid (kgo 4 (44 - 4) 4 1 (nats ky) = keys (nats ky)) := Lib.hid (by unfold keys; rw [nats_len, h.1])
  have KY : Hid (ints (nats ky) = ky ∧ Byt (nats ky) ∧ (nats ky).length = 16) := Lib.hid ⟨ints_nats fun z hz => h.2.2.2.1 z hz, nats_byt h.2.2.2.1, (nats_len ky).trans h.1⟩
  obtain ⟨R, hR⟩ : ∃ R, R = keys (nats ky) := ⟨_, rfl⟩
  rw [← hR] at K0 ⊢
  clear h hR
  go_enter Tryz.func55, Tryz.ntmps55
  go_wp2_with fail
  refine TT.out.mono ?_
  rintro e w1 ⟨rfl, r1, hb⟩
  have B1 := Lib.hid hb
  have R1 := Lib.hid r1
  have H1 := Lib.hid ((H.out.below (hb.mono hB)).more (Nat.le_trans hB hb.size))
  obtain ⟨gx, hgx⟩ : ∃ gx, gx = w.heap.size := ⟨_, rfl⟩
  have GX := Lib.hid hgx
  rw [← hgx] at R1 ⊢
  clear r1 hb TT H hgx
  go_wp2_with fail
  refine (Both.both_lit (B := w1.heap.size) (Nat.le_refl _) [⟨A, 16, c, ky⟩] _ _ rfl (Both.mem1 H1.out) _ 1 rfl rfl (by decide) (by show 16 + 0 ≤ 1048576; decide)).mono ?_
  rintro e w2 ⟨A2, c2, rfl, _, o2, hb⟩
  have e1 : Both.flat [⟨A, 16, c, ky⟩] = ky := by simp [Both.flat]
  have e0 : Both.total [⟨A, 16, c, ky⟩] = 16 := rfl
  rw [e1, e0] at o2
  rw [e0]
  obtain ⟨b1, hb1⟩ : ∃ b1, b1 = w1.heap.size := ⟨_, rfl⟩
  rw [← hb1] at o2 hb
  have O2 : Hid (Owns w2 b1 (.slice A2 16 c2) 16 (ints (nats ky))) := Lib.hid (by rw [KY.out.1]; exact o2)
  have B2 := Lib.hid hb
  have RX : Hid (∀ W : World, Below b1 w1 W → IRow W gx boxes) := Lib.hid fun W hW => R1.out.below hW (by rw [hb1]; exact R1.out.lt)
  have BW : Hid (∀ W : World, Below b1 w1 W → Below w.heap.size w W) := Lib.hid fun W hW => B1.out.trans (hW.mono (by rw [hb1]; exact B1.out.size))
  have GW : Hid (w.heap.size ≤ b1) := Lib.hid (by rw [hb1]; exact B1.out.size)
  have HB1 := Lib.hid hb1
  clear o2 hb e1 e0 hb1 H1 R1 B1
  go_wp2_with fail
  go_loopw [5, 6, 7] (fun ov tv iv wr => ∃ (i m turn : Nat) (ol : List Nat), iv = .int .i64 (i : Int) ∧ tv = .int .i64 (turn : Int) ∧ Hid (m = 4 * i) ∧ Hid (Owns wr b1 ov m (ints ol)) ∧ Hid (Byt ol ∧ ol.length = m) ∧ Hid (turn < 256) ∧ Hid (4 ≤ i ∧ i ≤ 44) ∧ Hid (kgo 4 (44 - i) i turn ol = R) ∧ Hid (Below b1 w1 wr)) (fun _ _ iv _ => 44 - (intOf iv).toNat)
  case atStart => exact ⟨4, 16, 1, nats ky, rfl, rfl, Lib.hid rfl, O2, Lib.hid KY.out.2, Lib.hid (by decide), Lib.hid (by decide), K0, B2⟩
  case round =>
    obtain ⟨i, m, turn, ol, rfl, rfl, HM0, HO1, HOL, TU, HI, HE, HB⟩ := hrel
    clear O2 B2 K0 KY
    have OB := Lib.hid HOL.out.1
    have OL := Lib.hid HOL.out.2
    by_cases hlt : i < 44
    · have hib := HI.out
      have hm0 := HM0.out
      have HSZ : Hid (b1 ≤ wr.heap.size) := Lib.hid (by rw [HB1.out]; exact HB.out.size)
      obtain ⟨Ao, co, rfl, _⟩ := HO1.out.slice
      obtain ⟨go, rfl, _, _⟩ := HO1.out.form (by omega)
      have HO : Hid (Owns wr b1 (.slice (some ⟨go, 0, none⟩) m co) m (ints ol)) := HO1
      obtain ⟨a0, h0⟩ : ∃ a0, a0 = 4 * i - 4 + 0 := ⟨_, rfl⟩
      obtain ⟨a1, h1⟩ : ∃ a1, a1 = 4 * i - 4 + 1 := ⟨_, rfl⟩
      obtain ⟨a2, h2⟩ : ∃ a2, a2 = 4 * i - 4 + 2 := ⟨_, rfl⟩
      obtain ⟨a3, h3⟩ : ∃ a3, a3 = 4 * i - 4 + 3 := ⟨_, rfl⟩
      have q0 : 4 * (i : Int) - 4 = (a0 : Int) := by omega
      have q1 : 4 * (i : Int) - 3 = (a1 : Int) := by omega
      have q2 : 4 * (i : Int) - 2 = (a2 : Int) := by omega
      have q3 : 4 * (i : Int) - 1 = (a3 : Int) := by omega
      have TWD : Hid (tword 4 i turn ol = if i % 4 = 0 then [Box (ol.getD a1 0) ^^^ turn, Box (ol.getD a2 0), Box (ol.getD a3 0), Box (ol.getD a0 0)] else if 4 = 8 ∧ i % 8 = 4 then [Box (ol.getD a0 0), Box (ol.getD a1 0), Box (ol.getD a2 0), Box (ol.getD a3 0)] else [ol.getD a0 0, ol.getD a1 0, ol.getD a2 0, ol.getD a3 0]) := Lib.hid (by rw [h0, h1, h2, h3]; rfl)
      have YC : Hid (∀ w' : World, Below wr.drew.heap.size wr.drew w' → w'.cell? ⟨go, a0, none⟩ = some (.int .u8 ((ol.getD a0 0 : Nat) : Int)) ∧ w'.cell? ⟨go, a1, none⟩ = some (.int .u8 ((ol.getD a1 0 : Nat) : Int)) ∧ w'.cell? ⟨go, a2, none⟩ = some (.int .u8 ((ol.getD a2 0 : Nat) : Int)) ∧ w'.cell? ⟨go, a3, none⟩ = some (.int .u8 ((ol.getD a3 0 : Nat) : Int))) := Lib.hid fun w' hw => by
        have o9 := HO.out.below ((below_drewN (Below.refl wr.heap.size wr) 1).trans hw) (Nat.le_refl _)
        exact ⟨own_cell o9 (by rw [OL.out]; omega), own_cell o9 (by rw [OL.out]; omega), own_cell o9 (by rw [OL.out]; omega), own_cell o9 (by rw [OL.out]; omega)⟩
      have g0 := OB.out.get a0
      have g1 := OB.out.get a1
      have g2 := OB.out.get a2
      have g3 := OB.out.get a3
      generalize ol.getD a0 0 = y0 at *
      generalize ol.getD a1 0 = y1 at *
      generalize ol.getD a2 0 = y2 at *
      generalize ol.getD a3 0 = y3 at *
      have hc1 : decide ((i : Int) < 44) = true := decide_eq_true (by omega)
      have hc2 : ((i : Int) < 44) = True := eq_true (by omega)
      have bq0 : a0 < m := by omega
      have bq1 : a1 < m := by omega
      have bq2 : a2 < m := by omega
      have bq3 : a3 < m := by omega
      have ib : i ≤ 100 := by omega
      have HLT := Lib.hid hlt
      obtain ⟨M, rfl⟩ : ∃ M, M = m := ⟨_, rfl⟩
      obtain ⟨bb, hbb⟩ : ∃ bb, bb = 4 * (i - 4) := ⟨_, rfl⟩
      have HBB := Lib.hid hbb
      have em : (i : Int).tmod 4 = (i : Int) % 4 := Int.tmod_eq_emod_of_nonneg (by omega)
      obtain ⟨r, hr⟩ : ∃ r, r = i % 4 := ⟨_, rfl⟩
      have er : (i : Int).tmod 4 = (r : Int) := by rw [em]; omega
      have hrb : r < 4 := by omega
      rw [← hr] at TWD
      clear h0 h1 h2 h3 hib hm0 hbb hlt HO1 HOL em
      have HRM := Lib.hid hr
      clear hr
      go_wp2_with fail
      clear hc1 hc2
      refine wp_region_free [0, 1, 2, 3, 4, 5, 6, 7, 8, 9, 10, 11, 12, 13, 14, 15, 16, 17, 18, 19, 20, 21, 22, 23, 24, 25, 26, 27] 28 [29] (fun w1 w2 => Below w1.heap.size w1 w2) (fun k' w' v => match k' with
        | 0 => v = .slice (some ⟨go, 0, none⟩) M co
        | 1 => v = .int .i64 ((i : Int))
        | 2 => v = .int .i64 (4 * (i : Int))
        | 3 => v = .int .i64 (4 * (i : Int) - 4)
        | 4 => v = .pointer (some ⟨go, a0, none⟩)
        | 5 => v = .int .u8 ((y0 : Int))
        | 6 => v = .int .i64 ((y0 : Int))
        | 7 => v = .slice (some ⟨go, 0, none⟩) M co
        | 8 => v = .int .i64 ((i : Int))
        | 9 => v = .int .i64 (4 * (i : Int))
        | 10 => v = .int .i64 (4 * (i : Int) - 3)
        | 11 => v = .pointer (some ⟨go, a1, none⟩)
        | 12 => v = .int .u8 ((y1 : Int))
        | 13 => v = .int .i64 ((y1 : Int))
        | 14 => v = .slice (some ⟨go, 0, none⟩) M co
        | 15 => v = .int .i64 ((i : Int))
        | 16 => v = .int .i64 (4 * (i : Int))
        | 17 => v = .int .i64 (4 * (i : Int) - 2)
        | 18 => v = .pointer (some ⟨go, a2, none⟩)
        | 19 => v = .int .u8 ((y2 : Int))
        | 20 => v = .int .i64 ((y2 : Int))
        | 21 => v = .slice (some ⟨go, 0, none⟩) M co
        | 22 => v = .int .i64 ((i : Int))
        | 23 => v = .int .i64 (4 * (i : Int))
        | 24 => v = .int .i64 (4 * (i : Int) - 1)
        | 25 => v = .pointer (some ⟨go, a3, none⟩)
        | 26 => v = .int .u8 ((y3 : Int))
        | _ => v = .int .i64 ((y3 : Int))) (by kernel_rfl) (by kernel_rfl) (Below.refl _ _) (fun _ _ _ h k => h.trans (k.mono h.size)) (fun k' w1 w2 v h => match k' with
        | 0 => fun x => x
        | 1 => fun x => x
        | 2 => fun x => x
        | 3 => fun x => x
        | 4 => fun x => x
        | 5 => fun x => x
        | 6 => fun x => x
        | 7 => fun x => x
        | 8 => fun x => x
        | 9 => fun x => x
        | 10 => fun x => x
        | 11 => fun x => x
        | 12 => fun x => x
        | 13 => fun x => x
        | 14 => fun x => x
        | 15 => fun x => x
        | 16 => fun x => x
        | 17 => fun x => x
        | 18 => fun x => x
        | 19 => fun x => x
        | 20 => fun x => x
        | 21 => fun x => x
        | 22 => fun x => x
        | 23 => fun x => x
        | 24 => fun x => x
        | 25 => fun x => x
        | 26 => fun x => x
        | _ + 27 => fun x => x) (fun _ _ _ _ _ h => h) ?_ _ (by rfl) ?_
      · refine obs_cons (by rfl) (fun vals w' hgr hdep K hK => ?_) (obs_cons (by rfl) (fun vals w' hgr hdep K hK => ?_) (obs_cons (by rfl) (fun vals w' hgr hdep K hK => ?_) (obs_cons (by rfl) (fun vals w' hgr hdep K hK => ?_) (obs_cons (by rfl) (fun vals w' hgr hdep K hK => ?_) (obs_cons (by rfl) (fun vals w' hgr hdep K hK => ?_) (obs_cons (by rfl) (fun vals w' hgr hdep K hK => ?_) (obs_cons (by rfl) (fun vals w' hgr hdep K hK => ?_) (obs_cons (by rfl) (fun vals w' hgr hdep K hK => ?_) (obs_cons (by rfl) (fun vals w' hgr hdep K hK => ?_) (obs_cons (by rfl) (fun vals w' hgr hdep K hK => ?_) (obs_cons (by rfl) (fun vals w' hgr hdep K hK => ?_) (obs_cons (by rfl) (fun vals w' hgr hdep K hK => ?_) (obs_cons (by rfl) (fun vals w' hgr hdep K hK => ?_) (obs_cons (by rfl) (fun vals w' hgr hdep K hK => ?_) (obs_cons (by rfl) (fun vals w' hgr hdep K hK => ?_) (obs_cons (by rfl) (fun vals w' hgr hdep K hK => ?_) (obs_cons (by rfl) (fun vals w' hgr hdep K hK => ?_) (obs_cons (by rfl) (fun vals w' hgr hdep K hK => ?_) (obs_cons (by rfl) (fun vals w' hgr hdep K hK => ?_) (obs_cons (by rfl) (fun vals w' hgr hdep K hK => ?_) (obs_cons (by rfl) (fun vals w' hgr hdep K hK => ?_) (obs_cons (by rfl) (fun vals w' hgr hdep K hK => ?_) (obs_cons (by rfl) (fun vals w' hgr hdep K hK => ?_) (obs_cons (by rfl) (fun vals w' hgr hdep K hK => ?_) (obs_cons (by rfl) (fun vals w' hgr hdep K hK => ?_) (obs_cons (by rfl) (fun vals w' hgr hdep K hK => ?_) (obs_cons (by rfl) (fun vals w' hgr hdep K hK => ?_) (obs_nil))))))))))))))))))))))))))))
        · exact wp_move (.tmp 5) rfl _ (at_out _ (by kernel_rfl) rfl) (hK _ _ (Below.refl _ _) rfl)
        · exact wp_move (.tmp 7) rfl _ (at_out _ (by kernel_rfl) rfl) (hK _ _ (Below.refl _ _) rfl)
        · exact wp_bin (.const (.int .i64 4)) (.tmp 26) rfl _ _ _ rfl ((at_dst 1 (by kernel_rfl)).trans (hdep 1 (by simp) (by kernel_rfl))) (b_mul _ _ _ _ _ (by omega) (by omega)) (hK _ _ (Below.refl _ _) rfl)
        · exact wp_bin (.tmp 27) (.const (.int .i64 4)) rfl _ _ _ ((at_dst 2 (by kernel_rfl)).trans (hdep 2 (by simp) (by kernel_rfl))) rfl (b_sub _ _ _ _ _ (by omega) (by omega)) (hK _ _ (Below.refl _ _) rfl)
        · exact st_byte_at0 (.tmp 25) (.tmp 28) rfl go M co a0 _ ((at_dst 0 (by kernel_rfl)).trans (hdep 0 (by simp) (by kernel_rfl))) ((at_dst 3 (by kernel_rfl)).trans (hdep 3 (by simp) (by kernel_rfl))) q0 (by omega) (hK _ _ (Below.refl _ _) rfl)
        · exact wp_load1 (.tmp 29) rfl ⟨go, a0, none⟩ ((at_dst 4 (by kernel_rfl)).trans (hdep 4 (by simp) (by kernel_rfl))) Tryz.underlying5 rfl _ ((YC.out w' hgr).1) (hK _ _ (Below.refl _ _) rfl)
        · exact wp_conv (.tmp 30) rfl _ _ ((at_dst 5 (by kernel_rfl)).trans (hdep 5 (by simp) (by kernel_rfl))) (conv_int _ _ (by omega) (by omega)) (hK _ _ (Below.refl _ _) rfl)
        · exact wp_move (.tmp 5) rfl _ (at_out _ (by kernel_rfl) rfl) (hK _ _ (Below.refl _ _) rfl)
        · exact wp_move (.tmp 7) rfl _ (at_out _ (by kernel_rfl) rfl) (hK _ _ (Below.refl _ _) rfl)
        · exact wp_bin (.const (.int .i64 4)) (.tmp 33) rfl _ _ _ rfl ((at_dst 8 (by kernel_rfl)).trans (hdep 8 (by simp) (by kernel_rfl))) (b_mul _ _ _ _ _ (by omega) (by omega)) (hK _ _ (Below.refl _ _) rfl)
        · exact wp_bin (.tmp 34) (.const (.int .i64 3)) rfl _ _ _ ((at_dst 9 (by kernel_rfl)).trans (hdep 9 (by simp) (by kernel_rfl))) rfl (b_sub _ _ _ _ _ (by omega) (by omega)) (hK _ _ (Below.refl _ _) rfl)
        · exact st_byte_at0 (.tmp 32) (.tmp 35) rfl go M co a1 _ ((at_dst 7 (by kernel_rfl)).trans (hdep 7 (by simp) (by kernel_rfl))) ((at_dst 10 (by kernel_rfl)).trans (hdep 10 (by simp) (by kernel_rfl))) q1 (by omega) (hK _ _ (Below.refl _ _) rfl)
        · exact wp_load1 (.tmp 36) rfl ⟨go, a1, none⟩ ((at_dst 11 (by kernel_rfl)).trans (hdep 11 (by simp) (by kernel_rfl))) Tryz.underlying5 rfl _ ((YC.out w' hgr).2.1) (hK _ _ (Below.refl _ _) rfl)
        · exact wp_conv (.tmp 37) rfl _ _ ((at_dst 12 (by kernel_rfl)).trans (hdep 12 (by simp) (by kernel_rfl))) (conv_int _ _ (by omega) (by omega)) (hK _ _ (Below.refl _ _) rfl)
        · exact wp_move (.tmp 5) rfl _ (at_out _ (by kernel_rfl) rfl) (hK _ _ (Below.refl _ _) rfl)
        · exact wp_move (.tmp 7) rfl _ (at_out _ (by kernel_rfl) rfl) (hK _ _ (Below.refl _ _) rfl)
        · exact wp_bin (.const (.int .i64 4)) (.tmp 40) rfl _ _ _ rfl ((at_dst 15 (by kernel_rfl)).trans (hdep 15 (by simp) (by kernel_rfl))) (b_mul _ _ _ _ _ (by omega) (by omega)) (hK _ _ (Below.refl _ _) rfl)
        · exact wp_bin (.tmp 41) (.const (.int .i64 2)) rfl _ _ _ ((at_dst 16 (by kernel_rfl)).trans (hdep 16 (by simp) (by kernel_rfl))) rfl (b_sub _ _ _ _ _ (by omega) (by omega)) (hK _ _ (Below.refl _ _) rfl)
        · exact st_byte_at0 (.tmp 39) (.tmp 42) rfl go M co a2 _ ((at_dst 14 (by kernel_rfl)).trans (hdep 14 (by simp) (by kernel_rfl))) ((at_dst 17 (by kernel_rfl)).trans (hdep 17 (by simp) (by kernel_rfl))) q2 (by omega) (hK _ _ (Below.refl _ _) rfl)
        · exact wp_load1 (.tmp 43) rfl ⟨go, a2, none⟩ ((at_dst 18 (by kernel_rfl)).trans (hdep 18 (by simp) (by kernel_rfl))) Tryz.underlying5 rfl _ ((YC.out w' hgr).2.2.1) (hK _ _ (Below.refl _ _) rfl)
        · exact wp_conv (.tmp 44) rfl _ _ ((at_dst 19 (by kernel_rfl)).trans (hdep 19 (by simp) (by kernel_rfl))) (conv_int _ _ (by omega) (by omega)) (hK _ _ (Below.refl _ _) rfl)
        · exact wp_move (.tmp 5) rfl _ (at_out _ (by kernel_rfl) rfl) (hK _ _ (Below.refl _ _) rfl)
        · exact wp_move (.tmp 7) rfl _ (at_out _ (by kernel_rfl) rfl) (hK _ _ (Below.refl _ _) rfl)
        · exact wp_bin (.const (.int .i64 4)) (.tmp 47) rfl _ _ _ rfl ((at_dst 22 (by kernel_rfl)).trans (hdep 22 (by simp) (by kernel_rfl))) (b_mul _ _ _ _ _ (by omega) (by omega)) (hK _ _ (Below.refl _ _) rfl)
        · exact wp_bin (.tmp 48) (.const (.int .i64 1)) rfl _ _ _ ((at_dst 23 (by kernel_rfl)).trans (hdep 23 (by simp) (by kernel_rfl))) rfl (b_sub _ _ _ _ _ (by omega) (by omega)) (hK _ _ (Below.refl _ _) rfl)
        · exact st_byte_at0 (.tmp 46) (.tmp 49) rfl go M co a3 _ ((at_dst 21 (by kernel_rfl)).trans (hdep 21 (by simp) (by kernel_rfl))) ((at_dst 24 (by kernel_rfl)).trans (hdep 24 (by simp) (by kernel_rfl))) q3 (by omega) (hK _ _ (Below.refl _ _) rfl)
        · exact wp_load1 (.tmp 50) rfl ⟨go, a3, none⟩ ((at_dst 25 (by kernel_rfl)).trans (hdep 25 (by simp) (by kernel_rfl))) Tryz.underlying5 rfl _ ((YC.out w' hgr).2.2.2) (hK _ _ (Below.refl _ _) rfl)
        · exact wp_conv (.tmp 51) rfl _ _ ((at_dst 26 (by kernel_rfl)).trans (hdep 26 (by simp) (by kernel_rfl))) (conv_int _ _ (by omega) (by omega)) (hK _ _ (Below.refl _ _) rfl)
      · intro vals w' hgr hG
        refine st_slicei_4 (.tmp 31) (.tmp 38) (.tmp 45) (.tmp 52) rfl (y0 : Int) (y1 : Int) (y2 : Int) (y3 : Int) ((at_dst 6 (by kernel_rfl)).trans (hG 6 (by simp))) ((at_dst 13 (by kernel_rfl)).trans (hG 13 (by simp))) ((at_dst 20 (by kernel_rfl)).trans (hG 20 (by simp))) ((at_dst 27 (by kernel_rfl)).trans (hG 27 (by simp))) ?_
        refine wpAnyH_next 29 _ rfl rfl (by kernel_rfl) (st_assign (.tmp 53) _ rfl (put_tmps_eq (fill_size _ _ _) (by kernel_rfl)) ⟨trivial, wpAnyH_done (by kernel_rfl) ?_ _⟩)
        have GB := ((below_drewN (Below.refl wr.heap.size wr) 1).trans hgr)
        have HBW : b1 ≤ w'.heap.size := Nat.le_trans HSZ.out GB.size
        have OX : Hid (Owns (w'.alloc (.cells #[.int .i64 (y0 : Int), .int .i64 (y1 : Int), .int .i64 (y2 : Int), .int .i64 (y3 : Int)] 3)) b1 (.slice (some ⟨go, 0, none⟩) M co) M (ints ol)) := Lib.hid ((HO.out.below GB (Nat.le_refl _)).alloc _)
        have CX : Hid (IRow (w'.alloc (.cells #[.int .i64 (y0 : Int), .int .i64 (y1 : Int), .int .i64 (y2 : Int), .int .i64 (y3 : Int)] 3)) w'.heap.size [y0, y1, y2, y3]) := Lib.hid (IRow.new w' [y0, y1, y2, y3])
        have BX : Hid (Below b1 w1 (w'.alloc (.cells #[.int .i64 (y0 : Int), .int .i64 (y1 : Int), .int .i64 (y2 : Int), .int .i64 (y3 : Int)] 3))) := Lib.hid ((HB.out.trans (GB.mono HSZ.out)).alloc HBW _)
        have SX : Hid (b1 ≤ (w'.alloc (.cells #[.int .i64 (y0 : Int), .int .i64 (y1 : Int), .int .i64 (y2 : Int), .int .i64 (y3 : Int)] 3)).heap.size) := Lib.hid (Nat.le_trans HBW (by simp))
        obtain ⟨gw, hgw⟩ : ∃ gw, gw = w'.heap.size := ⟨_, rfl⟩
        clear hG hgr GB HBW YC HO HB
        simp only [fill, dstAt, List.getElem?_cons_zero, List.getElem?_cons_succ, Option.bind_some, Act.put, List.setIfInBounds_toArray, List.set_cons_zero, List.set_cons_succ]
        generalize w'.alloc (.cells #[.int .i64 (y0 : Int), .int .i64 (y1 : Int), .int .i64 (y2 : Int), .int .i64 (y3 : Int)] 3) = w9 at *
        rw [← hgw] at CX ⊢
        clear hgw
        generalize vals 0 = v0, vals 1 = v1, vals 2 = v2, vals 3 = v3, vals 4 = v4, vals 5 = v5, vals 6 = v6, vals 7 = v7, vals 8 = v8, vals 9 = v9, vals 10 = v10, vals 11 = v11, vals 12 = v12, vals 13 = v13, vals 14 = v14, vals 15 = v15, vals 16 = v16, vals 17 = v17, vals 18 = v18, vals 19 = v19, vals 20 = v20, vals 21 = v21, vals 22 = v22, vals 23 = v23, vals 24 = v24, vals 25 = v25, vals 26 = v26, vals 27 = v27
        have HSZ := SX
        by_cases q : r = 0
        · subst q
          have TWE0 := TWD.out
          rw [if_pos rfl] at TWE0
          have WC : Hid (∀ w' : World, Below w9.drew.heap.size w9.drew w' → w'.cell? ⟨gw, 0, none⟩ = some (.int .i64 (y0 : Int)) ∧ w'.cell? ⟨gw, 1, none⟩ = some (.int .i64 (y1 : Int)) ∧ w'.cell? ⟨gw, 2, none⟩ = some (.int .i64 (y2 : Int)) ∧ w'.cell? ⟨gw, 3, none⟩ = some (.int .i64 (y3 : Int))) := Lib.hid fun w' hw => by
            have r : IRow w' gw [y0, y1, y2, y3] := IRow.up (show IRow w9.drew gw [y0, y1, y2, y3] from CX.out) hw
            exact ⟨r.cell 0 (by simp), r.cell 1 (by simp), r.cell 2 (by simp), r.cell 3 (by simp)⟩
          have ZC : Hid (∀ w' : World, Below w9.drew.heap.size w9.drew w' → w'.cell? ⟨gx, y0, none⟩ = some (.int .i64 ((Box y0 : Nat) : Int)) ∧ w'.cell? ⟨gx, y1, none⟩ = some (.int .i64 ((Box y1 : Nat) : Int)) ∧ w'.cell? ⟨gx, y2, none⟩ = some (.int .i64 ((Box y2 : Nat) : Int)) ∧ w'.cell? ⟨gx, y3, none⟩ = some (.int .i64 ((Box y3 : Nat) : Int))) := Lib.hid fun w' hw => by
            have r := RX.out w' (BX.out.trans (((below_drewN (Below.refl w9.heap.size w9) 1).trans hw).mono SX.out))
            have c0 := r.cell y0 (by rw [boxes_len]; exact g0)
            have c1 := r.cell y1 (by rw [boxes_len]; exact g1)
            have c2 := r.cell y2 (by rw [boxes_len]; exact g2)
            have c3 := r.cell y3 (by rw [boxes_len]; exact g3)
            rw [boxes_get g0] at c0
            rw [boxes_get g1] at c1
            rw [boxes_get g2] at c2
            rw [boxes_get g3] at c3
            exact ⟨c0, c1, c2, c3⟩
          have hq1 := TU.out
          have m0 := Box_lt g0
          have m1 := Box_lt g1
          have m2 := Box_lt g2
          have m3 := Box_lt g3
          generalize Box y0 = z0 at *
          generalize Box y1 = z1 at *
          generalize Box y2 = z2 at *
          generalize Box y3 = z3 at *
          have mt := xor_lt m1 hq1
          obtain ⟨zt, hzt⟩ : ∃ zt, zt = z1 ^^^ turn := ⟨_, rfl⟩
          have ZT : Hid (bits .xor .i64 (z1 : Int) (turn : Int) = (zt : Int)) := Lib.hid (by rw [i64_xor (by omega) (by omega), hzt])
          rw [← hzt] at TWE0 mt
          have TWE := Lib.hid TWE0
          clear TWE0 TWD hzt hq1
          go_wp2_with fail
          refine wp_region_free [0, 1, 2, 3, 4, 5, 6, 7, 8, 9, 10, 11, 12, 13, 14, 15, 16, 17, 18, 19, 20, 21, 22, 23, 24, 25] 26 [27] (fun w1 w2 => Below w1.heap.size w1 w2) (fun k' w' v => match k' with
            | 0 => v = .slice (some ⟨gx, 0, none⟩) 256 256
            | 1 => v = .slice (some ⟨gw, 0, none⟩) 4 4
            | 2 => v = .pointer (some ⟨gw, 1, none⟩)
            | 3 => v = .int .i64 ((y1 : Int))
            | 4 => v = .pointer (some ⟨gx, y1, none⟩)
            | 5 => v = .int .i64 ((z1 : Int))
            | 6 => v = .int .i64 ((turn : Int))
            | 7 => v = .int .i64 ((zt : Int))
            | 8 => v = .slice (some ⟨gx, 0, none⟩) 256 256
            | 9 => v = .slice (some ⟨gw, 0, none⟩) 4 4
            | 10 => v = .pointer (some ⟨gw, 2, none⟩)
            | 11 => v = .int .i64 ((y2 : Int))
            | 12 => v = .pointer (some ⟨gx, y2, none⟩)
            | 13 => v = .int .i64 ((z2 : Int))
            | 14 => v = .slice (some ⟨gx, 0, none⟩) 256 256
            | 15 => v = .slice (some ⟨gw, 0, none⟩) 4 4
            | 16 => v = .pointer (some ⟨gw, 3, none⟩)
            | 17 => v = .int .i64 ((y3 : Int))
            | 18 => v = .pointer (some ⟨gx, y3, none⟩)
            | 19 => v = .int .i64 ((z3 : Int))
            | 20 => v = .slice (some ⟨gx, 0, none⟩) 256 256
            | 21 => v = .slice (some ⟨gw, 0, none⟩) 4 4
            | 22 => v = .pointer (some ⟨gw, 0, none⟩)
            | 23 => v = .int .i64 ((y0 : Int))
            | 24 => v = .pointer (some ⟨gx, y0, none⟩)
            | _ => v = .int .i64 ((z0 : Int))) (by kernel_rfl) (by kernel_rfl) (Below.refl _ _) (fun _ _ _ h k => h.trans (k.mono h.size)) (fun k' w1 w2 v h => match k' with
            | 0 => fun x => x
            | 1 => fun x => x
            | 2 => fun x => x
            | 3 => fun x => x
            | 4 => fun x => x
            | 5 => fun x => x
            | 6 => fun x => x
            | 7 => fun x => x
            | 8 => fun x => x
            | 9 => fun x => x
            | 10 => fun x => x
            | 11 => fun x => x
            | 12 => fun x => x
            | 13 => fun x => x
            | 14 => fun x => x
            | 15 => fun x => x
            | 16 => fun x => x
            | 17 => fun x => x
            | 18 => fun x => x
            | 19 => fun x => x
            | 20 => fun x => x
            | 21 => fun x => x
            | 22 => fun x => x
            | 23 => fun x => x
            | 24 => fun x => x
            | _ + 25 => fun x => x) (fun _ _ _ _ _ h => h) ?_ _ (by rfl) ?_
          · refine obs_cons (by rfl) (fun vals w' hgr hdep K hK => ?_) (obs_cons (by rfl) (fun vals w' hgr hdep K hK => ?_) (obs_cons (by rfl) (fun vals w' hgr hdep K hK => ?_) (obs_cons (by rfl) (fun vals w' hgr hdep K hK => ?_) (obs_cons (by rfl) (fun vals w' hgr hdep K hK => ?_) (obs_cons (by rfl) (fun vals w' hgr hdep K hK => ?_) (obs_cons (by rfl) (fun vals w' hgr hdep K hK => ?_) (obs_cons (by rfl) (fun vals w' hgr hdep K hK => ?_) (obs_cons (by rfl) (fun vals w' hgr hdep K hK => ?_) (obs_cons (by rfl) (fun vals w' hgr hdep K hK => ?_) (obs_cons (by rfl) (fun vals w' hgr hdep K hK => ?_) (obs_cons (by rfl) (fun vals w' hgr hdep K hK => ?_) (obs_cons (by rfl) (fun vals w' hgr hdep K hK => ?_) (obs_cons (by rfl) (fun vals w' hgr hdep K hK => ?_) (obs_cons (by rfl) (fun vals w' hgr hdep K hK => ?_) (obs_cons (by rfl) (fun vals w' hgr hdep K hK => ?_) (obs_cons (by rfl) (fun vals w' hgr hdep K hK => ?_) (obs_cons (by rfl) (fun vals w' hgr hdep K hK => ?_) (obs_cons (by rfl) (fun vals w' hgr hdep K hK => ?_) (obs_cons (by rfl) (fun vals w' hgr hdep K hK => ?_) (obs_cons (by rfl) (fun vals w' hgr hdep K hK => ?_) (obs_cons (by rfl) (fun vals w' hgr hdep K hK => ?_) (obs_cons (by rfl) (fun vals w' hgr hdep K hK => ?_) (obs_cons (by rfl) (fun vals w' hgr hdep K hK => ?_) (obs_cons (by rfl) (fun vals w' hgr hdep K hK => ?_) (obs_cons (by rfl) (fun vals w' hgr hdep K hK => ?_) (obs_nil))))))))))))))))))))))))))
            · exact wp_move (.tmp 3) rfl _ (at_out _ (by kernel_rfl) rfl) (hK _ _ (Below.refl _ _) rfl)
            · exact wp_move (.tmp 8) rfl _ (at_out _ (by kernel_rfl) rfl) (hK _ _ (Below.refl _ _) rfl)
            · exact st_int_at0 (.tmp 59) (.const (.int .i64 1)) rfl gw 4 4 1 _ ((at_dst 1 (by kernel_rfl)).trans (hdep 1 (by simp) (by kernel_rfl))) rfl rfl (by decide) (hK _ _ (Below.refl _ _) rfl)
            · exact wp_load1 (.tmp 60) rfl ⟨gw, 1, none⟩ ((at_dst 2 (by kernel_rfl)).trans (hdep 2 (by simp) (by kernel_rfl))) Tryz.underlying3 rfl _ ((WC.out w' hgr).2.1) (hK _ _ (Below.refl _ _) rfl)
            · exact st_int_at0 (.tmp 58) (.tmp 61) rfl gx 256 256 y1 _ ((at_dst 0 (by kernel_rfl)).trans (hdep 0 (by simp) (by kernel_rfl))) ((at_dst 3 (by kernel_rfl)).trans (hdep 3 (by simp) (by kernel_rfl))) rfl (by omega) (hK _ _ (Below.refl _ _) rfl)
            · exact wp_load1 (.tmp 62) rfl ⟨gx, y1, none⟩ ((at_dst 4 (by kernel_rfl)).trans (hdep 4 (by simp) (by kernel_rfl))) Tryz.underlying3 rfl _ ((ZC.out w' hgr).2.1) (hK _ _ (Below.refl _ _) rfl)
            · exact wp_move (.tmp 6) rfl _ (at_out _ (by kernel_rfl) rfl) (hK _ _ (Below.refl _ _) rfl)
            · exact wp_bin (.tmp 63) (.tmp 64) rfl _ _ _ ((at_dst 5 (by kernel_rfl)).trans (hdep 5 (by simp) (by kernel_rfl))) ((at_dst 6 (by kernel_rfl)).trans (hdep 6 (by simp) (by kernel_rfl))) (b_xor _ _ _ _ _ _ ZT.out) (hK _ _ (Below.refl _ _) rfl)
            · exact wp_move (.tmp 3) rfl _ (at_out _ (by kernel_rfl) rfl) (hK _ _ (Below.refl _ _) rfl)
            · exact wp_move (.tmp 8) rfl _ (at_out _ (by kernel_rfl) rfl) (hK _ _ (Below.refl _ _) rfl)
            · exact st_int_at0 (.tmp 67) (.const (.int .i64 2)) rfl gw 4 4 2 _ ((at_dst 9 (by kernel_rfl)).trans (hdep 9 (by simp) (by kernel_rfl))) rfl rfl (by decide) (hK _ _ (Below.refl _ _) rfl)
            · exact wp_load1 (.tmp 68) rfl ⟨gw, 2, none⟩ ((at_dst 10 (by kernel_rfl)).trans (hdep 10 (by simp) (by kernel_rfl))) Tryz.underlying3 rfl _ ((WC.out w' hgr).2.2.1) (hK _ _ (Below.refl _ _) rfl)
            · exact st_int_at0 (.tmp 66) (.tmp 69) rfl gx 256 256 y2 _ ((at_dst 8 (by kernel_rfl)).trans (hdep 8 (by simp) (by kernel_rfl))) ((at_dst 11 (by kernel_rfl)).trans (hdep 11 (by simp) (by kernel_rfl))) rfl (by omega) (hK _ _ (Below.refl _ _) rfl)
            · exact wp_load1 (.tmp 70) rfl ⟨gx, y2, none⟩ ((at_dst 12 (by kernel_rfl)).trans (hdep 12 (by simp) (by kernel_rfl))) Tryz.underlying3 rfl _ ((ZC.out w' hgr).2.2.1) (hK _ _ (Below.refl _ _) rfl)
            · exact wp_move (.tmp 3) rfl _ (at_out _ (by kernel_rfl) rfl) (hK _ _ (Below.refl _ _) rfl)
            · exact wp_move (.tmp 8) rfl _ (at_out _ (by kernel_rfl) rfl) (hK _ _ (Below.refl _ _) rfl)
            · exact st_int_at0 (.tmp 73) (.const (.int .i64 3)) rfl gw 4 4 3 _ ((at_dst 15 (by kernel_rfl)).trans (hdep 15 (by simp) (by kernel_rfl))) rfl rfl (by decide) (hK _ _ (Below.refl _ _) rfl)
            · exact wp_load1 (.tmp 74) rfl ⟨gw, 3, none⟩ ((at_dst 16 (by kernel_rfl)).trans (hdep 16 (by simp) (by kernel_rfl))) Tryz.underlying3 rfl _ ((WC.out w' hgr).2.2.2) (hK _ _ (Below.refl _ _) rfl)
            · exact st_int_at0 (.tmp 72) (.tmp 75) rfl gx 256 256 y3 _ ((at_dst 14 (by kernel_rfl)).trans (hdep 14 (by simp) (by kernel_rfl))) ((at_dst 17 (by kernel_rfl)).trans (hdep 17 (by simp) (by kernel_rfl))) rfl (by omega) (hK _ _ (Below.refl _ _) rfl)
            · exact wp_load1 (.tmp 76) rfl ⟨gx, y3, none⟩ ((at_dst 18 (by kernel_rfl)).trans (hdep 18 (by simp) (by kernel_rfl))) Tryz.underlying3 rfl _ ((ZC.out w' hgr).2.2.2) (hK _ _ (Below.refl _ _) rfl)
            · exact wp_move (.tmp 3) rfl _ (at_out _ (by kernel_rfl) rfl) (hK _ _ (Below.refl _ _) rfl)
            · exact wp_move (.tmp 8) rfl _ (at_out _ (by kernel_rfl) rfl) (hK _ _ (Below.refl _ _) rfl)
            · exact st_int_at0 (.tmp 79) (.const (.int .i64 0)) rfl gw 4 4 0 _ ((at_dst 21 (by kernel_rfl)).trans (hdep 21 (by simp) (by kernel_rfl))) rfl rfl (by decide) (hK _ _ (Below.refl _ _) rfl)
            · exact wp_load1 (.tmp 80) rfl ⟨gw, 0, none⟩ ((at_dst 22 (by kernel_rfl)).trans (hdep 22 (by simp) (by kernel_rfl))) Tryz.underlying3 rfl _ ((WC.out w' hgr).1) (hK _ _ (Below.refl _ _) rfl)
            · exact st_int_at0 (.tmp 78) (.tmp 81) rfl gx 256 256 y0 _ ((at_dst 20 (by kernel_rfl)).trans (hdep 20 (by simp) (by kernel_rfl))) ((at_dst 23 (by kernel_rfl)).trans (hdep 23 (by simp) (by kernel_rfl))) rfl (by omega) (hK _ _ (Below.refl _ _) rfl)
            · exact wp_load1 (.tmp 82) rfl ⟨gx, y0, none⟩ ((at_dst 24 (by kernel_rfl)).trans (hdep 24 (by simp) (by kernel_rfl))) Tryz.underlying3 rfl _ ((ZC.out w' hgr).1) (hK _ _ (Below.refl _ _) rfl)
          · intro vals w' hgr hG
            refine st_slicei_4 (.tmp 65) (.tmp 71) (.tmp 77) (.tmp 83) rfl (zt : Int) (z2 : Int) (z3 : Int) (z0 : Int) ((at_dst 7 (by kernel_rfl)).trans (hG 7 (by simp))) ((at_dst 13 (by kernel_rfl)).trans (hG 13 (by simp))) ((at_dst 19 (by kernel_rfl)).trans (hG 19 (by simp))) ((at_dst 25 (by kernel_rfl)).trans (hG 25 (by simp))) ?_
            refine wpAnyH_next 27 _ rfl rfl (by kernel_rfl) (st_assign (.tmp 84) _ rfl (put_tmps_eq (fill_size _ _ _) (by kernel_rfl)) ⟨trivial, wpAnyH_done (by kernel_rfl) ?_ _⟩)
            have GB := ((below_drewN (Below.refl w9.heap.size w9) 1).trans hgr)
            have HBW : b1 ≤ w'.heap.size := Nat.le_trans HSZ.out GB.size
            have HO2 : Hid (Owns (w'.alloc (.cells #[.int .i64 (zt : Int), .int .i64 (z2 : Int), .int .i64 (z3 : Int), .int .i64 (z0 : Int)] 3)) b1 (.slice (some ⟨go, 0, none⟩) M co) M (ints ol)) := Lib.hid ((OX.out.below GB (Nat.le_refl _)).alloc _)
            have CW : Hid (IRow (w'.alloc (.cells #[.int .i64 (zt : Int), .int .i64 (z2 : Int), .int .i64 (z3 : Int), .int .i64 (z0 : Int)] 3)) w'.heap.size [zt, z2, z3, z0]) := Lib.hid (IRow.new w' [zt, z2, z3, z0])
            have HB2 : Hid (Below b1 w1 (w'.alloc (.cells #[.int .i64 (zt : Int), .int .i64 (z2 : Int), .int .i64 (z3 : Int), .int .i64 (z0 : Int)] 3))) := Lib.hid ((BX.out.trans (GB.mono SX.out)).alloc HBW _)
            have SX2 : Hid (b1 ≤ (w'.alloc (.cells #[.int .i64 (zt : Int), .int .i64 (z2 : Int), .int .i64 (z3 : Int), .int .i64 (z0 : Int)] 3)).heap.size) := Lib.hid (Nat.le_trans HBW (by simp))
            obtain ⟨gv, hgw⟩ : ∃ gw, gw = w'.heap.size := ⟨_, rfl⟩
            clear hG hgr GB HBW WC ZC OX BX CX
            simp only [fill, dstAt, List.getElem?_cons_zero, List.getElem?_cons_succ, Option.bind_some, Act.put, List.setIfInBounds_toArray, List.set_cons_zero, List.set_cons_succ]
            generalize w'.alloc (.cells #[.int .i64 (zt : Int), .int .i64 (z2 : Int), .int .i64 (z3 : Int), .int .i64 (z0 : Int)] 3) = wa at *
            rw [← hgw] at CW ⊢
            clear hgw
            generalize vals 0 = p0, vals 1 = p1, vals 2 = p2, vals 3 = p3, vals 4 = p4, vals 5 = p5, vals 6 = p6, vals 7 = p7, vals 8 = p8, vals 9 = p9, vals 10 = p10, vals 11 = p11, vals 12 = p12, vals 13 = p13, vals 14 = p14, vals 15 = p15, vals 16 = p16, vals 17 = p17, vals 18 = p18, vals 19 = p19, vals 20 = p20, vals 21 = p21, vals 22 = p22, vals 23 = p23, vals 24 = p24, vals 25 = p25
            obtain ⟨gw, hgv⟩ : ∃ gw, gw = gv := ⟨_, rfl⟩
            rw [← hgv] at CW ⊢
            clear hgv
            go_wp2_with fail
            refine (times_ref turn 2 TU.out (by decide) _).mono ?_
            rintro e wt ⟨rfl, rfl⟩
            have TU2 : Hid (T turn 2 < 256) := Lib.hid (T_lt TU.out 2)
            have NTU : Hid (nturn 4 i turn = T turn 2) := Lib.hid (by unfold nturn; rw [if_pos HRM.out.symm])
            obtain ⟨tu2, htu⟩ : ∃ tu2, tu2 = T turn 2 := ⟨_, rfl⟩
            rw [← htu] at TU2 NTU ⊢
            clear htu
            obtain ⟨tw, htw⟩ : ∃ tw, tw = [zt, z2, z3, z0] := ⟨_, rfl⟩
            rw [← htw] at CW
            have TW : Hid (tword 4 i turn ol = tw) := Lib.hid (by rw [htw]; exact TWE.out)
            have TB : Hid (Byt tw) := Lib.hid (by
              rw [htw]; intro z hz
              simp only [List.mem_cons, List.not_mem_nil, or_false] at hz
              rcases hz with rfl | rfl | rfl | rfl
              · exact mt
              · exact m2
              · exact m3
              · exact m0)
            have TL : Hid (tw.length = 4) := Lib.hid (by rw [htw]; rfl)
            clear htw TWE
            go_wp2_with fail
            go_loopw [5, 9] (fun ov kv wr => ∃ k m : Nat, kv = .int .i64 (k : Int) ∧ k ≤ 4 ∧ Hid (m = M + k) ∧ Hid (Owns wr b1 ov m (ints (bput tw ol bb k))) ∧ Hid (IRow wr gw tw) ∧ Hid (Below b1 w1 wr)) (fun _ kv _ => 4 - (intOf kv).toNat)
            case atStart => exact ⟨0, M, rfl, by omega, Lib.hid rfl, Lib.hid (by rw [bput_zero]; exact HO2.out), CW, HB2⟩
            case round =>
              obtain ⟨k, m, rfl, hk, HMK, HO3, HW, HB⟩ := hrel
              clear HO2 CW HB2
              by_cases hk4 : k < 4
              · have hb1 : b1 ≤ wr.heap.size := by rw [HB1.out]; exact HB.out.size
                have hib := HI.out
                have hmm := HM0.out
                have hmk := HMK.out
                obtain ⟨Ao, co, rfl, _⟩ := HO3.out.slice
                obtain ⟨go, rfl, _, _⟩ := HO3.out.form (by omega)
                have HO : Hid (Owns wr b1 (.slice (some ⟨go, 0, none⟩) m co) m (ints (bput tw ol bb k))) := HO3
                obtain ⟨bi, hbi0⟩ : ∃ bi, bi = bb + k := ⟨_, rfl⟩
                have hbb := HBB.out
                have hol := OL.out
                have hbi : bi < m := by omega
                have qb : 4 * ((i : Int) - 4) + (k : Int) = (bi : Int) := by omega
                have bx := TB.out.get k
                have by_ := (OB.out).get bi
                have PN0 := bput_next tw ol bb hk4
                rw [← hbi0] at PN0
                have XC : Hid (∀ w' : World, Below wr.drew.heap.size wr.drew w' → w'.cell? ⟨gw, k, none⟩ = some (.int .i64 ((tw.getD k 0 : Nat) : Int)) ∧ w'.cell? ⟨go, bi, none⟩ = some (.int .u8 ((ol.getD bi 0 : Nat) : Int))) := Lib.hid fun w' hw => by
                  have r : IRow w' gw tw := IRow.up (show IRow wr.drew gw tw from HW.out) hw
                  have o9 := HO.out.below ((below_drewN (Below.refl wr.heap.size wr) 1).trans hw) (Nat.le_refl _)
                  have c9 := own_cell o9 (j := bi) (by rw [bput_len _ _ _ hk]; omega)
                  rw [show (bput tw ol bb k).getD bi 0 = ol.getD bi 0 from getD_app (by omega)] at c9
                  exact ⟨r.cell k (by rw [TL.out]; exact hk4), c9⟩
                have HM2 : Hid (m + 1 = M + (k + 1)) := Lib.hid (by omega)
                generalize tw.getD k 0 = x at *
                generalize ol.getD bi 0 = y at *
                have bxy := xor_lt bx by_
                obtain ⟨b, hbx⟩ : ∃ b, b = x ^^^ y := ⟨_, rfl⟩
                have XB : Hid (bits .xor .i64 (x : Int) (y : Int) = (b : Int)) := Lib.hid (by rw [i64_xor (by omega) (by omega), hbx])
                rw [← hbx] at PN0 bxy
                have PN := Lib.hid PN0
                have ib : i ≤ 100 := by omega
                have mb : m ≤ 1000 := by omega
                clear hbi0 PN0 hbx hmk hbb hol hib hmm
                go_wp2_with fail
                refine wp_region_free [0, 1, 2, 3, 4, 5, 6, 7, 8, 9, 10, 11, 12, 13, 14, 15, 16, 17] 18 [19] (fun w1 w2 => Below w1.heap.size w1 w2) (fun k' w' v => match k' with
                  | 0 => v = .slice (some ⟨go, 0, none⟩) m co
                  | 1 => v = .slice (some ⟨gw, 0, none⟩) 4 4
                  | 2 => v = .int .i64 ((k : Int))
                  | 3 => v = .pointer (some ⟨gw, k, none⟩)
                  | 4 => v = .int .i64 ((x : Int))
                  | 5 => v = .slice (some ⟨go, 0, none⟩) m co
                  | 6 => v = .int .i64 ((i : Int))
                  | 7 => v = .int .i64 4
                  | 8 => v = .int .i64 ((i : Int) - 4)
                  | 9 => v = .int .i64 (4 * ((i : Int) - 4))
                  | 10 => v = .int .i64 ((k : Int))
                  | 11 => v = .int .i64 (4 * ((i : Int) - 4) + ((k : Int)))
                  | 12 => v = .pointer (some ⟨go, bi, none⟩)
                  | 13 => v = .int .u8 ((y : Int))
                  | 14 => v = .int .i64 ((y : Int))
                  | 15 => v = .int .i64 ((b : Int))
                  | 16 => v = .int .u8 ((b : Int))
                  | _ => ∃ A1, v = .slice A1 1 1 ∧ Holds w' w'.heap.size A1 1 1 [(b : Int)]) (by kernel_rfl) (by kernel_rfl) (Below.refl _ _) (fun _ _ _ h k => h.trans (k.mono h.size)) (fun k' w1 w2 v h => match k' with
                  | 0 => fun x => x
                  | 1 => fun x => x
                  | 2 => fun x => x
                  | 3 => fun x => x
                  | 4 => fun x => x
                  | 5 => fun x => x
                  | 6 => fun x => x
                  | 7 => fun x => x
                  | 8 => fun x => x
                  | 9 => fun x => x
                  | 10 => fun x => x
                  | 11 => fun x => x
                  | 12 => fun x => x
                  | 13 => fun x => x
                  | 14 => fun x => x
                  | 15 => fun x => x
                  | 16 => fun x => x
                  | _ + 17 => fun ⟨A1, e, x⟩ => ⟨A1, e, (x.below h).more h.size⟩) (fun _ _ _ _ _ h => h) ?_ _ (by rfl) ?_
                · refine obs_cons (by rfl) (fun vals w' hgr hdep K hK => ?_) (obs_cons (by rfl) (fun vals w' hgr hdep K hK => ?_) (obs_cons (by rfl) (fun vals w' hgr hdep K hK => ?_) (obs_cons (by rfl) (fun vals w' hgr hdep K hK => ?_) (obs_cons (by rfl) (fun vals w' hgr hdep K hK => ?_) (obs_cons (by rfl) (fun vals w' hgr hdep K hK => ?_) (obs_cons (by rfl) (fun vals w' hgr hdep K hK => ?_) (obs_cons (by rfl) (fun vals w' hgr hdep K hK => ?_) (obs_cons (by rfl) (fun vals w' hgr hdep K hK => ?_) (obs_cons (by rfl) (fun vals w' hgr hdep K hK => ?_) (obs_cons (by rfl) (fun vals w' hgr hdep K hK => ?_) (obs_cons (by rfl) (fun vals w' hgr hdep K hK => ?_) (obs_cons (by rfl) (fun vals w' hgr hdep K hK => ?_) (obs_cons (by rfl) (fun vals w' hgr hdep K hK => ?_) (obs_cons (by rfl) (fun vals w' hgr hdep K hK => ?_) (obs_cons (by rfl) (fun vals w' hgr hdep K hK => ?_) (obs_cons (by rfl) (fun vals w' hgr hdep K hK => ?_) (obs_cons (by rfl) (fun vals w' hgr hdep K hK => ?_) (obs_nil))))))))))))))))))
                  · exact wp_move (.tmp 5) rfl _ (at_out _ (by kernel_rfl) rfl) (hK _ _ (Below.refl _ _) rfl)
                  · exact wp_move (.tmp 8) rfl _ (at_out _ (by kernel_rfl) rfl) (hK _ _ (Below.refl _ _) rfl)
                  · exact wp_move (.tmp 9) rfl _ (at_out _ (by kernel_rfl) rfl) (hK _ _ (Below.refl _ _) rfl)
                  · exact st_int_at0 (.tmp 124) (.tmp 125) rfl gw 4 4 k _ ((at_dst 1 (by kernel_rfl)).trans (hdep 1 (by simp) (by kernel_rfl))) ((at_dst 2 (by kernel_rfl)).trans (hdep 2 (by simp) (by kernel_rfl))) rfl hk4 (hK _ _ (Below.refl _ _) rfl)
                  · exact wp_load1 (.tmp 126) rfl ⟨gw, k, none⟩ ((at_dst 3 (by kernel_rfl)).trans (hdep 3 (by simp) (by kernel_rfl))) Tryz.underlying3 rfl _ ((XC.out w' hgr).1) (hK _ _ (Below.refl _ _) rfl)
                  · exact wp_move (.tmp 5) rfl _ (at_out _ (by kernel_rfl) rfl) (hK _ _ (Below.refl _ _) rfl)
                  · exact wp_move (.tmp 7) rfl _ (at_out _ (by kernel_rfl) rfl) (hK _ _ (Below.refl _ _) rfl)
                  · exact wp_move (.tmp 4) rfl _ (at_out _ (by kernel_rfl) rfl) (hK _ _ (Below.refl _ _) rfl)
                  · exact wp_bin (.tmp 129) (.tmp 130) rfl _ _ _ ((at_dst 6 (by kernel_rfl)).trans (hdep 6 (by simp) (by kernel_rfl))) ((at_dst 7 (by kernel_rfl)).trans (hdep 7 (by simp) (by kernel_rfl))) (b_sub _ _ _ _ _ (by omega) (by omega)) (hK _ _ (Below.refl _ _) rfl)
                  · exact wp_bin (.const (.int .i64 4)) (.tmp 131) rfl _ _ _ rfl ((at_dst 8 (by kernel_rfl)).trans (hdep 8 (by simp) (by kernel_rfl))) (b_mul _ _ _ _ _ (by omega) (by omega)) (hK _ _ (Below.refl _ _) rfl)
                  · exact wp_move (.tmp 9) rfl _ (at_out _ (by kernel_rfl) rfl) (hK _ _ (Below.refl _ _) rfl)
                  · exact wp_bin (.tmp 132) (.tmp 133) rfl _ _ _ ((at_dst 9 (by kernel_rfl)).trans (hdep 9 (by simp) (by kernel_rfl))) ((at_dst 10 (by kernel_rfl)).trans (hdep 10 (by simp) (by kernel_rfl))) (b_add _ _ _ _ _ (by omega) (by omega)) (hK _ _ (Below.refl _ _) rfl)
                  · exact st_byte_at0 (.tmp 128) (.tmp 134) rfl go m co bi _ ((at_dst 5 (by kernel_rfl)).trans (hdep 5 (by simp) (by kernel_rfl))) ((at_dst 11 (by kernel_rfl)).trans (hdep 11 (by simp) (by kernel_rfl))) qb hbi (hK _ _ (Below.refl _ _) rfl)
                  · exact wp_load1 (.tmp 135) rfl ⟨go, bi, none⟩ ((at_dst 12 (by kernel_rfl)).trans (hdep 12 (by simp) (by kernel_rfl))) Tryz.underlying5 rfl _ ((XC.out w' hgr).2) (hK _ _ (Below.refl _ _) rfl)
                  · exact wp_conv (.tmp 136) rfl _ _ ((at_dst 13 (by kernel_rfl)).trans (hdep 13 (by simp) (by kernel_rfl))) (conv_int _ _ (by omega) (by omega)) (hK _ _ (Below.refl _ _) rfl)
                  · exact wp_bin (.tmp 127) (.tmp 137) rfl _ _ _ ((at_dst 4 (by kernel_rfl)).trans (hdep 4 (by simp) (by kernel_rfl))) ((at_dst 14 (by kernel_rfl)).trans (hdep 14 (by simp) (by kernel_rfl))) (b_xor _ _ _ _ _ _ XB.out) (hK _ _ (Below.refl _ _) rfl)
                  · exact wp_conv (.tmp 138) rfl _ _ ((at_dst 15 (by kernel_rfl)).trans (hdep 15 (by simp) (by kernel_rfl))) (conv_u8 _ _ (by omega) (by omega)) (hK _ _ (Below.refl _ _) rfl)
                  · exact st_slice8_1 (.tmp 139) rfl _ ((at_dst 16 (by kernel_rfl)).trans (hdep 16 (by simp) (by kernel_rfl))) (hK _ _ ((Below.refl _ _).alloc (Nat.le_refl _) _) ⟨_, rfl, (Holds.lit w' [(b : Int)] #[.int .u8 (b : Int)] rfl (by simp [maxLen]) (fun z hz => by simp at hz; omega)).more (by simp)⟩)
                · intro vals w' hgr hG
                  obtain ⟨A1, ea, la⟩ : ∃ A1, vals 17 = .slice A1 1 1 ∧ Holds w' w'.heap.size A1 1 1 [(b : Int)] := hG 17 (by simp)
                  have GB := (below_drewN (Below.refl wr.heap.size wr) 1).trans hgr
                  have O8 := HO.out.below GB (Nat.le_refl _)
                  have C8 : IRow w' gw tw := IRow.up HW.out GB
                  have B8 := HB.out.trans (GB.mono hb1)
                  refine wp_append_bytes (.tmp 123) (.tmp 140) rfl b1 _ m _ ((at_dst 0 (by kernel_rfl)).trans (hG 0 (by simp))) O8 _ A1 1 1 [(b : Int)] ((at_dst 17 (by kernel_rfl)).trans ea) la (by omega) (Nat.le_trans hb1 GB.size) (fun v9 w9 o9 g9 => ?_)
                  refine wpAnyH_next 19 _ rfl rfl (by kernel_rfl) (st_assign (.tmp 141) _ rfl (put_tmps_eq (fill_size _ _ _) (by kernel_rfl)) ⟨trivial, wpAnyH_done (by kernel_rfl) ?_ _⟩)
                  have OX : Hid (Owns w9 b1 v9 (m + 1) (ints (bput tw ol bb (k + 1)))) := Lib.hid (by rw [PN.out, ints_app]; exact o9)
                  have CX : Hid (IRow w9 gw tw) := Lib.hid (Blk.grown C8 g9 (fun e => own_oth O8 C8 (by decide) e.symm))
                  have BX : Hid (Below b1 w1 w9) := Lib.hid (B8.grown g9 (Nat.le_trans hb1 GB.size) fun g hg => (O8.lt g hg).1)
                  clear hG hgr GB O8 C8 B8 la o9 g9 HO HW HB XC
                  simp only [fill, dstAt, List.getElem?_cons_zero, List.getElem?_cons_succ, Option.bind_some, Act.put, List.setIfInBounds_toArray, List.set_cons_zero, List.set_cons_succ]
                  generalize vals 0 = z0, vals 1 = z1, vals 2 = z2, vals 3 = z3, vals 4 = z4, vals 5 = z5, vals 6 = z6, vals 7 = z7, vals 8 = z8, vals 9 = z9, vals 10 = z10, vals 11 = z11, vals 12 = z12, vals 13 = z13, vals 14 = z14, vals 15 = z15, vals 16 = z16, vals 17 = z17
                  go_wp2_with fail
                  go_roundw
                  case rel => exact ⟨k + 1, m + 1, by go_num, by omega, HM2, OX, CX, BX⟩
                  case measure => simp [intOf]; omega
              · obtain rfl : k = 4 := by omega
                have NW : Hid (bput tw ol bb 4 = ol ++ nword 4 i turn ol) := Lib.hid (by
                  unfold bput nword
                  rw [TW.out, HBB.out, List.take_of_length_le (by simp)])
                have hltv := HLT.out
                have OE0 := HO3.out
                rw [NW.out] at OE0
                have OE := Lib.hid OE0
                clear OE0
                have hib := HI.out
                have ME : Hid (m = 4 * (i + 1)) := Lib.hid (by have := HMK.out; have := HM0.out; omega)
                have IE : Hid (4 ≤ i + 1 ∧ i + 1 ≤ 44) := Lib.hid (by omega)
                have BE : Hid (Byt (ol ++ nword 4 i turn ol) ∧ (ol ++ nword 4 i turn ol).length = m) := Lib.hid ⟨Byt.app OB.out (nword_byt OB.out TU.out), by rw [List.length_append, nword_len, OL.out, ME.out, HM0.out]; omega⟩
                have KE : Hid (kgo 4 (44 - (i + 1)) (i + 1) tu2 (ol ++ nword 4 i turn ol) = R) := Lib.hid (by
                  have := HE.out
                  rw [show 44 - i = (44 - (i + 1)) + 1 by omega, kgo, NTU.out] at this
                  exact this)
                have ib : i < 44 := by omega
                clear hib hltv HO3 HW NW
                go_wp2_with fail
                go_roundw
                case rel => exact ⟨i + 1, m, tu2, _, by go_num, rfl, ME, OE, BE, TU2, IE, KE, HB⟩
                case measure => simp [intOf]; omega
        · have gr : ((r : Int) == 0) = false := by rw [beq_eq_false_iff_ne]; omega
          have HO2 := OX
          have CW := CX
          have HB2 := BX
          have TU2 := TU
          have NTU : Hid (nturn 4 i turn = turn) := Lib.hid (by unfold nturn; rw [if_neg (by rw [← HRM.out]; exact q)])
          have TWE0 := TWD.out
          rw [if_neg q, if_neg (by simp)] at TWE0
          have TWE := Lib.hid TWE0
          clear TWE0 TWD OX CX BX
          obtain ⟨tw, htw⟩ : ∃ tw, tw = [y0, y1, y2, y3] := ⟨_, rfl⟩
          rw [← htw] at CW
          have TW : Hid (tword 4 i turn ol = tw) := Lib.hid (by rw [htw]; exact TWE.out)
          have TB : Hid (Byt tw) := Lib.hid (by
            rw [htw]; intro z hz
            simp only [List.mem_cons, List.not_mem_nil, or_false] at hz
            rcases hz with rfl | rfl | rfl | rfl
            · exact g0
            · exact g1
            · exact g2
            · exact g3)
          have TL : Hid (tw.length = 4) := Lib.hid (by rw [htw]; rfl)
          clear htw TWE
          go_wp2_with fail
          go_loopw [5, 9] (fun ov kv wr => ∃ k m : Nat, kv = .int .i64 (k : Int) ∧ k ≤ 4 ∧ Hid (m = M + k) ∧ Hid (Owns wr b1 ov m (ints (bput tw ol bb k))) ∧ Hid (IRow wr gw tw) ∧ Hid (Below b1 w1 wr)) (fun _ kv _ => 4 - (intOf kv).toNat)
          case atStart => exact ⟨0, M, rfl, by omega, Lib.hid rfl, Lib.hid (by rw [bput_zero]; exact HO2.out), CW, HB2⟩
          case round =>
            obtain ⟨k, m, rfl, hk, HMK, HO3, HW, HB⟩ := hrel
            clear HO2 CW HB2
            by_cases hk4 : k < 4
            · have hb1 : b1 ≤ wr.heap.size := by rw [HB1.out]; exact HB.out.size
              have hib := HI.out
              have hmm := HM0.out
              have hmk := HMK.out
              obtain ⟨Ao, co, rfl, _⟩ := HO3.out.slice
              obtain ⟨go, rfl, _, _⟩ := HO3.out.form (by omega)
              have HO : Hid (Owns wr b1 (.slice (some ⟨go, 0, none⟩) m co) m (ints (bput tw ol bb k))) := HO3
              obtain ⟨bi, hbi0⟩ : ∃ bi, bi = bb + k := ⟨_, rfl⟩
              have hbb := HBB.out
              have hol := OL.out
              have hbi : bi < m := by omega
              have qb : 4 * ((i : Int) - 4) + (k : Int) = (bi : Int) := by omega
              have bx := TB.out.get k
              have by_ := (OB.out).get bi
              have PN0 := bput_next tw ol bb hk4
              rw [← hbi0] at PN0
              have XC : Hid (∀ w' : World, Below wr.drew.heap.size wr.drew w' → w'.cell? ⟨gw, k, none⟩ = some (.int .i64 ((tw.getD k 0 : Nat) : Int)) ∧ w'.cell? ⟨go, bi, none⟩ = some (.int .u8 ((ol.getD bi 0 : Nat) : Int))) := Lib.hid fun w' hw => by
                have r : IRow w' gw tw := IRow.up (show IRow wr.drew gw tw from HW.out) hw
                have o9 := HO.out.below ((below_drewN (Below.refl wr.heap.size wr) 1).trans hw) (Nat.le_refl _)
                have c9 := own_cell o9 (j := bi) (by rw [bput_len _ _ _ hk]; omega)
                rw [show (bput tw ol bb k).getD bi 0 = ol.getD bi 0 from getD_app (by omega)] at c9
                exact ⟨r.cell k (by rw [TL.out]; exact hk4), c9⟩
              have HM2 : Hid (m + 1 = M + (k + 1)) := Lib.hid (by omega)
              generalize tw.getD k 0 = x at *
              generalize ol.getD bi 0 = y at *
              have bxy := xor_lt bx by_
              obtain ⟨b, hbx⟩ : ∃ b, b = x ^^^ y := ⟨_, rfl⟩
              have XB : Hid (bits .xor .i64 (x : Int) (y : Int) = (b : Int)) := Lib.hid (by rw [i64_xor (by omega) (by omega), hbx])
              rw [← hbx] at PN0 bxy
              have PN := Lib.hid PN0
              have ib : i ≤ 100 := by omega
              have mb : m ≤ 1000 := by omega
              clear hbi0 PN0 hbx hmk hbb hol hib hmm
              go_wp2_with fail
              refine wp_region_free [0, 1, 2, 3, 4, 5, 6, 7, 8, 9, 10, 11, 12, 13, 14, 15, 16, 17] 18 [19] (fun w1 w2 => Below w1.heap.size w1 w2) (fun k' w' v => match k' with
                | 0 => v = .slice (some ⟨go, 0, none⟩) m co
                | 1 => v = .slice (some ⟨gw, 0, none⟩) 4 4
                | 2 => v = .int .i64 ((k : Int))
                | 3 => v = .pointer (some ⟨gw, k, none⟩)
                | 4 => v = .int .i64 ((x : Int))
                | 5 => v = .slice (some ⟨go, 0, none⟩) m co
                | 6 => v = .int .i64 ((i : Int))
                | 7 => v = .int .i64 4
                | 8 => v = .int .i64 ((i : Int) - 4)
                | 9 => v = .int .i64 (4 * ((i : Int) - 4))
                | 10 => v = .int .i64 ((k : Int))
                | 11 => v = .int .i64 (4 * ((i : Int) - 4) + ((k : Int)))
                | 12 => v = .pointer (some ⟨go, bi, none⟩)
                | 13 => v = .int .u8 ((y : Int))
                | 14 => v = .int .i64 ((y : Int))
                | 15 => v = .int .i64 ((b : Int))
                | 16 => v = .int .u8 ((b : Int))
                | _ => ∃ A1, v = .slice A1 1 1 ∧ Holds w' w'.heap.size A1 1 1 [(b : Int)]) (by kernel_rfl) (by kernel_rfl) (Below.refl _ _) (fun _ _ _ h k => h.trans (k.mono h.size)) (fun k' w1 w2 v h => match k' with
                | 0 => fun x => x
                | 1 => fun x => x
                | 2 => fun x => x
                | 3 => fun x => x
                | 4 => fun x => x
                | 5 => fun x => x
                | 6 => fun x => x
                | 7 => fun x => x
                | 8 => fun x => x
                | 9 => fun x => x
                | 10 => fun x => x
                | 11 => fun x => x
                | 12 => fun x => x
                | 13 => fun x => x
                | 14 => fun x => x
                | 15 => fun x => x
                | 16 => fun x => x
                | _ + 17 => fun ⟨A1, e, x⟩ => ⟨A1, e, (x.below h).more h.size⟩) (fun _ _ _ _ _ h => h) ?_ _ (by rfl) ?_
              · refine obs_cons (by rfl) (fun vals w' hgr hdep K hK => ?_) (obs_cons (by rfl) (fun vals w' hgr hdep K hK => ?_) (obs_cons (by rfl) (fun vals w' hgr hdep K hK => ?_) (obs_cons (by rfl) (fun vals w' hgr hdep K hK => ?_) (obs_cons (by rfl) (fun vals w' hgr hdep K hK => ?_) (obs_cons (by rfl) (fun vals w' hgr hdep K hK => ?_) (obs_cons (by rfl) (fun vals w' hgr hdep K hK => ?_) (obs_cons (by rfl) (fun vals w' hgr hdep K hK => ?_) (obs_cons (by rfl) (fun vals w' hgr hdep K hK => ?_) (obs_cons (by rfl) (fun vals w' hgr hdep K hK => ?_) (obs_cons (by rfl) (fun vals w' hgr hdep K hK => ?_) (obs_cons (by rfl) (fun vals w' hgr hdep K hK => ?_) (obs_cons (by rfl) (fun vals w' hgr hdep K hK => ?_) (obs_cons (by rfl) (fun vals w' hgr hdep K hK => ?_) (obs_cons (by rfl) (fun vals w' hgr hdep K hK => ?_) (obs_cons (by rfl) (fun vals w' hgr hdep K hK => ?_) (obs_cons (by rfl) (fun vals w' hgr hdep K hK => ?_) (obs_cons (by rfl) (fun vals w' hgr hdep K hK => ?_) (obs_nil))))))))))))))))))
                · exact wp_move (.tmp 5) rfl _ (at_out _ (by kernel_rfl) rfl) (hK _ _ (Below.refl _ _) rfl)
                · exact wp_move (.tmp 8) rfl _ (at_out _ (by kernel_rfl) rfl) (hK _ _ (Below.refl _ _) rfl)
                · exact wp_move (.tmp 9) rfl _ (at_out _ (by kernel_rfl) rfl) (hK _ _ (Below.refl _ _) rfl)
                · exact st_int_at0 (.tmp 124) (.tmp 125) rfl gw 4 4 k _ ((at_dst 1 (by kernel_rfl)).trans (hdep 1 (by simp) (by kernel_rfl))) ((at_dst 2 (by kernel_rfl)).trans (hdep 2 (by simp) (by kernel_rfl))) rfl hk4 (hK _ _ (Below.refl _ _) rfl)
                · exact wp_load1 (.tmp 126) rfl ⟨gw, k, none⟩ ((at_dst 3 (by kernel_rfl)).trans (hdep 3 (by simp) (by kernel_rfl))) Tryz.underlying3 rfl _ ((XC.out w' hgr).1) (hK _ _ (Below.refl _ _) rfl)
                · exact wp_move (.tmp 5) rfl _ (at_out _ (by kernel_rfl) rfl) (hK _ _ (Below.refl _ _) rfl)
                · exact wp_move (.tmp 7) rfl _ (at_out _ (by kernel_rfl) rfl) (hK _ _ (Below.refl _ _) rfl)
                · exact wp_move (.tmp 4) rfl _ (at_out _ (by kernel_rfl) rfl) (hK _ _ (Below.refl _ _) rfl)
                · exact wp_bin (.tmp 129) (.tmp 130) rfl _ _ _ ((at_dst 6 (by kernel_rfl)).trans (hdep 6 (by simp) (by kernel_rfl))) ((at_dst 7 (by kernel_rfl)).trans (hdep 7 (by simp) (by kernel_rfl))) (b_sub _ _ _ _ _ (by omega) (by omega)) (hK _ _ (Below.refl _ _) rfl)
                · exact wp_bin (.const (.int .i64 4)) (.tmp 131) rfl _ _ _ rfl ((at_dst 8 (by kernel_rfl)).trans (hdep 8 (by simp) (by kernel_rfl))) (b_mul _ _ _ _ _ (by omega) (by omega)) (hK _ _ (Below.refl _ _) rfl)
                · exact wp_move (.tmp 9) rfl _ (at_out _ (by kernel_rfl) rfl) (hK _ _ (Below.refl _ _) rfl)
                · exact wp_bin (.tmp 132) (.tmp 133) rfl _ _ _ ((at_dst 9 (by kernel_rfl)).trans (hdep 9 (by simp) (by kernel_rfl))) ((at_dst 10 (by kernel_rfl)).trans (hdep 10 (by simp) (by kernel_rfl))) (b_add _ _ _ _ _ (by omega) (by omega)) (hK _ _ (Below.refl _ _) rfl)
                · exact st_byte_at0 (.tmp 128) (.tmp 134) rfl go m co bi _ ((at_dst 5 (by kernel_rfl)).trans (hdep 5 (by simp) (by kernel_rfl))) ((at_dst 11 (by kernel_rfl)).trans (hdep 11 (by simp) (by kernel_rfl))) qb hbi (hK _ _ (Below.refl _ _) rfl)
                · exact wp_load1 (.tmp 135) rfl ⟨go, bi, none⟩ ((at_dst 12 (by kernel_rfl)).trans (hdep 12 (by simp) (by kernel_rfl))) Tryz.underlying5 rfl _ ((XC.out w' hgr).2) (hK _ _ (Below.refl _ _) rfl)
                · exact wp_conv (.tmp 136) rfl _ _ ((at_dst 13 (by kernel_rfl)).trans (hdep 13 (by simp) (by kernel_rfl))) (conv_int _ _ (by omega) (by omega)) (hK _ _ (Below.refl _ _) rfl)
                · exact wp_bin (.tmp 127) (.tmp 137) rfl _ _ _ ((at_dst 4 (by kernel_rfl)).trans (hdep 4 (by simp) (by kernel_rfl))) ((at_dst 14 (by kernel_rfl)).trans (hdep 14 (by simp) (by kernel_rfl))) (b_xor _ _ _ _ _ _ XB.out) (hK _ _ (Below.refl _ _) rfl)
                · exact wp_conv (.tmp 138) rfl _ _ ((at_dst 15 (by kernel_rfl)).trans (hdep 15 (by simp) (by kernel_rfl))) (conv_u8 _ _ (by omega) (by omega)) (hK _ _ (Below.refl _ _) rfl)
                · exact st_slice8_1 (.tmp 139) rfl _ ((at_dst 16 (by kernel_rfl)).trans (hdep 16 (by simp) (by kernel_rfl))) (hK _ _ ((Below.refl _ _).alloc (Nat.le_refl _) _) ⟨_, rfl, (Holds.lit w' [(b : Int)] #[.int .u8 (b : Int)] rfl (by simp [maxLen]) (fun z hz => by simp at hz; omega)).more (by simp)⟩)
              · intro vals w' hgr hG
                obtain ⟨A1, ea, la⟩ : ∃ A1, vals 17 = .slice A1 1 1 ∧ Holds w' w'.heap.size A1 1 1 [(b : Int)] := hG 17 (by simp)
                have GB := (below_drewN (Below.refl wr.heap.size wr) 1).trans hgr
                have O8 := HO.out.below GB (Nat.le_refl _)
                have C8 : IRow w' gw tw := IRow.up HW.out GB
                have B8 := HB.out.trans (GB.mono hb1)
                refine wp_append_bytes (.tmp 123) (.tmp 140) rfl b1 _ m _ ((at_dst 0 (by kernel_rfl)).trans (hG 0 (by simp))) O8 _ A1 1 1 [(b : Int)] ((at_dst 17 (by kernel_rfl)).trans ea) la (by omega) (Nat.le_trans hb1 GB.size) (fun v9 w9 o9 g9 => ?_)
                refine wpAnyH_next 19 _ rfl rfl (by kernel_rfl) (st_assign (.tmp 141) _ rfl (put_tmps_eq (fill_size _ _ _) (by kernel_rfl)) ⟨trivial, wpAnyH_done (by kernel_rfl) ?_ _⟩)
                have OX : Hid (Owns w9 b1 v9 (m + 1) (ints (bput tw ol bb (k + 1)))) := Lib.hid (by rw [PN.out, ints_app]; exact o9)
                have CX : Hid (IRow w9 gw tw) := Lib.hid (Blk.grown C8 g9 (fun e => own_oth O8 C8 (by decide) e.symm))
                have BX : Hid (Below b1 w1 w9) := Lib.hid (B8.grown g9 (Nat.le_trans hb1 GB.size) fun g hg => (O8.lt g hg).1)
                clear hG hgr GB O8 C8 B8 la o9 g9 HO HW HB XC
                simp only [fill, dstAt, List.getElem?_cons_zero, List.getElem?_cons_succ, Option.bind_some, Act.put, List.setIfInBounds_toArray, List.set_cons_zero, List.set_cons_succ]
                generalize vals 0 = z0, vals 1 = z1, vals 2 = z2, vals 3 = z3, vals 4 = z4, vals 5 = z5, vals 6 = z6, vals 7 = z7, vals 8 = z8, vals 9 = z9, vals 10 = z10, vals 11 = z11, vals 12 = z12, vals 13 = z13, vals 14 = z14, vals 15 = z15, vals 16 = z16, vals 17 = z17
                go_wp2_with fail
                go_roundw
                case rel => exact ⟨k + 1, m + 1, by go_num, by omega, HM2, OX, CX, BX⟩
                case measure => simp [intOf]; omega
            · obtain rfl : k = 4 := by omega
              have NW : Hid (bput tw ol bb 4 = ol ++ nword 4 i turn ol) := Lib.hid (by
                unfold bput nword
                rw [TW.out, HBB.out, List.take_of_length_le (by simp)])
              have hltv := HLT.out
              have OE0 := HO3.out
              rw [NW.out] at OE0
              have OE := Lib.hid OE0
              clear OE0
              have hib := HI.out
              have ME : Hid (m = 4 * (i + 1)) := Lib.hid (by have := HMK.out; have := HM0.out; omega)
              have IE : Hid (4 ≤ i + 1 ∧ i + 1 ≤ 44) := Lib.hid (by omega)
              have BE : Hid (Byt (ol ++ nword 4 i turn ol) ∧ (ol ++ nword 4 i turn ol).length = m) := Lib.hid ⟨Byt.app OB.out (nword_byt OB.out TU.out), by rw [List.length_append, nword_len, OL.out, ME.out, HM0.out]; omega⟩
              have KE : Hid (kgo 4 (44 - (i + 1)) (i + 1) turn (ol ++ nword 4 i turn ol) = R) := Lib.hid (by
                have := HE.out
                rw [show 44 - i = (44 - (i + 1)) + 1 by omega, kgo, NTU.out] at this
                exact this)
              have ib : i < 44 := by omega
              clear hib hltv HO3 HW NW
              go_wp2_with fail
              go_roundw
              case rel => exact ⟨i + 1, m, turn, _, by go_num, rfl, ME, OE, BE, TU2, IE, KE, HB⟩
              case measure => simp [intOf]; omega
    · obtain rfl : i = 44 := by have := HI.out; omega
      have FR : Hid (ol = R) := Lib.hid (by have := HE.out; rwa [Nat.sub_self, kgo] at this)
      have OE0 := HO1.out.mono GW.out
      rw [FR.out, HM0.out] at OE0
      have OE : Hid (Owns wr w.heap.size _ 176 (ints R)) := Lib.hid OE0
      clear OE0
      have BE := Lib.hid (BW.out wr HB.out)
      clear HO1 HE HB
      go_wp2_with fail
      go_ret
      exact ⟨_, rfl, OE.out, BE.out⟩

set_option maxHeartbeats 4000000 in
set_option maxRecDepth 100000 in
theorem keys_8 (A : Option Addr) (c : Nat) (ky : List Int) (w : World) (B : Nat) (h : Holds w B A 32 c ky) (hB : B ≤ w.heap.size) :
    Calls Tryz.prog 55 #[.slice A 32 c] w fun e w' => ∃ v, e = .returned v ∧ Owns w' w.heap.size v 240 (ints (keys (nats ky))) ∧ Below w.heap.size w w' := by
  have H := Lib.hid h
  have TT := Lib.hid (table_ref w)
  have K0 : Hid (kgo 8 (60 - 8) 8 1 (nats ky) = keys (nats ky)) := Lib.hid (by unfold keys; rw [nats_len, h.1])
  have KY : Hid (ints (nats ky) = ky ∧ Byt (nats ky) ∧ (nats ky).length = 32) := Lib.hid ⟨ints_nats fun z hz => h.2.2.2.1 z hz, nats_byt h.2.2.2.1, (nats_len ky).trans h.1⟩
  obtain ⟨R, hR⟩ : ∃ R, R = keys (nats ky) := ⟨_, rfl⟩
  rw [← hR] at K0 ⊢
  clear h hR
  go_enter Tryz.func55, Tryz.ntmps55
  go_wp2_with fail
  refine TT.out.mono ?_
  rintro e w1 ⟨rfl, r1, hb⟩
  have B1 := Lib.hid hb
  have R1 := Lib.hid r1
  have H1 := Lib.hid ((H.out.below (hb.mono hB)).more (Nat.le_trans hB hb.size))
  obtain ⟨gx, hgx⟩ : ∃ gx, gx = w.heap.size := ⟨_, rfl⟩
  have GX := Lib.hid hgx
  rw [← hgx] at R1 ⊢
  clear r1 hb TT H hgx
  go_wp2_with fail
  refine (Both.both_lit (B := w1.heap.size) (Nat.le_refl _) [⟨A, 32, c, ky⟩] _ _ rfl (Both.mem1 H1.out) _ 1 rfl rfl (by decide) (by show 32 + 0 ≤ 1048576; decide)).mono ?_
  rintro e w2 ⟨A2, c2, rfl, _, o2, hb⟩
  have e1 : Both.flat [⟨A, 32, c, ky⟩] = ky := by simp [Both.flat]
  have e0 : Both.total [⟨A, 32, c, ky⟩] = 32 := rfl
  rw [e1, e0] at o2
  rw [e0]
  obtain ⟨b1, hb1⟩ : ∃ b1, b1 = w1.heap.size := ⟨_, rfl⟩
  rw [← hb1] at o2 hb
  have O2 : Hid (Owns w2 b1 (.slice A2 32 c2) 32 (ints (nats ky))) := Lib.hid (by rw [KY.out.1]; exact o2)
  have B2 := Lib.hid hb
  have RX : Hid (∀ W : World, Below b1 w1 W → IRow W gx boxes) := Lib.hid fun W hW => R1.out.below hW (by rw [hb1]; exact R1.out.lt)
  have BW : Hid (∀ W : World, Below b1 w1 W → Below w.heap.size w W) := Lib.hid fun W hW => B1.out.trans (hW.mono (by rw [hb1]; exact B1.out.size))
  have GW : Hid (w.heap.size ≤ b1) := Lib.hid (by rw [hb1]; exact B1.out.size)
  have HB1 := Lib.hid hb1
  clear o2 hb e1 e0 hb1 H1 R1 B1
  go_wp2_with fail
  go_loopw [5, 6, 7] (fun ov tv iv wr => ∃ (i m turn : Nat) (ol : List Nat), iv = .int .i64 (i : Int) ∧ tv = .int .i64 (turn : Int) ∧ Hid (m = 4 * i) ∧ Hid (Owns wr b1 ov m (ints ol)) ∧ Hid (Byt ol ∧ ol.length = m) ∧ Hid (turn < 256) ∧ Hid (8 ≤ i ∧ i ≤ 60) ∧ Hid (kgo 8 (60 - i) i turn ol = R) ∧ Hid (Below b1 w1 wr)) (fun _ _ iv _ => 60 - (intOf iv).toNat)
  case atStart => exact ⟨8, 32, 1, nats ky, rfl, rfl, Lib.hid rfl, O2, Lib.hid KY.out.2, Lib.hid (by decide), Lib.hid (by decide), K0, B2⟩
  case round =>
    obtain ⟨i, m, turn, ol, rfl, rfl, HM0, HO1, HOL, TU, HI, HE, HB⟩ := hrel
    clear O2 B2 K0 KY
    have OB := Lib.hid HOL.out.1
    have OL := Lib.hid HOL.out.2
    by_cases hlt : i < 60
    · have hib := HI.out
      have hm0 := HM0.out
      have HSZ : Hid (b1 ≤ wr.heap.size) := Lib.hid (by rw [HB1.out]; exact HB.out.size)
      obtain ⟨Ao, co, rfl, _⟩ := HO1.out.slice
      obtain ⟨go, rfl, _, _⟩ := HO1.out.form (by omega)
      have HO : Hid (Owns wr b1 (.slice (some ⟨go, 0, none⟩) m co) m (ints ol)) := HO1
      obtain ⟨a0, h0⟩ : ∃ a0, a0 = 4 * i - 4 + 0 := ⟨_, rfl⟩
      obtain ⟨a1, h1⟩ : ∃ a1, a1 = 4 * i - 4 + 1 := ⟨_, rfl⟩
      obtain ⟨a2, h2⟩ : ∃ a2, a2 = 4 * i - 4 + 2 := ⟨_, rfl⟩
      obtain ⟨a3, h3⟩ : ∃ a3, a3 = 4 * i - 4 + 3 := ⟨_, rfl⟩
      have q0 : 4 * (i : Int) - 4 = (a0 : Int) := by omega
      have q1 : 4 * (i : Int) - 3 = (a1 : Int) := by omega
      have q2 : 4 * (i : Int) - 2 = (a2 : Int) := by omega
      have q3 : 4 * (i : Int) - 1 = (a3 : Int) := by omega
      have TWD : Hid (tword 8 i turn ol = if i % 8 = 0 then [Box (ol.getD a1 0) ^^^ turn, Box (ol.getD a2 0), Box (ol.getD a3 0), Box (ol.getD a0 0)] else if 8 = 8 ∧ i % 8 = 4 then [Box (ol.getD a0 0), Box (ol.getD a1 0), Box (ol.getD a2 0), Box (ol.getD a3 0)] else [ol.getD a0 0, ol.getD a1 0, ol.getD a2 0, ol.getD a3 0]) := Lib.hid (by rw [h0, h1, h2, h3]; rfl)
      have YC : Hid (∀ w' : World, Below wr.drew.heap.size wr.drew w' → w'.cell? ⟨go, a0, none⟩ = some (.int .u8 ((ol.getD a0 0 : Nat) : Int)) ∧ w'.cell? ⟨go, a1, none⟩ = some (.int .u8 ((ol.getD a1 0 : Nat) : Int)) ∧ w'.cell? ⟨go, a2, none⟩ = some (.int .u8 ((ol.getD a2 0 : Nat) : Int)) ∧ w'.cell? ⟨go, a3, none⟩ = some (.int .u8 ((ol.getD a3 0 : Nat) : Int))) := Lib.hid fun w' hw => by
        have o9 := HO.out.below ((below_drewN (Below.refl wr.heap.size wr) 1).trans hw) (Nat.le_refl _)
        exact ⟨own_cell o9 (by rw [OL.out]; omega), own_cell o9 (by rw [OL.out]; omega), own_cell o9 (by rw [OL.out]; omega), own_cell o9 (by rw [OL.out]; omega)⟩
      have g0 := OB.out.get a0
      have g1 := OB.out.get a1
      have g2 := OB.out.get a2
      have g3 := OB.out.get a3
      generalize ol.getD a0 0 = y0 at *
      generalize ol.getD a1 0 = y1 at *
      generalize ol.getD a2 0 = y2 at *
      generalize ol.getD a3 0 = y3 at *
      have hc1 : decide ((i : Int) < 60) = true := decide_eq_true (by omega)
      have hc2 : ((i : Int) < 60) = True := eq_true (by omega)
      have bq0 : a0 < m := by omega
      have bq1 : a1 < m := by omega
      have bq2 : a2 < m := by omega
      have bq3 : a3 < m := by omega
      have ib : i ≤ 100 := by omega
      have HLT := Lib.hid hlt
      obtain ⟨M, rfl⟩ : ∃ M, M = m := ⟨_, rfl⟩
      obtain ⟨bb, hbb⟩ : ∃ bb, bb = 4 * (i - 8) := ⟨_, rfl⟩
      have HBB := Lib.hid hbb
      have em : (i : Int).tmod 8 = (i : Int) % 8 := Int.tmod_eq_emod_of_nonneg (by omega)
      obtain ⟨r, hr⟩ : ∃ r, r = i % 8 := ⟨_, rfl⟩
      have er : (i : Int).tmod 8 = (r : Int) := by rw [em]; omega
      have hrb : r < 8 := by omega
      rw [← hr] at TWD
      clear h0 h1 h2 h3 hib hm0 hbb hlt HO1 HOL em
      have HRM := Lib.hid hr
      clear hr
      go_wp2_with fail
      clear hc1 hc2
      refine wp_region_free [0, 1, 2, 3, 4, 5, 6, 7, 8, 9, 10, 11, 12, 13, 14, 15, 16, 17, 18, 19, 20, 21, 22, 23, 24, 25, 26, 27] 28 [29] (fun w1 w2 => Below w1.heap.size w1 w2) (fun k' w' v => match k' with
        | 0 => v = .slice (some ⟨go, 0, none⟩) M co
        | 1 => v = .int .i64 ((i : Int))
        | 2 => v = .int .i64 (4 * (i : Int))
        | 3 => v = .int .i64 (4 * (i : Int) - 4)
        | 4 => v = .pointer (some ⟨go, a0, none⟩)
        | 5 => v = .int .u8 ((y0 : Int))
        | 6 => v = .int .i64 ((y0 : Int))
        | 7 => v = .slice (some ⟨go, 0, none⟩) M co
        | 8 => v = .int .i64 ((i : Int))
        | 9 => v = .int .i64 (4 * (i : Int))
        | 10 => v = .int .i64 (4 * (i : Int) - 3)
        | 11 => v = .pointer (some ⟨go, a1, none⟩)
        | 12 => v = .int .u8 ((y1 : Int))
        | 13 => v = .int .i64 ((y1 : Int))
        | 14 => v = .slice (some ⟨go, 0, none⟩) M co
        | 15 => v = .int .i64 ((i : Int))
        | 16 => v = .int .i64 (4 * (i : Int))
        | 17 => v = .int .i64 (4 * (i : Int) - 2)
        | 18 => v = .pointer (some ⟨go, a2, none⟩)
        | 19 => v = .int .u8 ((y2 : Int))
        | 20 => v = .int .i64 ((y2 : Int))
        | 21 => v = .slice (some ⟨go, 0, none⟩) M co
        | 22 => v = .int .i64 ((i : Int))
        | 23 => v = .int .i64 (4 * (i : Int))
        | 24 => v = .int .i64 (4 * (i : Int) - 1)
        | 25 => v = .pointer (some ⟨go, a3, none⟩)
        | 26 => v = .int .u8 ((y3 : Int))
        | _ => v = .int .i64 ((y3 : Int))) (by kernel_rfl) (by kernel_rfl) (Below.refl _ _) (fun _ _ _ h k => h.trans (k.mono h.size)) (fun k' w1 w2 v h => match k' with
        | 0 => fun x => x
        | 1 => fun x => x
        | 2 => fun x => x
        | 3 => fun x => x
        | 4 => fun x => x
        | 5 => fun x => x
        | 6 => fun x => x
        | 7 => fun x => x
        | 8 => fun x => x
        | 9 => fun x => x
        | 10 => fun x => x
        | 11 => fun x => x
        | 12 => fun x => x
        | 13 => fun x => x
        | 14 => fun x => x
        | 15 => fun x => x
        | 16 => fun x => x
        | 17 => fun x => x
        | 18 => fun x => x
        | 19 => fun x => x
        | 20 => fun x => x
        | 21 => fun x => x
        | 22 => fun x => x
        | 23 => fun x => x
        | 24 => fun x => x
        | 25 => fun x => x
        | 26 => fun x => x
        | _ + 27 => fun x => x) (fun _ _ _ _ _ h => h) ?_ _ (by rfl) ?_
      · refine obs_cons (by rfl) (fun vals w' hgr hdep K hK => ?_) (obs_cons (by rfl) (fun vals w' hgr hdep K hK => ?_) (obs_cons (by rfl) (fun vals w' hgr hdep K hK => ?_) (obs_cons (by rfl) (fun vals w' hgr hdep K hK => ?_) (obs_cons (by rfl) (fun vals w' hgr hdep K hK => ?_) (obs_cons (by rfl) (fun vals w' hgr hdep K hK => ?_) (obs_cons (by rfl) (fun vals w' hgr hdep K hK => ?_) (obs_cons (by rfl) (fun vals w' hgr hdep K hK => ?_) (obs_cons (by rfl) (fun vals w' hgr hdep K hK => ?_) (obs_cons (by rfl) (fun vals w' hgr hdep K hK => ?_) (obs_cons (by rfl) (fun vals w' hgr hdep K hK => ?_) (obs_cons (by rfl) (fun vals w' hgr hdep K hK => ?_) (obs_cons (by rfl) (fun vals w' hgr hdep K hK => ?_) (obs_cons (by rfl) (fun vals w' hgr hdep K hK => ?_) (obs_cons (by rfl) (fun vals w' hgr hdep K hK => ?_) (obs_cons (by rfl) (fun vals w' hgr hdep K hK => ?_) (obs_cons (by rfl) (fun vals w' hgr hdep K hK => ?_) (obs_cons (by rfl) (fun vals w' hgr hdep K hK => ?_) (obs_cons (by rfl) (fun vals w' hgr hdep K hK => ?_) (obs_cons (by rfl) (fun vals w' hgr hdep K hK => ?_) (obs_cons (by rfl) (fun vals w' hgr hdep K hK => ?_) (obs_cons (by rfl) (fun vals w' hgr hdep K hK => ?_) (obs_cons (by rfl) (fun vals w' hgr hdep K hK => ?_) (obs_cons (by rfl) (fun vals w' hgr hdep K hK => ?_) (obs_cons (by rfl) (fun vals w' hgr hdep K hK => ?_) (obs_cons (by rfl) (fun vals w' hgr hdep K hK => ?_) (obs_cons (by rfl) (fun vals w' hgr hdep K hK => ?_) (obs_cons (by rfl) (fun vals w' hgr hdep K hK => ?_) (obs_nil))))))))))))))))))))))))))))
        · exact wp_move (.tmp 5) rfl _ (at_out _ (by kernel_rfl) rfl) (hK _ _ (Below.refl _ _) rfl)
        · exact wp_move (.tmp 7) rfl _ (at_out _ (by kernel_rfl) rfl) (hK _ _ (Below.refl _ _) rfl)
        · exact wp_bin (.const (.int .i64 4)) (.tmp 26) rfl _ _ _ rfl ((at_dst 1 (by kernel_rfl)).trans (hdep 1 (by simp) (by kernel_rfl))) (b_mul _ _ _ _ _ (by omega) (by omega)) (hK _ _ (Below.refl _ _) rfl)
        · exact wp_bin (.tmp 27) (.const (.int .i64 4)) rfl _ _ _ ((at_dst 2 (by kernel_rfl)).trans (hdep 2 (by simp) (by kernel_rfl))) rfl (b_sub _ _ _ _ _ (by omega) (by omega)) (hK _ _ (Below.refl _ _) rfl)
        · exact st_byte_at0 (.tmp 25) (.tmp 28) rfl go M co a0 _ ((at_dst 0 (by kernel_rfl)).trans (hdep 0 (by simp) (by kernel_rfl))) ((at_dst 3 (by kernel_rfl)).trans (hdep 3 (by simp) (by kernel_rfl))) q0 (by omega) (hK _ _ (Below.refl _ _) rfl)
        · exact wp_load1 (.tmp 29) rfl ⟨go, a0, none⟩ ((at_dst 4 (by kernel_rfl)).trans (hdep 4 (by simp) (by kernel_rfl))) Tryz.underlying5 rfl _ ((YC.out w' hgr).1) (hK _ _ (Below.refl _ _) rfl)
        · exact wp_conv (.tmp 30) rfl _ _ ((at_dst 5 (by kernel_rfl)).trans (hdep 5 (by simp) (by kernel_rfl))) (conv_int _ _ (by omega) (by omega)) (hK _ _ (Below.refl _ _) rfl)
        · exact wp_move (.tmp 5) rfl _ (at_out _ (by kernel_rfl) rfl) (hK _ _ (Below.refl _ _) rfl)
        · exact wp_move (.tmp 7) rfl _ (at_out _ (by kernel_rfl) rfl) (hK _ _ (Below.refl _ _) rfl)
        · exact wp_bin (.const (.int .i64 4)) (.tmp 33) rfl _ _ _ rfl ((at_dst 8 (by kernel_rfl)).trans (hdep 8 (by simp) (by kernel_rfl))) (b_mul _ _ _ _ _ (by omega) (by omega)) (hK _ _ (Below.refl _ _) rfl)
        · exact wp_bin (.tmp 34) (.const (.int .i64 3)) rfl _ _ _ ((at_dst 9 (by kernel_rfl)).trans (hdep 9 (by simp) (by kernel_rfl))) rfl (b_sub _ _ _ _ _ (by omega) (by omega)) (hK _ _ (Below.refl _ _) rfl)
        · exact st_byte_at0 (.tmp 32) (.tmp 35) rfl go M co a1 _ ((at_dst 7 (by kernel_rfl)).trans (hdep 7 (by simp) (by kernel_rfl))) ((at_dst 10 (by kernel_rfl)).trans (hdep 10 (by simp) (by kernel_rfl))) q1 (by omega) (hK _ _ (Below.refl _ _) rfl)
        · exact wp_load1 (.tmp 36) rfl ⟨go, a1, none⟩ ((at_dst 11 (by kernel_rfl)).trans (hdep 11 (by simp) (by kernel_rfl))) Tryz.underlying5 rfl _ ((YC.out w' hgr).2.1) (hK _ _ (Below.refl _ _) rfl)
        · exact wp_conv (.tmp 37) rfl _ _ ((at_dst 12 (by kernel_rfl)).trans (hdep 12 (by simp) (by kernel_rfl))) (conv_int _ _ (by omega) (by omega)) (hK _ _ (Below.refl _ _) rfl)
        · exact wp_move (.tmp 5) rfl _ (at_out _ (by kernel_rfl) rfl) (hK _ _ (Below.refl _ _) rfl)
        · exact wp_move (.tmp 7) rfl _ (at_out _ (by kernel_rfl) rfl) (hK _ _ (Below.refl _ _) rfl)
        · exact wp_bin (.const (.int .i64 4)) (.tmp 40) rfl _ _ _ rfl ((at_dst 15 (by kernel_rfl)).trans (hdep 15 (by simp) (by kernel_rfl))) (b_mul _ _ _ _ _ (by omega) (by omega)) (hK _ _ (Below.refl _ _) rfl)
        · exact wp_bin (.tmp 41) (.const (.int .i64 2)) rfl _ _ _ ((at_dst 16 (by kernel_rfl)).trans (hdep 16 (by simp) (by kernel_rfl))) rfl (b_sub _ _ _ _ _ (by omega) (by omega)) (hK _ _ (Below.refl _ _) rfl)
        · exact st_byte_at0 (.tmp 39) (.tmp 42) rfl go M co a2 _ ((at_dst 14 (by kernel_rfl)).trans (hdep 14 (by simp) (by kernel_rfl))) ((at_dst 17 (by kernel_rfl)).trans (hdep 17 (by simp) (by kernel_rfl))) q2 (by omega) (hK _ _ (Below.refl _ _) rfl)
        · exact wp_load1 (.tmp 43) rfl ⟨go, a2, none⟩ ((at_dst 18 (by kernel_rfl)).trans (hdep 18 (by simp) (by kernel_rfl))) Tryz.underlying5 rfl _ ((YC.out w' hgr).2.2.1) (hK _ _ (Below.refl _ _) rfl)
        · exact wp_conv (.tmp 44) rfl _ _ ((at_dst 19 (by kernel_rfl)).trans (hdep 19 (by simp) (by kernel_rfl))) (conv_int _ _ (by omega) (by omega)) (hK _ _ (Below.refl _ _) rfl)
        · exact wp_move (.tmp 5) rfl _ (at_out _ (by kernel_rfl) rfl) (hK _ _ (Below.refl _ _) rfl)
        · exact wp_move (.tmp 7) rfl _ (at_out _ (by kernel_rfl) rfl) (hK _ _ (Below.refl _ _) rfl)
        · exact wp_bin (.const (.int .i64 4)) (.tmp 47) rfl _ _ _ rfl ((at_dst 22 (by kernel_rfl)).trans (hdep 22 (by simp) (by kernel_rfl))) (b_mul _ _ _ _ _ (by omega) (by omega)) (hK _ _ (Below.refl _ _) rfl)
        · exact wp_bin (.tmp 48) (.const (.int .i64 1)) rfl _ _ _ ((at_dst 23 (by kernel_rfl)).trans (hdep 23 (by simp) (by kernel_rfl))) rfl (b_sub _ _ _ _ _ (by omega) (by omega)) (hK _ _ (Below.refl _ _) rfl)
        · exact st_byte_at0 (.tmp 46) (.tmp 49) rfl go M co a3 _ ((at_dst 21 (by kernel_rfl)).trans (hdep 21 (by simp) (by kernel_rfl))) ((at_dst 24 (by kernel_rfl)).trans (hdep 24 (by simp) (by kernel_rfl))) q3 (by omega) (hK _ _ (Below.refl _ _) rfl)
        · exact wp_load1 (.tmp 50) rfl ⟨go, a3, none⟩ ((at_dst 25 (by kernel_rfl)).trans (hdep 25 (by simp) (by kernel_rfl))) Tryz.underlying5 rfl _ ((YC.out w' hgr).2.2.2) (hK _ _ (Below.refl _ _) rfl)
        · exact wp_conv (.tmp 51) rfl _ _ ((at_dst 26 (by kernel_rfl)).trans (hdep 26 (by simp) (by kernel_rfl))) (conv_int _ _ (by omega) (by omega)) (hK _ _ (Below.refl _ _) rfl)
      · intro vals w' hgr hG
        refine st_slicei_4 (.tmp 31) (.tmp 38) (.tmp 45) (.tmp 52) rfl (y0 : Int) (y1 : Int) (y2 : Int) (y3 : Int) ((at_dst 6 (by kernel_rfl)).trans (hG 6 (by simp))) ((at_dst 13 (by kernel_rfl)).trans (hG 13 (by simp))) ((at_dst 20 (by kernel_rfl)).trans (hG 20 (by simp))) ((at_dst 27 (by kernel_rfl)).trans (hG 27 (by simp))) ?_
        refine wpAnyH_next 29 _ rfl rfl (by kernel_rfl) (st_assign (.tmp 53) _ rfl (put_tmps_eq (fill_size _ _ _) (by kernel_rfl)) ⟨trivial, wpAnyH_done (by kernel_rfl) ?_ _⟩)
        have GB := ((below_drewN (Below.refl wr.heap.size wr) 1).trans hgr)
        have HBW : b1 ≤ w'.heap.size := Nat.le_trans HSZ.out GB.size
        have OX : Hid (Owns (w'.alloc (.cells #[.int .i64 (y0 : Int), .int .i64 (y1 : Int), .int .i64 (y2 : Int), .int .i64 (y3 : Int)] 3)) b1 (.slice (some ⟨go, 0, none⟩) M co) M (ints ol)) := Lib.hid ((HO.out.below GB (Nat.le_refl _)).alloc _)
        have CX : Hid (IRow (w'.alloc (.cells #[.int .i64 (y0 : Int), .int .i64 (y1 : Int), .int .i64 (y2 : Int), .int .i64 (y3 : Int)] 3)) w'.heap.size [y0, y1, y2, y3]) := Lib.hid (IRow.new w' [y0, y1, y2, y3])
        have BX : Hid (Below b1 w1 (w'.alloc (.cells #[.int .i64 (y0 : Int), .int .i64 (y1 : Int), .int .i64 (y2 : Int), .int .i64 (y3 : Int)] 3))) := Lib.hid ((HB.out.trans (GB.mono HSZ.out)).alloc HBW _)
        have SX : Hid (b1 ≤ (w'.alloc (.cells #[.int .i64 (y0 : Int), .int .i64 (y1 : Int), .int .i64 (y2 : Int), .int .i64 (y3 : Int)] 3)).heap.size) := Lib.hid (Nat.le_trans HBW (by simp))
        obtain ⟨gw, hgw⟩ : ∃ gw, gw = w'.heap.size := ⟨_, rfl⟩
        clear hG hgr GB HBW YC HO HB
        simp only [fill, dstAt, List.getElem?_cons_zero, List.getElem?_cons_succ, Option.bind_some, Act.put, List.setIfInBounds_toArray, List.set_cons_zero, List.set_cons_succ]
        generalize w'.alloc (.cells #[.int .i64 (y0 : Int), .int .i64 (y1 : Int), .int .i64 (y2 : Int), .int .i64 (y3 : Int)] 3) = w9 at *
        rw [← hgw] at CX ⊢
        clear hgw
        generalize vals 0 = v0, vals 1 = v1, vals 2 = v2, vals 3 = v3, vals 4 = v4, vals 5 = v5, vals 6 = v6, vals 7 = v7, vals 8 = v8, vals 9 = v9, vals 10 = v10, vals 11 = v11, vals 12 = v12, vals 13 = v13, vals 14 = v14, vals 15 = v15, vals 16 = v16, vals 17 = v17, vals 18 = v18, vals 19 = v19, vals 20 = v20, vals 21 = v21, vals 22 = v22, vals 23 = v23, vals 24 = v24, vals 25 = v25, vals 26 = v26, vals 27 = v27
        have HSZ := SX
        by_cases q : r = 0
        · subst q
          have TWE0 := TWD.out
          rw [if_pos rfl] at TWE0
          have WC : Hid (∀ w' : World, Below w9.drew.heap.size w9.drew w' → w'.cell? ⟨gw, 0, none⟩ = some (.int .i64 (y0 : Int)) ∧ w'.cell? ⟨gw, 1, none⟩ = some (.int .i64 (y1 : Int)) ∧ w'.cell? ⟨gw, 2, none⟩ = some (.int .i64 (y2 : Int)) ∧ w'.cell? ⟨gw, 3, none⟩ = some (.int .i64 (y3 : Int))) := Lib.hid fun w' hw => by
            have r : IRow w' gw [y0, y1, y2, y3] := IRow.up (show IRow w9.drew gw [y0, y1, y2, y3] from CX.out) hw
            exact ⟨r.cell 0 (by simp), r.cell 1 (by simp), r.cell 2 (by simp), r.cell 3 (by simp)⟩
          have ZC : Hid (∀ w' : World, Below w9.drew.heap.size w9.drew w' → w'.cell? ⟨gx, y0, none⟩ = some (.int .i64 ((Box y0 : Nat) : Int)) ∧ w'.cell? ⟨gx, y1, none⟩ = some (.int .i64 ((Box y1 : Nat) : Int)) ∧ w'.cell? ⟨gx, y2, none⟩ = some (.int .i64 ((Box y2 : Nat) : Int)) ∧ w'.cell? ⟨gx, y3, none⟩ = some (.int .i64 ((Box y3 : Nat) : Int))) := Lib.hid fun w' hw => by
            have r := RX.out w' (BX.out.trans (((below_drewN (Below.refl w9.heap.size w9) 1).trans hw).mono SX.out))
            have c0 := r.cell y0 (by rw [boxes_len]; exact g0)
            have c1 := r.cell y1 (by rw [boxes_len]; exact g1)
            have c2 := r.cell y2 (by rw [boxes_len]; exact g2)
            have c3 := r.cell y3 (by rw [boxes_len]; exact g3)
            rw [boxes_get g0] at c0
            rw [boxes_get g1] at c1
            rw [boxes_get g2] at c2
            rw [boxes_get g3] at c3
            exact ⟨c0, c1, c2, c3⟩
          have hq1 := TU.out
          have m0 := Box_lt g0
          have m1 := Box_lt g1
          have m2 := Box_lt g2
          have m3 := Box_lt g3
          generalize Box y0 = z0 at *
          generalize Box y1 = z1 at *
          generalize Box y2 = z2 at *
          generalize Box y3 = z3 at *
          have mt := xor_lt m1 hq1
          obtain ⟨zt, hzt⟩ : ∃ zt, zt = z1 ^^^ turn := ⟨_, rfl⟩
          have ZT : Hid (bits .xor .i64 (z1 : Int) (turn : Int) = (zt : Int)) := Lib.hid (by rw [i64_xor (by omega) (by omega), hzt])
          rw [← hzt] at TWE0 mt
          have TWE := Lib.hid TWE0
          clear TWE0 TWD hzt hq1
          go_wp2_with fail
          refine wp_region_free [0, 1, 2, 3, 4, 5, 6, 7, 8, 9, 10, 11, 12, 13, 14, 15, 16, 17, 18, 19, 20, 21, 22, 23, 24, 25] 26 [27] (fun w1 w2 => Below w1.heap.size w1 w2) (fun k' w' v => match k' with
            | 0 => v = .slice (some ⟨gx, 0, none⟩) 256 256
            | 1 => v = .slice (some ⟨gw, 0, none⟩) 4 4
            | 2 => v = .pointer (some ⟨gw, 1, none⟩)
            | 3 => v = .int .i64 ((y1 : Int))
            | 4 => v = .pointer (some ⟨gx, y1, none⟩)
            | 5 => v = .int .i64 ((z1 : Int))
            | 6 => v = .int .i64 ((turn : Int))
            | 7 => v = .int .i64 ((zt : Int))
            | 8 => v = .slice (some ⟨gx, 0, none⟩) 256 256
            | 9 => v = .slice (some ⟨gw, 0, none⟩) 4 4
            | 10 => v = .pointer (some ⟨gw, 2, none⟩)
            | 11 => v = .int .i64 ((y2 : Int))
            | 12 => v = .pointer (some ⟨gx, y2, none⟩)
            | 13 => v = .int .i64 ((z2 : Int))
            | 14 => v = .slice (some ⟨gx, 0, none⟩) 256 256
            | 15 => v = .slice (some ⟨gw, 0, none⟩) 4 4
            | 16 => v = .pointer (some ⟨gw, 3, none⟩)
            | 17 => v = .int .i64 ((y3 : Int))
            | 18 => v = .pointer (some ⟨gx, y3, none⟩)
            | 19 => v = .int .i64 ((z3 : Int))
            | 20 => v = .slice (some ⟨gx, 0, none⟩) 256 256
            | 21 => v = .slice (some ⟨gw, 0, none⟩) 4 4
            | 22 => v = .pointer (some ⟨gw, 0, none⟩)
            | 23 => v = .int .i64 ((y0 : Int))
            | 24 => v = .pointer (some ⟨gx, y0, none⟩)
            | _ => v = .int .i64 ((z0 : Int))) (by kernel_rfl) (by kernel_rfl) (Below.refl _ _) (fun _ _ _ h k => h.trans (k.mono h.size)) (fun k' w1 w2 v h => match k' with
            | 0 => fun x => x
            | 1 => fun x => x
            | 2 => fun x => x
            | 3 => fun x => x
            | 4 => fun x => x
            | 5 => fun x => x
            | 6 => fun x => x
            | 7 => fun x => x
            | 8 => fun x => x
            | 9 => fun x => x
            | 10 => fun x => x
            | 11 => fun x => x
            | 12 => fun x => x
            | 13 => fun x => x
            | 14 => fun x => x
            | 15 => fun x => x
            | 16 => fun x => x
            | 17 => fun x => x
            | 18 => fun x => x
            | 19 => fun x => x
            | 20 => fun x => x
            | 21 => fun x => x
            | 22 => fun x => x
            | 23 => fun x => x
            | 24 => fun x => x
            | _ + 25 => fun x => x) (fun _ _ _ _ _ h => h) ?_ _ (by rfl) ?_
          · refine obs_cons (by rfl) (fun vals w' hgr hdep K hK => ?_) (obs_cons (by rfl) (fun vals w' hgr hdep K hK => ?_) (obs_cons (by rfl) (fun vals w' hgr hdep K hK => ?_) (obs_cons (by rfl) (fun vals w' hgr hdep K hK => ?_) (obs_cons (by rfl) (fun vals w' hgr hdep K hK => ?_) (obs_cons (by rfl) (fun vals w' hgr hdep K hK => ?_) (obs_cons (by rfl) (fun vals w' hgr hdep K hK => ?_) (obs_cons (by rfl) (fun vals w' hgr hdep K hK => ?_) (obs_cons (by rfl) (fun vals w' hgr hdep K hK => ?_) (obs_cons (by rfl) (fun vals w' hgr hdep K hK => ?_) (obs_cons (by rfl) (fun vals w' hgr hdep K hK => ?_) (obs_cons (by rfl) (fun vals w' hgr hdep K hK => ?_) (obs_cons (by rfl) (fun vals w' hgr hdep K hK => ?_) (obs_cons (by rfl) (fun vals w' hgr hdep K hK => ?_) (obs_cons (by rfl) (fun vals w' hgr hdep K hK => ?_) (obs_cons (by rfl) (fun vals w' hgr hdep K hK => ?_) (obs_cons (by rfl) (fun vals w' hgr hdep K hK => ?_) (obs_cons (by rfl) (fun vals w' hgr hdep K hK => ?_) (obs_cons (by rfl) (fun vals w' hgr hdep K hK => ?_) (obs_cons (by rfl) (fun vals w' hgr hdep K hK => ?_) (obs_cons (by rfl) (fun vals w' hgr hdep K hK => ?_) (obs_cons (by rfl) (fun vals w' hgr hdep K hK => ?_) (obs_cons (by rfl) (fun vals w' hgr hdep K hK => ?_) (obs_cons (by rfl) (fun vals w' hgr hdep K hK => ?_) (obs_cons (by rfl) (fun vals w' hgr hdep K hK => ?_) (obs_cons (by rfl) (fun vals w' hgr hdep K hK => ?_) (obs_nil))))))))))))))))))))))))))
            · exact wp_move (.tmp 3) rfl _ (at_out _ (by kernel_rfl) rfl) (hK _ _ (Below.refl _ _) rfl)
            · exact wp_move (.tmp 8) rfl _ (at_out _ (by kernel_rfl) rfl) (hK _ _ (Below.refl _ _) rfl)
            · exact st_int_at0 (.tmp 59) (.const (.int .i64 1)) rfl gw 4 4 1 _ ((at_dst 1 (by kernel_rfl)).trans (hdep 1 (by simp) (by kernel_rfl))) rfl rfl (by decide) (hK _ _ (Below.refl _ _) rfl)
            · exact wp_load1 (.tmp 60) rfl ⟨gw, 1, none⟩ ((at_dst 2 (by kernel_rfl)).trans (hdep 2 (by simp) (by kernel_rfl))) Tryz.underlying3 rfl _ ((WC.out w' hgr).2.1) (hK _ _ (Below.refl _ _) rfl)
            · exact st_int_at0 (.tmp 58) (.tmp 61) rfl gx 256 256 y1 _ ((at_dst 0 (by kernel_rfl)).trans (hdep 0 (by simp) (by kernel_rfl))) ((at_dst 3 (by kernel_rfl)).trans (hdep 3 (by simp) (by kernel_rfl))) rfl (by omega) (hK _ _ (Below.refl _ _) rfl)
            · exact wp_load1 (.tmp 62) rfl ⟨gx, y1, none⟩ ((at_dst 4 (by kernel_rfl)).trans (hdep 4 (by simp) (by kernel_rfl))) Tryz.underlying3 rfl _ ((ZC.out w' hgr).2.1) (hK _ _ (Below.refl _ _) rfl)
            · exact wp_move (.tmp 6) rfl _ (at_out _ (by kernel_rfl) rfl) (hK _ _ (Below.refl _ _) rfl)
            · exact wp_bin (.tmp 63) (.tmp 64) rfl _ _ _ ((at_dst 5 (by kernel_rfl)).trans (hdep 5 (by simp) (by kernel_rfl))) ((at_dst 6 (by kernel_rfl)).trans (hdep 6 (by simp) (by kernel_rfl))) (b_xor _ _ _ _ _ _ ZT.out) (hK _ _ (Below.refl _ _) rfl)
            · exact wp_move (.tmp 3) rfl _ (at_out _ (by kernel_rfl) rfl) (hK _ _ (Below.refl _ _) rfl)
            · exact wp_move (.tmp 8) rfl _ (at_out _ (by kernel_rfl) rfl) (hK _ _ (Below.refl _ _) rfl)
            · exact st_int_at0 (.tmp 67) (.const (.int .i64 2)) rfl gw 4 4 2 _ ((at_dst 9 (by kernel_rfl)).trans (hdep 9 (by simp) (by kernel_rfl))) rfl rfl (by decide) (hK _ _ (Below.refl _ _) rfl)
            · exact wp_load1 (.tmp 68) rfl ⟨gw, 2, none⟩ ((at_dst 10 (by kernel_rfl)).trans (hdep 10 (by simp) (by kernel_rfl))) Tryz.underlying3 rfl _ ((WC.out w' hgr).2.2.1) (hK _ _ (Below.refl _ _) rfl)
            · exact st_int_at0 (.tmp 66) (.tmp 69) rfl gx 256 256 y2 _ ((at_dst 8 (by kernel_rfl)).trans (hdep 8 (by simp) (by kernel_rfl))) ((at_dst 11 (by kernel_rfl)).trans (hdep 11 (by simp) (by kernel_rfl))) rfl (by omega) (hK _ _ (Below.refl _ _) rfl)
            · exact wp_load1 (.tmp 70) rfl ⟨gx, y2, none⟩ ((at_dst 12 (by kernel_rfl)).trans (hdep 12 (by simp) (by kernel_rfl))) Tryz.underlying3 rfl _ ((ZC.out w' hgr).2.2.1) (hK _ _ (Below.refl _ _) rfl)
            · exact wp_move (.tmp 3) rfl _ (at_out _ (by kernel_rfl) rfl) (hK _ _ (Below.refl _ _) rfl)
            · exact wp_move (.tmp 8) rfl _ (at_out _ (by kernel_rfl) rfl) (hK _ _ (Below.refl _ _) rfl)
            · exact st_int_at0 (.tmp 73) (.const (.int .i64 3)) rfl gw 4 4 3 _ ((at_dst 15 (by kernel_rfl)).trans (hdep 15 (by simp) (by kernel_rfl))) rfl rfl (by decide) (hK _ _ (Below.refl _ _) rfl)
            · exact wp_load1 (.tmp 74) rfl ⟨gw, 3, none⟩ ((at_dst 16 (by kernel_rfl)).trans (hdep 16 (by simp) (by kernel_rfl))) Tryz.underlying3 rfl _ ((WC.out w' hgr).2.2.2) (hK _ _ (Below.refl _ _) rfl)
            · exact st_int_at0 (.tmp 72) (.tmp 75) rfl gx 256 256 y3 _ ((at_dst 14 (by kernel_rfl)).trans (hdep 14 (by simp) (by kernel_rfl))) ((at_dst 17 (by kernel_rfl)).trans (hdep 17 (by simp) (by kernel_rfl))) rfl (by omega) (hK _ _ (Below.refl _ _) rfl)
            · exact wp_load1 (.tmp 76) rfl ⟨gx, y3, none⟩ ((at_dst 18 (by kernel_rfl)).trans (hdep 18 (by simp) (by kernel_rfl))) Tryz.underlying3 rfl _ ((ZC.out w' hgr).2.2.2) (hK _ _ (Below.refl _ _) rfl)
            · exact wp_move (.tmp 3) rfl _ (at_out _ (by kernel_rfl) rfl) (hK _ _ (Below.refl _ _) rfl)
            · exact wp_move (.tmp 8) rfl _ (at_out _ (by kernel_rfl) rfl) (hK _ _ (Below.refl _ _) rfl)
            · exact st_int_at0 (.tmp 79) (.const (.int .i64 0)) rfl gw 4 4 0 _ ((at_dst 21 (by kernel_rfl)).trans (hdep 21 (by simp) (by kernel_rfl))) rfl rfl (by decide) (hK _ _ (Below.refl _ _) rfl)
            · exact wp_load1 (.tmp 80) rfl ⟨gw, 0, none⟩ ((at_dst 22 (by kernel_rfl)).trans (hdep 22 (by simp) (by kernel_rfl))) Tryz.underlying3 rfl _ ((WC.out w' hgr).1) (hK _ _ (Below.refl _ _) rfl)
            · exact st_int_at0 (.tmp 78) (.tmp 81) rfl gx 256 256 y0 _ ((at_dst 20 (by kernel_rfl)).trans (hdep 20 (by simp) (by kernel_rfl))) ((at_dst 23 (by kernel_rfl)).trans (hdep 23 (by simp) (by kernel_rfl))) rfl (by omega) (hK _ _ (Below.refl _ _) rfl)
            · exact wp_load1 (.tmp 82) rfl ⟨gx, y0, none⟩ ((at_dst 24 (by kernel_rfl)).trans (hdep 24 (by simp) (by kernel_rfl))) Tryz.underlying3 rfl _ ((ZC.out w' hgr).1) (hK _ _ (Below.refl _ _) rfl)
          · intro vals w' hgr hG
            refine st_slicei_4 (.tmp 65) (.tmp 71) (.tmp 77) (.tmp 83) rfl (zt : Int) (z2 : Int) (z3 : Int) (z0 : Int) ((at_dst 7 (by kernel_rfl)).trans (hG 7 (by simp))) ((at_dst 13 (by kernel_rfl)).trans (hG 13 (by simp))) ((at_dst 19 (by kernel_rfl)).trans (hG 19 (by simp))) ((at_dst 25 (by kernel_rfl)).trans (hG 25 (by simp))) ?_
            refine wpAnyH_next 27 _ rfl rfl (by kernel_rfl) (st_assign (.tmp 84) _ rfl (put_tmps_eq (fill_size _ _ _) (by kernel_rfl)) ⟨trivial, wpAnyH_done (by kernel_rfl) ?_ _⟩)
            have GB := ((below_drewN (Below.refl w9.heap.size w9) 1).trans hgr)
            have HBW : b1 ≤ w'.heap.size := Nat.le_trans HSZ.out GB.size
            have HO2 : Hid (Owns (w'.alloc (.cells #[.int .i64 (zt : Int), .int .i64 (z2 : Int), .int .i64 (z3 : Int), .int .i64 (z0 : Int)] 3)) b1 (.slice (some ⟨go, 0, none⟩) M co) M (ints ol)) := Lib.hid ((OX.out.below GB (Nat.le_refl _)).alloc _)
            have CW : Hid (IRow (w'.alloc (.cells #[.int .i64 (zt : Int), .int .i64 (z2 : Int), .int .i64 (z3 : Int), .int .i64 (z0 : Int)] 3)) w'.heap.size [zt, z2, z3, z0]) := Lib.hid (IRow.new w' [zt, z2, z3, z0])
            have HB2 : Hid (Below b1 w1 (w'.alloc (.cells #[.int .i64 (zt : Int), .int .i64 (z2 : Int), .int .i64 (z3 : Int), .int .i64 (z0 : Int)] 3))) := Lib.hid ((BX.out.trans (GB.mono SX.out)).alloc HBW _)
            have SX2 : Hid (b1 ≤ (w'.alloc (.cells #[.int .i64 (zt : Int), .int .i64 (z2 : Int), .int .i64 (z3 : Int), .int .i64 (z0 : Int)] 3)).heap.size) := Lib.hid (Nat.le_trans HBW (by simp))
            obtain ⟨gv, hgw⟩ : ∃ gw, gw = w'.heap.size := ⟨_, rfl⟩
            clear hG hgr GB HBW WC ZC OX BX CX
            simp only [fill, dstAt, List.getElem?_cons_zero, List.getElem?_cons_succ, Option.bind_some, Act.put, List.setIfInBounds_toArray, List.set_cons_zero, List.set_cons_succ]
            generalize w'.alloc (.cells #[.int .i64 (zt : Int), .int .i64 (z2 : Int), .int .i64 (z3 : Int), .int .i64 (z0 : Int)] 3) = wa at *
            rw [← hgw] at CW ⊢
            clear hgw
            generalize vals 0 = p0, vals 1 = p1, vals 2 = p2, vals 3 = p3, vals 4 = p4, vals 5 = p5, vals 6 = p6, vals 7 = p7, vals 8 = p8, vals 9 = p9, vals 10 = p10, vals 11 = p11, vals 12 = p12, vals 13 = p13, vals 14 = p14, vals 15 = p15, vals 16 = p16, vals 17 = p17, vals 18 = p18, vals 19 = p19, vals 20 = p20, vals 21 = p21, vals 22 = p22, vals 23 = p23, vals 24 = p24, vals 25 = p25
            obtain ⟨gw, hgv⟩ : ∃ gw, gw = gv := ⟨_, rfl⟩
            rw [← hgv] at CW ⊢
            clear hgv
            go_wp2_with fail
            refine (times_ref turn 2 TU.out (by decide) _).mono ?_
            rintro e wt ⟨rfl, rfl⟩
            have TU2 : Hid (T turn 2 < 256) := Lib.hid (T_lt TU.out 2)
            have NTU : Hid (nturn 8 i turn = T turn 2) := Lib.hid (by unfold nturn; rw [if_pos HRM.out.symm])
            obtain ⟨tu2, htu⟩ : ∃ tu2, tu2 = T turn 2 := ⟨_, rfl⟩
            rw [← htu] at TU2 NTU ⊢
            clear htu
            obtain ⟨tw, htw⟩ : ∃ tw, tw = [zt, z2, z3, z0] := ⟨_, rfl⟩
            rw [← htw] at CW
            have TW : Hid (tword 8 i turn ol = tw) := Lib.hid (by rw [htw]; exact TWE.out)
            have TB : Hid (Byt tw) := Lib.hid (by
              rw [htw]; intro z hz
              simp only [List.mem_cons, List.not_mem_nil, or_false] at hz
              rcases hz with rfl | rfl | rfl | rfl
              · exact mt
              · exact m2
              · exact m3
              · exact m0)
            have TL : Hid (tw.length = 4) := Lib.hid (by rw [htw]; rfl)
            clear htw TWE
            go_wp2_with fail
            go_loopw [5, 9] (fun ov kv wr => ∃ k m : Nat, kv = .int .i64 (k : Int) ∧ k ≤ 4 ∧ Hid (m = M + k) ∧ Hid (Owns wr b1 ov m (ints (bput tw ol bb k))) ∧ Hid (IRow wr gw tw) ∧ Hid (Below b1 w1 wr)) (fun _ kv _ => 4 - (intOf kv).toNat)
            case atStart => exact ⟨0, M, rfl, by omega, Lib.hid rfl, Lib.hid (by rw [bput_zero]; exact HO2.out), CW, HB2⟩
            case round =>
              obtain ⟨k, m, rfl, hk, HMK, HO3, HW, HB⟩ := hrel
              clear HO2 CW HB2
              by_cases hk4 : k < 4
              · have hb1 : b1 ≤ wr.heap.size := by rw [HB1.out]; exact HB.out.size
                have hib := HI.out
                have hmm := HM0.out
                have hmk := HMK.out
                obtain ⟨Ao, co, rfl, _⟩ := HO3.out.slice
                obtain ⟨go, rfl, _, _⟩ := HO3.out.form (by omega)
                have HO : Hid (Owns wr b1 (.slice (some ⟨go, 0, none⟩) m co) m (ints (bput tw ol bb k))) := HO3
                obtain ⟨bi, hbi0⟩ : ∃ bi, bi = bb + k := ⟨_, rfl⟩
                have hbb := HBB.out
                have hol := OL.out
                have hbi : bi < m := by omega
                have qb : 4 * ((i : Int) - 8) + (k : Int) = (bi : Int) := by omega
                have bx := TB.out.get k
                have by_ := (OB.out).get bi
                have PN0 := bput_next tw ol bb hk4
                rw [← hbi0] at PN0
                have XC : Hid (∀ w' : World, Below wr.drew.heap.size wr.drew w' → w'.cell? ⟨gw, k, none⟩ = some (.int .i64 ((tw.getD k 0 : Nat) : Int)) ∧ w'.cell? ⟨go, bi, none⟩ = some (.int .u8 ((ol.getD bi 0 : Nat) : Int))) := Lib.hid fun w' hw => by
                  have r : IRow w' gw tw := IRow.up (show IRow wr.drew gw tw from HW.out) hw
                  have o9 := HO.out.below ((below_drewN (Below.refl wr.heap.size wr) 1).trans hw) (Nat.le_refl _)
                  have c9 := own_cell o9 (j := bi) (by rw [bput_len _ _ _ hk]; omega)
                  rw [show (bput tw ol bb k).getD bi 0 = ol.getD bi 0 from getD_app (by omega)] at c9
                  exact ⟨r.cell k (by rw [TL.out]; exact hk4), c9⟩
                have HM2 : Hid (m + 1 = M + (k + 1)) := Lib.hid (by omega)
                generalize tw.getD k 0 = x at *
                generalize ol.getD bi 0 = y at *
                have bxy := xor_lt bx by_
                obtain ⟨b, hbx⟩ : ∃ b, b = x ^^^ y := ⟨_, rfl⟩
                have XB : Hid (bits .xor .i64 (x : Int) (y : Int) = (b : Int)) := Lib.hid (by rw [i64_xor (by omega) (by omega), hbx])
                rw [← hbx] at PN0 bxy
                have PN := Lib.hid PN0
                have ib : i ≤ 100 := by omega
                have mb : m ≤ 1000 := by omega
                clear hbi0 PN0 hbx hmk hbb hol hib hmm
                go_wp2_with fail
                refine wp_region_free [0, 1, 2, 3, 4, 5, 6, 7, 8, 9, 10, 11, 12, 13, 14, 15, 16, 17] 18 [19] (fun w1 w2 => Below w1.heap.size w1 w2) (fun k' w' v => match k' with
                  | 0 => v = .slice (some ⟨go, 0, none⟩) m co
                  | 1 => v = .slice (some ⟨gw, 0, none⟩) 4 4
                  | 2 => v = .int .i64 ((k : Int))
                  | 3 => v = .pointer (some ⟨gw, k, none⟩)
                  | 4 => v = .int .i64 ((x : Int))
                  | 5 => v = .slice (some ⟨go, 0, none⟩) m co
                  | 6 => v = .int .i64 ((i : Int))
                  | 7 => v = .int .i64 8
                  | 8 => v = .int .i64 ((i : Int) - 8)
                  | 9 => v = .int .i64 (4 * ((i : Int) - 8))
                  | 10 => v = .int .i64 ((k : Int))
                  | 11 => v = .int .i64 (4 * ((i : Int) - 8) + ((k : Int)))
                  | 12 => v = .pointer (some ⟨go, bi, none⟩)
                  | 13 => v = .int .u8 ((y : Int))
                  | 14 => v = .int .i64 ((y : Int))
                  | 15 => v = .int .i64 ((b : Int))
                  | 16 => v = .int .u8 ((b : Int))
                  | _ => ∃ A1, v = .slice A1 1 1 ∧ Holds w' w'.heap.size A1 1 1 [(b : Int)]) (by kernel_rfl) (by kernel_rfl) (Below.refl _ _) (fun _ _ _ h k => h.trans (k.mono h.size)) (fun k' w1 w2 v h => match k' with
                  | 0 => fun x => x
                  | 1 => fun x => x
                  | 2 => fun x => x
                  | 3 => fun x => x
                  | 4 => fun x => x
                  | 5 => fun x => x
                  | 6 => fun x => x
                  | 7 => fun x => x
                  | 8 => fun x => x
                  | 9 => fun x => x
                  | 10 => fun x => x
                  | 11 => fun x => x
                  | 12 => fun x => x
                  | 13 => fun x => x
                  | 14 => fun x => x
                  | 15 => fun x => x
                  | 16 => fun x => x
                  | _ + 17 => fun ⟨A1, e, x⟩ => ⟨A1, e, (x.below h).more h.size⟩) (fun _ _ _ _ _ h => h) ?_ _ (by rfl) ?_
                · refine obs_cons (by rfl) (fun vals w' hgr hdep K hK => ?_) (obs_cons (by rfl) (fun vals w' hgr hdep K hK => ?_) (obs_cons (by rfl) (fun vals w' hgr hdep K hK => ?_) (obs_cons (by rfl) (fun vals w' hgr hdep K hK => ?_) (obs_cons (by rfl) (fun vals w' hgr hdep K hK => ?_) (obs_cons (by rfl) (fun vals w' hgr hdep K hK => ?_) (obs_cons (by rfl) (fun vals w' hgr hdep K hK => ?_) (obs_cons (by rfl) (fun vals w' hgr hdep K hK => ?_) (obs_cons (by rfl) (fun vals w' hgr hdep K hK => ?_) (obs_cons (by rfl) (fun vals w' hgr hdep K hK => ?_) (obs_cons (by rfl) (fun vals w' hgr hdep K hK => ?_) (obs_cons (by rfl) (fun vals w' hgr hdep K hK => ?_) (obs_cons (by rfl) (fun vals w' hgr hdep K hK => ?_) (obs_cons (by rfl) (fun vals w' hgr hdep K hK => ?_) (obs_cons (by rfl) (fun vals w' hgr hdep K hK => ?_) (obs_cons (by rfl) (fun vals w' hgr hdep K hK => ?_) (obs_cons (by rfl) (fun vals w' hgr hdep K hK => ?_) (obs_cons (by rfl) (fun vals w' hgr hdep K hK => ?_) (obs_nil))))))))))))))))))
                  · exact wp_move (.tmp 5) rfl _ (at_out _ (by kernel_rfl) rfl) (hK _ _ (Below.refl _ _) rfl)
                  · exact wp_move (.tmp 8) rfl _ (at_out _ (by kernel_rfl) rfl) (hK _ _ (Below.refl _ _) rfl)
                  · exact wp_move (.tmp 9) rfl _ (at_out _ (by kernel_rfl) rfl) (hK _ _ (Below.refl _ _) rfl)
                  · exact st_int_at0 (.tmp 124) (.tmp 125) rfl gw 4 4 k _ ((at_dst 1 (by kernel_rfl)).trans (hdep 1 (by simp) (by kernel_rfl))) ((at_dst 2 (by kernel_rfl)).trans (hdep 2 (by simp) (by kernel_rfl))) rfl hk4 (hK _ _ (Below.refl _ _) rfl)
                  · exact wp_load1 (.tmp 126) rfl ⟨gw, k, none⟩ ((at_dst 3 (by kernel_rfl)).trans (hdep 3 (by simp) (by kernel_rfl))) Tryz.underlying3 rfl _ ((XC.out w' hgr).1) (hK _ _ (Below.refl _ _) rfl)
                  · exact wp_move (.tmp 5) rfl _ (at_out _ (by kernel_rfl) rfl) (hK _ _ (Below.refl _ _) rfl)
                  · exact wp_move (.tmp 7) rfl _ (at_out _ (by kernel_rfl) rfl) (hK _ _ (Below.refl _ _) rfl)
                  · exact wp_move (.tmp 4) rfl _ (at_out _ (by kernel_rfl) rfl) (hK _ _ (Below.refl _ _) rfl)
                  · exact wp_bin (.tmp 129) (.tmp 130) rfl _ _ _ ((at_dst 6 (by kernel_rfl)).trans (hdep 6 (by simp) (by kernel_rfl))) ((at_dst 7 (by kernel_rfl)).trans (hdep 7 (by simp) (by kernel_rfl))) (b_sub _ _ _ _ _ (by omega) (by omega)) (hK _ _ (Below.refl _ _) rfl)
                  · exact wp_bin (.const (.int .i64 4)) (.tmp 131) rfl _ _ _ rfl ((at_dst 8 (by kernel_rfl)).trans (hdep 8 (by simp) (by kernel_rfl))) (b_mul _ _ _ _ _ (by omega) (by omega)) (hK _ _ (Below.refl _ _) rfl)
                  · exact wp_move (.tmp 9) rfl _ (at_out _ (by kernel_rfl) rfl) (hK _ _ (Below.refl _ _) rfl)
                  · exact wp_bin (.tmp 132) (.tmp 133) rfl _ _ _ ((at_dst 9 (by kernel_rfl)).trans (hdep 9 (by simp) (by kernel_rfl))) ((at_dst 10 (by kernel_rfl)).trans (hdep 10 (by simp) (by kernel_rfl))) (b_add _ _ _ _ _ (by omega) (by omega)) (hK _ _ (Below.refl _ _) rfl)
                  · exact st_byte_at0 (.tmp 128) (.tmp 134) rfl go m co bi _ ((at_dst 5 (by kernel_rfl)).trans (hdep 5 (by simp) (by kernel_rfl))) ((at_dst 11 (by kernel_rfl)).trans (hdep 11 (by simp) (by kernel_rfl))) qb hbi (hK _ _ (Below.refl _ _) rfl)
                  · exact wp_load1 (.tmp 135) rfl ⟨go, bi, none⟩ ((at_dst 12 (by kernel_rfl)).trans (hdep 12 (by simp) (by kernel_rfl))) Tryz.underlying5 rfl _ ((XC.out w' hgr).2) (hK _ _ (Below.refl _ _) rfl)
                  · exact wp_conv (.tmp 136) rfl _ _ ((at_dst 13 (by kernel_rfl)).trans (hdep 13 (by simp) (by kernel_rfl))) (conv_int _ _ (by omega) (by omega)) (hK _ _ (Below.refl _ _) rfl)
                  · exact wp_bin (.tmp 127) (.tmp 137) rfl _ _ _ ((at_dst 4 (by kernel_rfl)).trans (hdep 4 (by simp) (by kernel_rfl))) ((at_dst 14 (by kernel_rfl)).trans (hdep 14 (by simp) (by kernel_rfl))) (b_xor _ _ _ _ _ _ XB.out) (hK _ _ (Below.refl _ _) rfl)
                  · exact wp_conv (.tmp 138) rfl _ _ ((at_dst 15 (by kernel_rfl)).trans (hdep 15 (by simp) (by kernel_rfl))) (conv_u8 _ _ (by omega) (by omega)) (hK _ _ (Below.refl _ _) rfl)
                  · exact st_slice8_1 (.tmp 139) rfl _ ((at_dst 16 (by kernel_rfl)).trans (hdep 16 (by simp) (by kernel_rfl))) (hK _ _ ((Below.refl _ _).alloc (Nat.le_refl _) _) ⟨_, rfl, (Holds.lit w' [(b : Int)] #[.int .u8 (b : Int)] rfl (by simp [maxLen]) (fun z hz => by simp at hz; omega)).more (by simp)⟩)
                · intro vals w' hgr hG
                  obtain ⟨A1, ea, la⟩ : ∃ A1, vals 17 = .slice A1 1 1 ∧ Holds w' w'.heap.size A1 1 1 [(b : Int)] := hG 17 (by simp)
                  have GB := (below_drewN (Below.refl wr.heap.size wr) 1).trans hgr
                  have O8 := HO.out.below GB (Nat.le_refl _)
                  have C8 : IRow w' gw tw := IRow.up HW.out GB
                  have B8 := HB.out.trans (GB.mono hb1)
                  refine wp_append_bytes (.tmp 123) (.tmp 140) rfl b1 _ m _ ((at_dst 0 (by kernel_rfl)).trans (hG 0 (by simp))) O8 _ A1 1 1 [(b : Int)] ((at_dst 17 (by kernel_rfl)).trans ea) la (by omega) (Nat.le_trans hb1 GB.size) (fun v9 w9 o9 g9 => ?_)
                  refine wpAnyH_next 19 _ rfl rfl (by kernel_rfl) (st_assign (.tmp 141) _ rfl (put_tmps_eq (fill_size _ _ _) (by kernel_rfl)) ⟨trivial, wpAnyH_done (by kernel_rfl) ?_ _⟩)
                  have OX : Hid (Owns w9 b1 v9 (m + 1) (ints (bput tw ol bb (k + 1)))) := Lib.hid (by rw [PN.out, ints_app]; exact o9)
                  have CX : Hid (IRow w9 gw tw) := Lib.hid (Blk.grown C8 g9 (fun e => own_oth O8 C8 (by decide) e.symm))
                  have BX : Hid (Below b1 w1 w9) := Lib.hid (B8.grown g9 (Nat.le_trans hb1 GB.size) fun g hg => (O8.lt g hg).1)
                  clear hG hgr GB O8 C8 B8 la o9 g9 HO HW HB XC
                  simp only [fill, dstAt, List.getElem?_cons_zero, List.getElem?_cons_succ, Option.bind_some, Act.put, List.setIfInBounds_toArray, List.set_cons_zero, List.set_cons_succ]
                  generalize vals 0 = z0, vals 1 = z1, vals 2 = z2, vals 3 = z3, vals 4 = z4, vals 5 = z5, vals 6 = z6, vals 7 = z7, vals 8 = z8, vals 9 = z9, vals 10 = z10, vals 11 = z11, vals 12 = z12, vals 13 = z13, vals 14 = z14, vals 15 = z15, vals 16 = z16, vals 17 = z17
                  go_wp2_with fail
                  go_roundw
                  case rel => exact ⟨k + 1, m + 1, by go_num, by omega, HM2, OX, CX, BX⟩
                  case measure => simp [intOf]; omega
              · obtain rfl : k = 4 := by omega
                have NW : Hid (bput tw ol bb 4 = ol ++ nword 8 i turn ol) := Lib.hid (by
                  unfold bput nword
                  rw [TW.out, HBB.out, List.take_of_length_le (by simp)])
                have hltv := HLT.out
                have OE0 := HO3.out
                rw [NW.out] at OE0
                have OE := Lib.hid OE0
                clear OE0
                have hib := HI.out
                have ME : Hid (m = 4 * (i + 1)) := Lib.hid (by have := HMK.out; have := HM0.out; omega)
                have IE : Hid (8 ≤ i + 1 ∧ i + 1 ≤ 60) := Lib.hid (by omega)
                have BE : Hid (Byt (ol ++ nword 8 i turn ol) ∧ (ol ++ nword 8 i turn ol).length = m) := Lib.hid ⟨Byt.app OB.out (nword_byt OB.out TU.out), by rw [List.length_append, nword_len, OL.out, ME.out, HM0.out]; omega⟩
                have KE : Hid (kgo 8 (60 - (i + 1)) (i + 1) tu2 (ol ++ nword 8 i turn ol) = R) := Lib.hid (by
                  have := HE.out
                  rw [show 60 - i = (60 - (i + 1)) + 1 by omega, kgo, NTU.out] at this
                  exact this)
                have ib : i < 60 := by omega
                clear hib hltv HO3 HW NW
                go_wp2_with fail
                go_roundw
                case rel => exact ⟨i + 1, m, tu2, _, by go_num, rfl, ME, OE, BE, TU2, IE, KE, HB⟩
                case measure => simp [intOf]; omega
        · have gr : ((r : Int) == 0) = false := by rw [beq_eq_false_iff_ne]; omega
          by_cases q4 : r = 4
          · subst q4
            have NTU : Hid (nturn 8 i turn = turn) := Lib.hid (by unfold nturn; rw [if_neg (by rw [← HRM.out]; decide)])
            have TWE0 := TWD.out
            rw [if_neg (by decide), if_pos (by simp)] at TWE0
            have WC : Hid (∀ w' : World, Below w9.drew.heap.size w9.drew w' → w'.cell? ⟨gw, 0, none⟩ = some (.int .i64 (y0 : Int)) ∧ w'.cell? ⟨gw, 1, none⟩ = some (.int .i64 (y1 : Int)) ∧ w'.cell? ⟨gw, 2, none⟩ = some (.int .i64 (y2 : Int)) ∧ w'.cell? ⟨gw, 3, none⟩ = some (.int .i64 (y3 : Int))) := Lib.hid fun w' hw => by
              have r : IRow w' gw [y0, y1, y2, y3] := IRow.up (show IRow w9.drew gw [y0, y1, y2, y3] from CX.out) hw
              exact ⟨r.cell 0 (by simp), r.cell 1 (by simp), r.cell 2 (by simp), r.cell 3 (by simp)⟩
            have ZC : Hid (∀ w' : World, Below w9.drew.heap.size w9.drew w' → w'.cell? ⟨gx, y0, none⟩ = some (.int .i64 ((Box y0 : Nat) : Int)) ∧ w'.cell? ⟨gx, y1, none⟩ = some (.int .i64 ((Box y1 : Nat) : Int)) ∧ w'.cell? ⟨gx, y2, none⟩ = some (.int .i64 ((Box y2 : Nat) : Int)) ∧ w'.cell? ⟨gx, y3, none⟩ = some (.int .i64 ((Box y3 : Nat) : Int))) := Lib.hid fun w' hw => by
              have r := RX.out w' (BX.out.trans (((below_drewN (Below.refl w9.heap.size w9) 1).trans hw).mono SX.out))
              have c0 := r.cell y0 (by rw [boxes_len]; exact g0)
              have c1 := r.cell y1 (by rw [boxes_len]; exact g1)
              have c2 := r.cell y2 (by rw [boxes_len]; exact g2)
              have c3 := r.cell y3 (by rw [boxes_len]; exact g3)
              rw [boxes_get g0] at c0
              rw [boxes_get g1] at c1
              rw [boxes_get g2] at c2
              rw [boxes_get g3] at c3
              exact ⟨c0, c1, c2, c3⟩
            have m0 := Box_lt g0
            have m1 := Box_lt g1
            have m2 := Box_lt g2
            have m3 := Box_lt g3
            generalize Box y0 = z0 at *
            generalize Box y1 = z1 at *
            generalize Box y2 = z2 at *
            generalize Box y3 = z3 at *
            have TWE := Lib.hid TWE0
            clear TWE0 TWD
            go_wp2_with fail
            refine wp_region_free [0, 1, 2, 3, 4, 5, 6, 7, 8, 9, 10, 11, 12, 13, 14, 15, 16, 17, 18, 19, 20, 21, 22, 23] 24 [25] (fun w1 w2 => Below w1.heap.size w1 w2) (fun k' w' v => match k' with
              | 0 => v = .slice (some ⟨gx, 0, none⟩) 256 256
              | 1 => v = .slice (some ⟨gw, 0, none⟩) 4 4
              | 2 => v = .pointer (some ⟨gw, 0, none⟩)
              | 3 => v = .int .i64 ((y0 : Int))
              | 4 => v = .pointer (some ⟨gx, y0, none⟩)
              | 5 => v = .int .i64 ((z0 : Int))
              | 6 => v = .slice (some ⟨gx, 0, none⟩) 256 256
              | 7 => v = .slice (some ⟨gw, 0, none⟩) 4 4
              | 8 => v = .pointer (some ⟨gw, 1, none⟩)
              | 9 => v = .int .i64 ((y1 : Int))
              | 10 => v = .pointer (some ⟨gx, y1, none⟩)
              | 11 => v = .int .i64 ((z1 : Int))
              | 12 => v = .slice (some ⟨gx, 0, none⟩) 256 256
              | 13 => v = .slice (some ⟨gw, 0, none⟩) 4 4
              | 14 => v = .pointer (some ⟨gw, 2, none⟩)
              | 15 => v = .int .i64 ((y2 : Int))
              | 16 => v = .pointer (some ⟨gx, y2, none⟩)
              | 17 => v = .int .i64 ((z2 : Int))
              | 18 => v = .slice (some ⟨gx, 0, none⟩) 256 256
              | 19 => v = .slice (some ⟨gw, 0, none⟩) 4 4
              | 20 => v = .pointer (some ⟨gw, 3, none⟩)
              | 21 => v = .int .i64 ((y3 : Int))
              | 22 => v = .pointer (some ⟨gx, y3, none⟩)
              | _ => v = .int .i64 ((z3 : Int))) (by kernel_rfl) (by kernel_rfl) (Below.refl _ _) (fun _ _ _ h k => h.trans (k.mono h.size)) (fun k' w1 w2 v h => match k' with
              | 0 => fun x => x
              | 1 => fun x => x
              | 2 => fun x => x
              | 3 => fun x => x
              | 4 => fun x => x
              | 5 => fun x => x
              | 6 => fun x => x
              | 7 => fun x => x
              | 8 => fun x => x
              | 9 => fun x => x
              | 10 => fun x => x
              | 11 => fun x => x
              | 12 => fun x => x
              | 13 => fun x => x
              | 14 => fun x => x
              | 15 => fun x => x
              | 16 => fun x => x
              | 17 => fun x => x
              | 18 => fun x => x
              | 19 => fun x => x
              | 20 => fun x => x
              | 21 => fun x => x
              | 22 => fun x => x
              | _ + 23 => fun x => x) (fun _ _ _ _ _ h => h) ?_ _ (by rfl) ?_
            · refine obs_cons (by rfl) (fun vals w' hgr hdep K hK => ?_) (obs_cons (by rfl) (fun vals w' hgr hdep K hK => ?_) (obs_cons (by rfl) (fun vals w' hgr hdep K hK => ?_) (obs_cons (by rfl) (fun vals w' hgr hdep K hK => ?_) (obs_cons (by rfl) (fun vals w' hgr hdep K hK => ?_) (obs_cons (by rfl) (fun vals w' hgr hdep K hK => ?_) (obs_cons (by rfl) (fun vals w' hgr hdep K hK => ?_) (obs_cons (by rfl) (fun vals w' hgr hdep K hK => ?_) (obs_cons (by rfl) (fun vals w' hgr hdep K hK => ?_) (obs_cons (by rfl) (fun vals w' hgr hdep K hK => ?_) (obs_cons (by rfl) (fun vals w' hgr hdep K hK => ?_) (obs_cons (by rfl) (fun vals w' hgr hdep K hK => ?_) (obs_cons (by rfl) (fun vals w' hgr hdep K hK => ?_) (obs_cons (by rfl) (fun vals w' hgr hdep K hK => ?_) (obs_cons (by rfl) (fun vals w' hgr hdep K hK => ?_) (obs_cons (by rfl) (fun vals w' hgr hdep K hK => ?_) (obs_cons (by rfl) (fun vals w' hgr hdep K hK => ?_) (obs_cons (by rfl) (fun vals w' hgr hdep K hK => ?_) (obs_cons (by rfl) (fun vals w' hgr hdep K hK => ?_) (obs_cons (by rfl) (fun vals w' hgr hdep K hK => ?_) (obs_cons (by rfl) (fun vals w' hgr hdep K hK => ?_) (obs_cons (by rfl) (fun vals w' hgr hdep K hK => ?_) (obs_cons (by rfl) (fun vals w' hgr hdep K hK => ?_) (obs_cons (by rfl) (fun vals w' hgr hdep K hK => ?_) (obs_nil))))))))))))))))))))))))
              · exact wp_move (.tmp 3) rfl _ (at_out _ (by kernel_rfl) rfl) (hK _ _ (Below.refl _ _) rfl)
              · exact wp_move (.tmp 8) rfl _ (at_out _ (by kernel_rfl) rfl) (hK _ _ (Below.refl _ _) rfl)
              · exact st_int_at0 (.tmp 95) (.const (.int .i64 0)) rfl gw 4 4 0 _ ((at_dst 1 (by kernel_rfl)).trans (hdep 1 (by simp) (by kernel_rfl))) rfl rfl (by decide) (hK _ _ (Below.refl _ _) rfl)
              · exact wp_load1 (.tmp 96) rfl ⟨gw, 0, none⟩ ((at_dst 2 (by kernel_rfl)).trans (hdep 2 (by simp) (by kernel_rfl))) Tryz.underlying3 rfl _ ((WC.out w' hgr).1) (hK _ _ (Below.refl _ _) rfl)
              · exact st_int_at0 (.tmp 94) (.tmp 97) rfl gx 256 256 y0 _ ((at_dst 0 (by kernel_rfl)).trans (hdep 0 (by simp) (by kernel_rfl))) ((at_dst 3 (by kernel_rfl)).trans (hdep 3 (by simp) (by kernel_rfl))) rfl (by omega) (hK _ _ (Below.refl _ _) rfl)
              · exact wp_load1 (.tmp 98) rfl ⟨gx, y0, none⟩ ((at_dst 4 (by kernel_rfl)).trans (hdep 4 (by simp) (by kernel_rfl))) Tryz.underlying3 rfl _ ((ZC.out w' hgr).1) (hK _ _ (Below.refl _ _) rfl)
              · exact wp_move (.tmp 3) rfl _ (at_out _ (by kernel_rfl) rfl) (hK _ _ (Below.refl _ _) rfl)
              · exact wp_move (.tmp 8) rfl _ (at_out _ (by kernel_rfl) rfl) (hK _ _ (Below.refl _ _) rfl)
              · exact st_int_at0 (.tmp 101) (.const (.int .i64 1)) rfl gw 4 4 1 _ ((at_dst 7 (by kernel_rfl)).trans (hdep 7 (by simp) (by kernel_rfl))) rfl rfl (by decide) (hK _ _ (Below.refl _ _) rfl)
              · exact wp_load1 (.tmp 102) rfl ⟨gw, 1, none⟩ ((at_dst 8 (by kernel_rfl)).trans (hdep 8 (by simp) (by kernel_rfl))) Tryz.underlying3 rfl _ ((WC.out w' hgr).2.1) (hK _ _ (Below.refl _ _) rfl)
              · exact st_int_at0 (.tmp 100) (.tmp 103) rfl gx 256 256 y1 _ ((at_dst 6 (by kernel_rfl)).trans (hdep 6 (by simp) (by kernel_rfl))) ((at_dst 9 (by kernel_rfl)).trans (hdep 9 (by simp) (by kernel_rfl))) rfl (by omega) (hK _ _ (Below.refl _ _) rfl)
              · exact wp_load1 (.tmp 104) rfl ⟨gx, y1, none⟩ ((at_dst 10 (by kernel_rfl)).trans (hdep 10 (by simp) (by kernel_rfl))) Tryz.underlying3 rfl _ ((ZC.out w' hgr).2.1) (hK _ _ (Below.refl _ _) rfl)
              · exact wp_move (.tmp 3) rfl _ (at_out _ (by kernel_rfl) rfl) (hK _ _ (Below.refl _ _) rfl)
              · exact wp_move (.tmp 8) rfl _ (at_out _ (by kernel_rfl) rfl) (hK _ _ (Below.refl _ _) rfl)
              · exact st_int_at0 (.tmp 107) (.const (.int .i64 2)) rfl gw 4 4 2 _ ((at_dst 13 (by kernel_rfl)).trans (hdep 13 (by simp) (by kernel_rfl))) rfl rfl (by decide) (hK _ _ (Below.refl _ _) rfl)
              · exact wp_load1 (.tmp 108) rfl ⟨gw, 2, none⟩ ((at_dst 14 (by kernel_rfl)).trans (hdep 14 (by simp) (by kernel_rfl))) Tryz.underlying3 rfl _ ((WC.out w' hgr).2.2.1) (hK _ _ (Below.refl _ _) rfl)
              · exact st_int_at0 (.tmp 106) (.tmp 109) rfl gx 256 256 y2 _ ((at_dst 12 (by kernel_rfl)).trans (hdep 12 (by simp) (by kernel_rfl))) ((at_dst 15 (by kernel_rfl)).trans (hdep 15 (by simp) (by kernel_rfl))) rfl (by omega) (hK _ _ (Below.refl _ _) rfl)
              · exact wp_load1 (.tmp 110) rfl ⟨gx, y2, none⟩ ((at_dst 16 (by kernel_rfl)).trans (hdep 16 (by simp) (by kernel_rfl))) Tryz.underlying3 rfl _ ((ZC.out w' hgr).2.2.1) (hK _ _ (Below.refl _ _) rfl)
              · exact wp_move (.tmp 3) rfl _ (at_out _ (by kernel_rfl) rfl) (hK _ _ (Below.refl _ _) rfl)
              · exact wp_move (.tmp 8) rfl _ (at_out _ (by kernel_rfl) rfl) (hK _ _ (Below.refl _ _) rfl)
              · exact st_int_at0 (.tmp 113) (.const (.int .i64 3)) rfl gw 4 4 3 _ ((at_dst 19 (by kernel_rfl)).trans (hdep 19 (by simp) (by kernel_rfl))) rfl rfl (by decide) (hK _ _ (Below.refl _ _) rfl)
              · exact wp_load1 (.tmp 114) rfl ⟨gw, 3, none⟩ ((at_dst 20 (by kernel_rfl)).trans (hdep 20 (by simp) (by kernel_rfl))) Tryz.underlying3 rfl _ ((WC.out w' hgr).2.2.2) (hK _ _ (Below.refl _ _) rfl)
              · exact st_int_at0 (.tmp 112) (.tmp 115) rfl gx 256 256 y3 _ ((at_dst 18 (by kernel_rfl)).trans (hdep 18 (by simp) (by kernel_rfl))) ((at_dst 21 (by kernel_rfl)).trans (hdep 21 (by simp) (by kernel_rfl))) rfl (by omega) (hK _ _ (Below.refl _ _) rfl)
              · exact wp_load1 (.tmp 116) rfl ⟨gx, y3, none⟩ ((at_dst 22 (by kernel_rfl)).trans (hdep 22 (by simp) (by kernel_rfl))) Tryz.underlying3 rfl _ ((ZC.out w' hgr).2.2.2) (hK _ _ (Below.refl _ _) rfl)
            · intro vals w' hgr hG
              refine st_slicei_4 (.tmp 99) (.tmp 105) (.tmp 111) (.tmp 117) rfl (z0 : Int) (z1 : Int) (z2 : Int) (z3 : Int) ((at_dst 5 (by kernel_rfl)).trans (hG 5 (by simp))) ((at_dst 11 (by kernel_rfl)).trans (hG 11 (by simp))) ((at_dst 17 (by kernel_rfl)).trans (hG 17 (by simp))) ((at_dst 23 (by kernel_rfl)).trans (hG 23 (by simp))) ?_
              refine wpAnyH_next 25 _ rfl rfl (by kernel_rfl) (st_assign (.tmp 118) _ rfl (put_tmps_eq (fill_size _ _ _) (by kernel_rfl)) ⟨trivial, wpAnyH_done (by kernel_rfl) ?_ _⟩)
              have GB := ((below_drewN (Below.refl w9.heap.size w9) 1).trans hgr)
              have HBW : b1 ≤ w'.heap.size := Nat.le_trans HSZ.out GB.size
              have HO2 : Hid (Owns (w'.alloc (.cells #[.int .i64 (z0 : Int), .int .i64 (z1 : Int), .int .i64 (z2 : Int), .int .i64 (z3 : Int)] 3)) b1 (.slice (some ⟨go, 0, none⟩) M co) M (ints ol)) := Lib.hid ((OX.out.below GB (Nat.le_refl _)).alloc _)
              have CW : Hid (IRow (w'.alloc (.cells #[.int .i64 (z0 : Int), .int .i64 (z1 : Int), .int .i64 (z2 : Int), .int .i64 (z3 : Int)] 3)) w'.heap.size [z0, z1, z2, z3]) := Lib.hid (IRow.new w' [z0, z1, z2, z3])
              have HB2 : Hid (Below b1 w1 (w'.alloc (.cells #[.int .i64 (z0 : Int), .int .i64 (z1 : Int), .int .i64 (z2 : Int), .int .i64 (z3 : Int)] 3))) := Lib.hid ((BX.out.trans (GB.mono SX.out)).alloc HBW _)
              have SX2 : Hid (b1 ≤ (w'.alloc (.cells #[.int .i64 (z0 : Int), .int .i64 (z1 : Int), .int .i64 (z2 : Int), .int .i64 (z3 : Int)] 3)).heap.size) := Lib.hid (Nat.le_trans HBW (by simp))
              obtain ⟨gv, hgw⟩ : ∃ gw, gw = w'.heap.size := ⟨_, rfl⟩
              clear hG hgr GB HBW WC ZC OX BX CX
              simp only [fill, dstAt, List.getElem?_cons_zero, List.getElem?_cons_succ, Option.bind_some, Act.put, List.setIfInBounds_toArray, List.set_cons_zero, List.set_cons_succ]
              generalize w'.alloc (.cells #[.int .i64 (z0 : Int), .int .i64 (z1 : Int), .int .i64 (z2 : Int), .int .i64 (z3 : Int)] 3) = wa at *
              rw [← hgw] at CW ⊢
              clear hgw
              generalize vals 0 = p0, vals 1 = p1, vals 2 = p2, vals 3 = p3, vals 4 = p4, vals 5 = p5, vals 6 = p6, vals 7 = p7, vals 8 = p8, vals 9 = p9, vals 10 = p10, vals 11 = p11, vals 12 = p12, vals 13 = p13, vals 14 = p14, vals 15 = p15, vals 16 = p16, vals 17 = p17, vals 18 = p18, vals 19 = p19, vals 20 = p20, vals 21 = p21, vals 22 = p22, vals 23 = p23
              obtain ⟨gw, hgv⟩ : ∃ gw, gw = gv := ⟨_, rfl⟩
              rw [← hgv] at CW ⊢
              clear hgv
              have TU2 := TU
              obtain ⟨tw, htw⟩ : ∃ tw, tw = [z0, z1, z2, z3] := ⟨_, rfl⟩
              rw [← htw] at CW
              have TW : Hid (tword 8 i turn ol = tw) := Lib.hid (by rw [htw]; exact TWE.out)
              have TB : Hid (Byt tw) := Lib.hid (by
                rw [htw]; intro z hz
                simp only [List.mem_cons, List.not_mem_nil, or_false] at hz
                rcases hz with rfl | rfl | rfl | rfl
                · exact m0
                · exact m1
                · exact m2
                · exact m3)
              have TL : Hid (tw.length = 4) := Lib.hid (by rw [htw]; rfl)
              clear htw TWE
              go_wp2_with fail
              go_loopw [5, 9] (fun ov kv wr => ∃ k m : Nat, kv = .int .i64 (k : Int) ∧ k ≤ 4 ∧ Hid (m = M + k) ∧ Hid (Owns wr b1 ov m (ints (bput tw ol bb k))) ∧ Hid (IRow wr gw tw) ∧ Hid (Below b1 w1 wr)) (fun _ kv _ => 4 - (intOf kv).toNat)
              case atStart => exact ⟨0, M, rfl, by omega, Lib.hid rfl, Lib.hid (by rw [bput_zero]; exact HO2.out), CW, HB2⟩
              case round =>
                obtain ⟨k, m, rfl, hk, HMK, HO3, HW, HB⟩ := hrel
                clear HO2 CW HB2
                by_cases hk4 : k < 4
                · have hb1 : b1 ≤ wr.heap.size := by rw [HB1.out]; exact HB.out.size
                  have hib := HI.out
                  have hmm := HM0.out
                  have hmk := HMK.out
                  obtain ⟨Ao, co, rfl, _⟩ := HO3.out.slice
                  obtain ⟨go, rfl, _, _⟩ := HO3.out.form (by omega)
                  have HO : Hid (Owns wr b1 (.slice (some ⟨go, 0, none⟩) m co) m (ints (bput tw ol bb k))) := HO3
                  obtain ⟨bi, hbi0⟩ : ∃ bi, bi = bb + k := ⟨_, rfl⟩
                  have hbb := HBB.out
                  have hol := OL.out
                  have hbi : bi < m := by omega
                  have qb : 4 * ((i : Int) - 8) + (k : Int) = (bi : Int) := by omega
                  have bx := TB.out.get k
                  have by_ := (OB.out).get bi
                  have PN0 := bput_next tw ol bb hk4
                  rw [← hbi0] at PN0
                  have XC : Hid (∀ w' : World, Below wr.drew.heap.size wr.drew w' → w'.cell? ⟨gw, k, none⟩ = some (.int .i64 ((tw.getD k 0 : Nat) : Int)) ∧ w'.cell? ⟨go, bi, none⟩ = some (.int .u8 ((ol.getD bi 0 : Nat) : Int))) := Lib.hid fun w' hw => by
                    have r : IRow w' gw tw := IRow.up (show IRow wr.drew gw tw from HW.out) hw
                    have o9 := HO.out.below ((below_drewN (Below.refl wr.heap.size wr) 1).trans hw) (Nat.le_refl _)
                    have c9 := own_cell o9 (j := bi) (by rw [bput_len _ _ _ hk]; omega)
                    rw [show (bput tw ol bb k).getD bi 0 = ol.getD bi 0 from getD_app (by omega)] at c9
                    exact ⟨r.cell k (by rw [TL.out]; exact hk4), c9⟩
                  have HM2 : Hid (m + 1 = M + (k + 1)) := Lib.hid (by omega)
                  generalize tw.getD k 0 = x at *
                  generalize ol.getD bi 0 = y at *
                  have bxy := xor_lt bx by_
                  obtain ⟨b, hbx⟩ : ∃ b, b = x ^^^ y := ⟨_, rfl⟩
                  have XB : Hid (bits .xor .i64 (x : Int) (y : Int) = (b : Int)) := Lib.hid (by rw [i64_xor (by omega) (by omega), hbx])
                  rw [← hbx] at PN0 bxy
                  have PN := Lib.hid PN0
                  have ib : i ≤ 100 := by omega
                  have mb : m ≤ 1000 := by omega
                  clear hbi0 PN0 hbx hmk hbb hol hib hmm
                  go_wp2_with fail
                  refine wp_region_free [0, 1, 2, 3, 4, 5, 6, 7, 8, 9, 10, 11, 12, 13, 14, 15, 16, 17] 18 [19] (fun w1 w2 => Below w1.heap.size w1 w2) (fun k' w' v => match k' with
                    | 0 => v = .slice (some ⟨go, 0, none⟩) m co
                    | 1 => v = .slice (some ⟨gw, 0, none⟩) 4 4
                    | 2 => v = .int .i64 ((k : Int))
                    | 3 => v = .pointer (some ⟨gw, k, none⟩)
                    | 4 => v = .int .i64 ((x : Int))
                    | 5 => v = .slice (some ⟨go, 0, none⟩) m co
                    | 6 => v = .int .i64 ((i : Int))
                    | 7 => v = .int .i64 8
                    | 8 => v = .int .i64 ((i : Int) - 8)
                    | 9 => v = .int .i64 (4 * ((i : Int) - 8))
                    | 10 => v = .int .i64 ((k : Int))
                    | 11 => v = .int .i64 (4 * ((i : Int) - 8) + ((k : Int)))
                    | 12 => v = .pointer (some ⟨go, bi, none⟩)
                    | 13 => v = .int .u8 ((y : Int))
                    | 14 => v = .int .i64 ((y : Int))
                    | 15 => v = .int .i64 ((b : Int))
                    | 16 => v = .int .u8 ((b : Int))
                    | _ => ∃ A1, v = .slice A1 1 1 ∧ Holds w' w'.heap.size A1 1 1 [(b : Int)]) (by kernel_rfl) (by kernel_rfl) (Below.refl _ _) (fun _ _ _ h k => h.trans (k.mono h.size)) (fun k' w1 w2 v h => match k' with
                    | 0 => fun x => x
                    | 1 => fun x => x
                    | 2 => fun x => x
                    | 3 => fun x => x
                    | 4 => fun x => x
                    | 5 => fun x => x
                    | 6 => fun x => x
                    | 7 => fun x => x
                    | 8 => fun x => x
                    | 9 => fun x => x
                    | 10 => fun x => x
                    | 11 => fun x => x
                    | 12 => fun x => x
                    | 13 => fun x => x
                    | 14 => fun x => x
                    | 15 => fun x => x
                    | 16 => fun x => x
                    | _ + 17 => fun ⟨A1, e, x⟩ => ⟨A1, e, (x.below h).more h.size⟩) (fun _ _ _ _ _ h => h) ?_ _ (by rfl) ?_
                  · refine obs_cons (by rfl) (fun vals w' hgr hdep K hK => ?_) (obs_cons (by rfl) (fun vals w' hgr hdep K hK => ?_) (obs_cons (by rfl) (fun vals w' hgr hdep K hK => ?_) (obs_cons (by rfl) (fun vals w' hgr hdep K hK => ?_) (obs_cons (by rfl) (fun vals w' hgr hdep K hK => ?_) (obs_cons (by rfl) (fun vals w' hgr hdep K hK => ?_) (obs_cons (by rfl) (fun vals w' hgr hdep K hK => ?_) (obs_cons (by rfl) (fun vals w' hgr hdep K hK => ?_) (obs_cons (by rfl) (fun vals w' hgr hdep K hK => ?_) (obs_cons (by rfl) (fun vals w' hgr hdep K hK => ?_) (obs_cons (by rfl) (fun vals w' hgr hdep K hK => ?_) (obs_cons (by rfl) (fun vals w' hgr hdep K hK => ?_) (obs_cons (by rfl) (fun vals w' hgr hdep K hK => ?_) (obs_cons (by rfl) (fun vals w' hgr hdep K hK => ?_) (obs_cons (by rfl) (fun vals w' hgr hdep K hK => ?_) (obs_cons (by rfl) (fun vals w' hgr hdep K hK => ?_) (obs_cons (by rfl) (fun vals w' hgr hdep K hK => ?_) (obs_cons (by rfl) (fun vals w' hgr hdep K hK => ?_) (obs_nil))))))))))))))))))
                    · exact wp_move (.tmp 5) rfl _ (at_out _ (by kernel_rfl) rfl) (hK _ _ (Below.refl _ _) rfl)
                    · exact wp_move (.tmp 8) rfl _ (at_out _ (by kernel_rfl) rfl) (hK _ _ (Below.refl _ _) rfl)
                    · exact wp_move (.tmp 9) rfl _ (at_out _ (by kernel_rfl) rfl) (hK _ _ (Below.refl _ _) rfl)
                    · exact st_int_at0 (.tmp 124) (.tmp 125) rfl gw 4 4 k _ ((at_dst 1 (by kernel_rfl)).trans (hdep 1 (by simp) (by kernel_rfl))) ((at_dst 2 (by kernel_rfl)).trans (hdep 2 (by simp) (by kernel_rfl))) rfl hk4 (hK _ _ (Below.refl _ _) rfl)
                    · exact wp_load1 (.tmp 126) rfl ⟨gw, k, none⟩ ((at_dst 3 (by kernel_rfl)).trans (hdep 3 (by simp) (by kernel_rfl))) Tryz.underlying3 rfl _ ((XC.out w' hgr).1) (hK _ _ (Below.refl _ _) rfl)
                    · exact wp_move (.tmp 5) rfl _ (at_out _ (by kernel_rfl) rfl) (hK _ _ (Below.refl _ _) rfl)
                    · exact wp_move (.tmp 7) rfl _ (at_out _ (by kernel_rfl) rfl) (hK _ _ (Below.refl _ _) rfl)
                    · exact wp_move (.tmp 4) rfl _ (at_out _ (by kernel_rfl) rfl) (hK _ _ (Below.refl _ _) rfl)
                    · exact wp_bin (.tmp 129) (.tmp 130) rfl _ _ _ ((at_dst 6 (by kernel_rfl)).trans (hdep 6 (by simp) (by kernel_rfl))) ((at_dst 7 (by kernel_rfl)).trans (hdep 7 (by simp) (by kernel_rfl))) (b_sub _ _ _ _ _ (by omega) (by omega)) (hK _ _ (Below.refl _ _) rfl)
                    · exact wp_bin (.const (.int .i64 4)) (.tmp 131) rfl _ _ _ rfl ((at_dst 8 (by kernel_rfl)).trans (hdep 8 (by simp) (by kernel_rfl))) (b_mul _ _ _ _ _ (by omega) (by omega)) (hK _ _ (Below.refl _ _) rfl)
                    · exact wp_move (.tmp 9) rfl _ (at_out _ (by kernel_rfl) rfl) (hK _ _ (Below.refl _ _) rfl)
                    · exact wp_bin (.tmp 132) (.tmp 133) rfl _ _ _ ((at_dst 9 (by kernel_rfl)).trans (hdep 9 (by simp) (by kernel_rfl))) ((at_dst 10 (by kernel_rfl)).trans (hdep 10 (by simp) (by kernel_rfl))) (b_add _ _ _ _ _ (by omega) (by omega)) (hK _ _ (Below.refl _ _) rfl)
                    · exact st_byte_at0 (.tmp 128) (.tmp 134) rfl go m co bi _ ((at_dst 5 (by kernel_rfl)).trans (hdep 5 (by simp) (by kernel_rfl))) ((at_dst 11 (by kernel_rfl)).trans (hdep 11 (by simp) (by kernel_rfl))) qb hbi (hK _ _ (Below.refl _ _) rfl)
                    · exact wp_load1 (.tmp 135) rfl ⟨go, bi, none⟩ ((at_dst 12 (by kernel_rfl)).trans (hdep 12 (by simp) (by kernel_rfl))) Tryz.underlying5 rfl _ ((XC.out w' hgr).2) (hK _ _ (Below.refl _ _) rfl)
                    · exact wp_conv (.tmp 136) rfl _ _ ((at_dst 13 (by kernel_rfl)).trans (hdep 13 (by simp) (by kernel_rfl))) (conv_int _ _ (by omega) (by omega)) (hK _ _ (Below.refl _ _) rfl)
                    · exact wp_bin (.tmp 127) (.tmp 137) rfl _ _ _ ((at_dst 4 (by kernel_rfl)).trans (hdep 4 (by simp) (by kernel_rfl))) ((at_dst 14 (by kernel_rfl)).trans (hdep 14 (by simp) (by kernel_rfl))) (b_xor _ _ _ _ _ _ XB.out) (hK _ _ (Below.refl _ _) rfl)
                    · exact wp_conv (.tmp 138) rfl _ _ ((at_dst 15 (by kernel_rfl)).trans (hdep 15 (by simp) (by kernel_rfl))) (conv_u8 _ _ (by omega) (by omega)) (hK _ _ (Below.refl _ _) rfl)
                    · exact st_slice8_1 (.tmp 139) rfl _ ((at_dst 16 (by kernel_rfl)).trans (hdep 16 (by simp) (by kernel_rfl))) (hK _ _ ((Below.refl _ _).alloc (Nat.le_refl _) _) ⟨_, rfl, (Holds.lit w' [(b : Int)] #[.int .u8 (b : Int)] rfl (by simp [maxLen]) (fun z hz => by simp at hz; omega)).more (by simp)⟩)
                  · intro vals w' hgr hG
                    obtain ⟨A1, ea, la⟩ : ∃ A1, vals 17 = .slice A1 1 1 ∧ Holds w' w'.heap.size A1 1 1 [(b : Int)] := hG 17 (by simp)
                    have GB := (below_drewN (Below.refl wr.heap.size wr) 1).trans hgr
                    have O8 := HO.out.below GB (Nat.le_refl _)
                    have C8 : IRow w' gw tw := IRow.up HW.out GB
                    have B8 := HB.out.trans (GB.mono hb1)
                    refine wp_append_bytes (.tmp 123) (.tmp 140) rfl b1 _ m _ ((at_dst 0 (by kernel_rfl)).trans (hG 0 (by simp))) O8 _ A1 1 1 [(b : Int)] ((at_dst 17 (by kernel_rfl)).trans ea) la (by omega) (Nat.le_trans hb1 GB.size) (fun v9 w9 o9 g9 => ?_)
                    refine wpAnyH_next 19 _ rfl rfl (by kernel_rfl) (st_assign (.tmp 141) _ rfl (put_tmps_eq (fill_size _ _ _) (by kernel_rfl)) ⟨trivial, wpAnyH_done (by kernel_rfl) ?_ _⟩)
                    have OX : Hid (Owns w9 b1 v9 (m + 1) (ints (bput tw ol bb (k + 1)))) := Lib.hid (by rw [PN.out, ints_app]; exact o9)
                    have CX : Hid (IRow w9 gw tw) := Lib.hid (Blk.grown C8 g9 (fun e => own_oth O8 C8 (by decide) e.symm))
                    have BX : Hid (Below b1 w1 w9) := Lib.hid (B8.grown g9 (Nat.le_trans hb1 GB.size) fun g hg => (O8.lt g hg).1)
                    clear hG hgr GB O8 C8 B8 la o9 g9 HO HW HB XC
                    simp only [fill, dstAt, List.getElem?_cons_zero, List.getElem?_cons_succ, Option.bind_some, Act.put, List.setIfInBounds_toArray, List.set_cons_zero, List.set_cons_succ]
                    generalize vals 0 = z0, vals 1 = z1, vals 2 = z2, vals 3 = z3, vals 4 = z4, vals 5 = z5, vals 6 = z6, vals 7 = z7, vals 8 = z8, vals 9 = z9, vals 10 = z10, vals 11 = z11, vals 12 = z12, vals 13 = z13, vals 14 = z14, vals 15 = z15, vals 16 = z16, vals 17 = z17
                    go_wp2_with fail
                    go_roundw
                    case rel => exact ⟨k + 1, m + 1, by go_num, by omega, HM2, OX, CX, BX⟩
                    case measure => simp [intOf]; omega
                · obtain rfl : k = 4 := by omega
                  have NW : Hid (bput tw ol bb 4 = ol ++ nword 8 i turn ol) := Lib.hid (by
                    unfold bput nword
                    rw [TW.out, HBB.out, List.take_of_length_le (by simp)])
                  have hltv := HLT.out
                  have OE0 := HO3.out
                  rw [NW.out] at OE0
                  have OE := Lib.hid OE0
                  clear OE0
                  have hib := HI.out
                  have ME : Hid (m = 4 * (i + 1)) := Lib.hid (by have := HMK.out; have := HM0.out; omega)
                  have IE : Hid (8 ≤ i + 1 ∧ i + 1 ≤ 60) := Lib.hid (by omega)
                  have BE : Hid (Byt (ol ++ nword 8 i turn ol) ∧ (ol ++ nword 8 i turn ol).length = m) := Lib.hid ⟨Byt.app OB.out (nword_byt OB.out TU.out), by rw [List.length_append, nword_len, OL.out, ME.out, HM0.out]; omega⟩
                  have KE : Hid (kgo 8 (60 - (i + 1)) (i + 1) turn (ol ++ nword 8 i turn ol) = R) := Lib.hid (by
                    have := HE.out
                    rw [show 60 - i = (60 - (i + 1)) + 1 by omega, kgo, NTU.out] at this
                    exact this)
                  have ib : i < 60 := by omega
                  clear hib hltv HO3 HW NW
                  go_wp2_with fail
                  go_roundw
                  case rel => exact ⟨i + 1, m, turn, _, by go_num, rfl, ME, OE, BE, TU2, IE, KE, HB⟩
                  case measure => simp [intOf]; omega
          · have g4 : ((r : Int) == 4) = false := by rw [beq_eq_false_iff_ne]; omega
            have HO2 := OX
            have CW := CX
            have HB2 := BX
            have TU2 := TU
            have NTU : Hid (nturn 8 i turn = turn) := Lib.hid (by unfold nturn; rw [if_neg (by rw [← HRM.out]; exact q)])
            have TWE0 := TWD.out
            rw [if_neg q, if_neg (fun z => q4 z.2)] at TWE0
            have TWE := Lib.hid TWE0
            clear TWE0 TWD OX CX BX
            obtain ⟨tw, htw⟩ : ∃ tw, tw = [y0, y1, y2, y3] := ⟨_, rfl⟩
            rw [← htw] at CW
            have TW : Hid (tword 8 i turn ol = tw) := Lib.hid (by rw [htw]; exact TWE.out)
            have TB : Hid (Byt tw) := Lib.hid (by
              rw [htw]; intro z hz
              simp only [List.mem_cons, List.not_mem_nil, or_false] at hz
              rcases hz with rfl | rfl | rfl | rfl
              · exact g0
              · exact g1
              · exact g2
              · exact g3)
            have TL : Hid (tw.length = 4) := Lib.hid (by rw [htw]; rfl)
            clear htw TWE
            go_wp2_with fail
            go_loopw [5, 9] (fun ov kv wr => ∃ k m : Nat, kv = .int .i64 (k : Int) ∧ k ≤ 4 ∧ Hid (m = M + k) ∧ Hid (Owns wr b1 ov m (ints (bput tw ol bb k))) ∧ Hid (IRow wr gw tw) ∧ Hid (Below b1 w1 wr)) (fun _ kv _ => 4 - (intOf kv).toNat)
            case atStart => exact ⟨0, M, rfl, by omega, Lib.hid rfl, Lib.hid (by rw [bput_zero]; exact HO2.out), CW, HB2⟩
            case round =>
              obtain ⟨k, m, rfl, hk, HMK, HO3, HW, HB⟩ := hrel
              clear HO2 CW HB2
              by_cases hk4 : k < 4
              · have hb1 : b1 ≤ wr.heap.size := by rw [HB1.out]; exact HB.out.size
                have hib := HI.out
                have hmm := HM0.out
                have hmk := HMK.out
                obtain ⟨Ao, co, rfl, _⟩ := HO3.out.slice
                obtain ⟨go, rfl, _, _⟩ := HO3.out.form (by omega)
                have HO : Hid (Owns wr b1 (.slice (some ⟨go, 0, none⟩) m co) m (ints (bput tw ol bb k))) := HO3
                obtain ⟨bi, hbi0⟩ : ∃ bi, bi = bb + k := ⟨_, rfl⟩
                have hbb := HBB.out
                have hol := OL.out
                have hbi : bi < m := by omega
                have qb : 4 * ((i : Int) - 8) + (k : Int) = (bi : Int) := by omega
                have bx := TB.out.get k
                have by_ := (OB.out).get bi
                have PN0 := bput_next tw ol bb hk4
                rw [← hbi0] at PN0
                have XC : Hid (∀ w' : World, Below wr.drew.heap.size wr.drew w' → w'.cell? ⟨gw, k, none⟩ = some (.int .i64 ((tw.getD k 0 : Nat) : Int)) ∧ w'.cell? ⟨go, bi, none⟩ = some (.int .u8 ((ol.getD bi 0 : Nat) : Int))) := Lib.hid fun w' hw => by
                  have r : IRow w' gw tw := IRow.up (show IRow wr.drew gw tw from HW.out) hw
                  have o9 := HO.out.below ((below_drewN (Below.refl wr.heap.size wr) 1).trans hw) (Nat.le_refl _)
                  have c9 := own_cell o9 (j := bi) (by rw [bput_len _ _ _ hk]; omega)
                  rw [show (bput tw ol bb k).getD bi 0 = ol.getD bi 0 from getD_app (by omega)] at c9
                  exact ⟨r.cell k (by rw [TL.out]; exact hk4), c9⟩
                have HM2 : Hid (m + 1 = M + (k + 1)) := Lib.hid (by omega)
                generalize tw.getD k 0 = x at *
                generalize ol.getD bi 0 = y at *
                have bxy := xor_lt bx by_
                obtain ⟨b, hbx⟩ : ∃ b, b = x ^^^ y := ⟨_, rfl⟩
                have XB : Hid (bits .xor .i64 (x : Int) (y : Int) = (b : Int)) := Lib.hid (by rw [i64_xor (by omega) (by omega), hbx])
                rw [← hbx] at PN0 bxy
                have PN := Lib.hid PN0
                have ib : i ≤ 100 := by omega
                have mb : m ≤ 1000 := by omega
                clear hbi0 PN0 hbx hmk hbb hol hib hmm
                go_wp2_with fail
                refine wp_region_free [0, 1, 2, 3, 4, 5, 6, 7, 8, 9, 10, 11, 12, 13, 14, 15, 16, 17] 18 [19] (fun w1 w2 => Below w1.heap.size w1 w2) (fun k' w' v => match k' with
                  | 0 => v = .slice (some ⟨go, 0, none⟩) m co
                  | 1 => v = .slice (some ⟨gw, 0, none⟩) 4 4
                  | 2 => v = .int .i64 ((k : Int))
                  | 3 => v = .pointer (some ⟨gw, k, none⟩)
                  | 4 => v = .int .i64 ((x : Int))
                  | 5 => v = .slice (some ⟨go, 0, none⟩) m co
                  | 6 => v = .int .i64 ((i : Int))
                  | 7 => v = .int .i64 8
                  | 8 => v = .int .i64 ((i : Int) - 8)
                  | 9 => v = .int .i64 (4 * ((i : Int) - 8))
                  | 10 => v = .int .i64 ((k : Int))
                  | 11 => v = .int .i64 (4 * ((i : Int) - 8) + ((k : Int)))
                  | 12 => v = .pointer (some ⟨go, bi, none⟩)
                  | 13 => v = .int .u8 ((y : Int))
                  | 14 => v = .int .i64 ((y : Int))
                  | 15 => v = .int .i64 ((b : Int))
                  | 16 => v = .int .u8 ((b : Int))
                  | _ => ∃ A1, v = .slice A1 1 1 ∧ Holds w' w'.heap.size A1 1 1 [(b : Int)]) (by kernel_rfl) (by kernel_rfl) (Below.refl _ _) (fun _ _ _ h k => h.trans (k.mono h.size)) (fun k' w1 w2 v h => match k' with
                  | 0 => fun x => x
                  | 1 => fun x => x
                  | 2 => fun x => x
                  | 3 => fun x => x
                  | 4 => fun x => x
                  | 5 => fun x => x
                  | 6 => fun x => x
                  | 7 => fun x => x
                  | 8 => fun x => x
                  | 9 => fun x => x
                  | 10 => fun x => x
                  | 11 => fun x => x
                  | 12 => fun x => x
                  | 13 => fun x => x
                  | 14 => fun x => x
                  | 15 => fun x => x
                  | 16 => fun x => x
                  | _ + 17 => fun ⟨A1, e, x⟩ => ⟨A1, e, (x.below h).more h.size⟩) (fun _ _ _ _ _ h => h) ?_ _ (by rfl) ?_
                · refine obs_cons (by rfl) (fun vals w' hgr hdep K hK => ?_) (obs_cons (by rfl) (fun vals w' hgr hdep K hK => ?_) (obs_cons (by rfl) (fun vals w' hgr hdep K hK => ?_) (obs_cons (by rfl) (fun vals w' hgr hdep K hK => ?_) (obs_cons (by rfl) (fun vals w' hgr hdep K hK => ?_) (obs_cons (by rfl) (fun vals w' hgr hdep K hK => ?_) (obs_cons (by rfl) (fun vals w' hgr hdep K hK => ?_) (obs_cons (by rfl) (fun vals w' hgr hdep K hK => ?_) (obs_cons (by rfl) (fun vals w' hgr hdep K hK => ?_) (obs_cons (by rfl) (fun vals w' hgr hdep K hK => ?_) (obs_cons (by rfl) (fun vals w' hgr hdep K hK => ?_) (obs_cons (by rfl) (fun vals w' hgr hdep K hK => ?_) (obs_cons (by rfl) (fun vals w' hgr hdep K hK => ?_) (obs_cons (by rfl) (fun vals w' hgr hdep K hK => ?_) (obs_cons (by rfl) (fun vals w' hgr hdep K hK => ?_) (obs_cons (by rfl) (fun vals w' hgr hdep K hK => ?_) (obs_cons (by rfl) (fun vals w' hgr hdep K hK => ?_) (obs_cons (by rfl) (fun vals w' hgr hdep K hK => ?_) (obs_nil))))))))))))))))))
                  · exact wp_move (.tmp 5) rfl _ (at_out _ (by kernel_rfl) rfl) (hK _ _ (Below.refl _ _) rfl)
                  · exact wp_move (.tmp 8) rfl _ (at_out _ (by kernel_rfl) rfl) (hK _ _ (Below.refl _ _) rfl)
                  · exact wp_move (.tmp 9) rfl _ (at_out _ (by kernel_rfl) rfl) (hK _ _ (Below.refl _ _) rfl)
                  · exact st_int_at0 (.tmp 124) (.tmp 125) rfl gw 4 4 k _ ((at_dst 1 (by kernel_rfl)).trans (hdep 1 (by simp) (by kernel_rfl))) ((at_dst 2 (by kernel_rfl)).trans (hdep 2 (by simp) (by kernel_rfl))) rfl hk4 (hK _ _ (Below.refl _ _) rfl)
                  · exact wp_load1 (.tmp 126) rfl ⟨gw, k, none⟩ ((at_dst 3 (by kernel_rfl)).trans (hdep 3 (by simp) (by kernel_rfl))) Tryz.underlying3 rfl _ ((XC.out w' hgr).1) (hK _ _ (Below.refl _ _) rfl)
                  · exact wp_move (.tmp 5) rfl _ (at_out _ (by kernel_rfl) rfl) (hK _ _ (Below.refl _ _) rfl)
                  · exact wp_move (.tmp 7) rfl _ (at_out _ (by kernel_rfl) rfl) (hK _ _ (Below.refl _ _) rfl)
                  · exact wp_move (.tmp 4) rfl _ (at_out _ (by kernel_rfl) rfl) (hK _ _ (Below.refl _ _) rfl)
                  · exact wp_bin (.tmp 129) (.tmp 130) rfl _ _ _ ((at_dst 6 (by kernel_rfl)).trans (hdep 6 (by simp) (by kernel_rfl))) ((at_dst 7 (by kernel_rfl)).trans (hdep 7 (by simp) (by kernel_rfl))) (b_sub _ _ _ _ _ (by omega) (by omega)) (hK _ _ (Below.refl _ _) rfl)
                  · exact wp_bin (.const (.int .i64 4)) (.tmp 131) rfl _ _ _ rfl ((at_dst 8 (by kernel_rfl)).trans (hdep 8 (by simp) (by kernel_rfl))) (b_mul _ _ _ _ _ (by omega) (by omega)) (hK _ _ (Below.refl _ _) rfl)
                  · exact wp_move (.tmp 9) rfl _ (at_out _ (by kernel_rfl) rfl) (hK _ _ (Below.refl _ _) rfl)
                  · exact wp_bin (.tmp 132) (.tmp 133) rfl _ _ _ ((at_dst 9 (by kernel_rfl)).trans (hdep 9 (by simp) (by kernel_rfl))) ((at_dst 10 (by kernel_rfl)).trans (hdep 10 (by simp) (by kernel_rfl))) (b_add _ _ _ _ _ (by omega) (by omega)) (hK _ _ (Below.refl _ _) rfl)
                  · exact st_byte_at0 (.tmp 128) (.tmp 134) rfl go m co bi _ ((at_dst 5 (by kernel_rfl)).trans (hdep 5 (by simp) (by kernel_rfl))) ((at_dst 11 (by kernel_rfl)).trans (hdep 11 (by simp) (by kernel_rfl))) qb hbi (hK _ _ (Below.refl _ _) rfl)
                  · exact wp_load1 (.tmp 135) rfl ⟨go, bi, none⟩ ((at_dst 12 (by kernel_rfl)).trans (hdep 12 (by simp) (by kernel_rfl))) Tryz.underlying5 rfl _ ((XC.out w' hgr).2) (hK _ _ (Below.refl _ _) rfl)
                  · exact wp_conv (.tmp 136) rfl _ _ ((at_dst 13 (by kernel_rfl)).trans (hdep 13 (by simp) (by kernel_rfl))) (conv_int _ _ (by omega) (by omega)) (hK _ _ (Below.refl _ _) rfl)
                  · exact wp_bin (.tmp 127) (.tmp 137) rfl _ _ _ ((at_dst 4 (by kernel_rfl)).trans (hdep 4 (by simp) (by kernel_rfl))) ((at_dst 14 (by kernel_rfl)).trans (hdep 14 (by simp) (by kernel_rfl))) (b_xor _ _ _ _ _ _ XB.out) (hK _ _ (Below.refl _ _) rfl)
                  · exact wp_conv (.tmp 138) rfl _ _ ((at_dst 15 (by kernel_rfl)).trans (hdep 15 (by simp) (by kernel_rfl))) (conv_u8 _ _ (by omega) (by omega)) (hK _ _ (Below.refl _ _) rfl)
                  · exact st_slice8_1 (.tmp 139) rfl _ ((at_dst 16 (by kernel_rfl)).trans (hdep 16 (by simp) (by kernel_rfl))) (hK _ _ ((Below.refl _ _).alloc (Nat.le_refl _) _) ⟨_, rfl, (Holds.lit w' [(b : Int)] #[.int .u8 (b : Int)] rfl (by simp [maxLen]) (fun z hz => by simp at hz; omega)).more (by simp)⟩)
                · intro vals w' hgr hG
                  obtain ⟨A1, ea, la⟩ : ∃ A1, vals 17 = .slice A1 1 1 ∧ Holds w' w'.heap.size A1 1 1 [(b : Int)] := hG 17 (by simp)
                  have GB := (below_drewN (Below.refl wr.heap.size wr) 1).trans hgr
                  have O8 := HO.out.below GB (Nat.le_refl _)
                  have C8 : IRow w' gw tw := IRow.up HW.out GB
                  have B8 := HB.out.trans (GB.mono hb1)
                  refine wp_append_bytes (.tmp 123) (.tmp 140) rfl b1 _ m _ ((at_dst 0 (by kernel_rfl)).trans (hG 0 (by simp))) O8 _ A1 1 1 [(b : Int)] ((at_dst 17 (by kernel_rfl)).trans ea) la (by omega) (Nat.le_trans hb1 GB.size) (fun v9 w9 o9 g9 => ?_)
                  refine wpAnyH_next 19 _ rfl rfl (by kernel_rfl) (st_assign (.tmp 141) _ rfl (put_tmps_eq (fill_size _ _ _) (by kernel_rfl)) ⟨trivial, wpAnyH_done (by kernel_rfl) ?_ _⟩)
                  have OX : Hid (Owns w9 b1 v9 (m + 1) (ints (bput tw ol bb (k + 1)))) := Lib.hid (by rw [PN.out, ints_app]; exact o9)
                  have CX : Hid (IRow w9 gw tw) := Lib.hid (Blk.grown C8 g9 (fun e => own_oth O8 C8 (by decide) e.symm))
                  have BX : Hid (Below b1 w1 w9) := Lib.hid (B8.grown g9 (Nat.le_trans hb1 GB.size) fun g hg => (O8.lt g hg).1)
                  clear hG hgr GB O8 C8 B8 la o9 g9 HO HW HB XC
                  simp only [fill, dstAt, List.getElem?_cons_zero, List.getElem?_cons_succ, Option.bind_some, Act.put, List.setIfInBounds_toArray, List.set_cons_zero, List.set_cons_succ]
                  generalize vals 0 = z0, vals 1 = z1, vals 2 = z2, vals 3 = z3, vals 4 = z4, vals 5 = z5, vals 6 = z6, vals 7 = z7, vals 8 = z8, vals 9 = z9, vals 10 = z10, vals 11 = z11, vals 12 = z12, vals 13 = z13, vals 14 = z14, vals 15 = z15, vals 16 = z16, vals 17 = z17
                  go_wp2_with fail
                  go_roundw
                  case rel => exact ⟨k + 1, m + 1, by go_num, by omega, HM2, OX, CX, BX⟩
                  case measure => simp [intOf]; omega
              · obtain rfl : k = 4 := by omega
                have NW : Hid (bput tw ol bb 4 = ol ++ nword 8 i turn ol) := Lib.hid (by
                  unfold bput nword
                  rw [TW.out, HBB.out, List.take_of_length_le (by simp)])
                have hltv := HLT.out
                have OE0 := HO3.out
                rw [NW.out] at OE0
                have OE := Lib.hid OE0
                clear OE0
                have hib := HI.out
                have ME : Hid (m = 4 * (i + 1)) := Lib.hid (by have := HMK.out; have := HM0.out; omega)
                have IE : Hid (8 ≤ i + 1 ∧ i + 1 ≤ 60) := Lib.hid (by omega)
                have BE : Hid (Byt (ol ++ nword 8 i turn ol) ∧ (ol ++ nword 8 i turn ol).length = m) := Lib.hid ⟨Byt.app OB.out (nword_byt OB.out TU.out), by rw [List.length_append, nword_len, OL.out, ME.out, HM0.out]; omega⟩
                have KE : Hid (kgo 8 (60 - (i + 1)) (i + 1) turn (ol ++ nword 8 i turn ol) = R) := Lib.hid (by
                  have := HE.out
                  rw [show 60 - i = (60 - (i + 1)) + 1 by omega, kgo, NTU.out] at this
                  exact this)
                have ib : i < 60 := by omega
                clear hib hltv HO3 HW NW
                go_wp2_with fail
                go_roundw
                case rel => exact ⟨i + 1, m, turn, _, by go_num, rfl, ME, OE, BE, TU2, IE, KE, HB⟩
                case measure => simp [intOf]; omega
    · obtain rfl : i = 60 := by have := HI.out; omega
      have FR : Hid (ol = R) := Lib.hid (by have := HE.out; rwa [Nat.sub_self, kgo] at this)
      have OE0 := HO1.out.mono GW.out
      rw [FR.out, HM0.out] at OE0
      have OE : Hid (Owns wr w.heap.size _ 240 (ints R)) := Lib.hid OE0
      clear OE0
      have BE := Lib.hid (BW.out wr HB.out)
      clear HO1 HE HB
      go_wp2_with fail
      go_ret
      exact ⟨_, rfl, OE.out, BE.out⟩
end Go.Proofs.YtdnkbefpbehllaaGreatDoor.AesKy

