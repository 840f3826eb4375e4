/- How long a script is. -/
import Derived.Test.YtppnkkpjfjhfkaaDoorM03
import Derived.Test.YtppnkkpjfjhfkaaDoorM42
import Derived.LoopTactic
set_option linter.unusedVariables false
namespace Go.Proofs.YtppnkkpjfjhfkaaDoor.Few17
open Go.RowKit Go.Proofs.YtppnkkpjfjhfkaaDoor.Mem Go.Proofs.YtppnkkpjfjhfkaaDoor.Blk Go.Proofs.YtppnkkpjfjhfkaaDoor.ArgT Go.Proofs.YtppnkkpjfjhfkaaDoor.Part

/-- What a call of a script keeps. -/
def fitsOp (r : Op17R) : Prop := r.x9.size + r.x10.size + r.x11.size ≤ 300 ∧ r.x4 ≤ 1000000000 ∧ -1 ≤ r.x1 ∧ r.x1 ≤ 1000000000
def opCs (r : Op17R) : Array Value := #[.int .i64 r.x0, .int .i64 r.x1, .int .i64 r.x2, .int .i64 r.x3, .int .i64 r.x4, .int .i64 r.x5, .bool r.x6, .int .u64 r.x7, .int .i64 r.x8, .string r.x9, .string r.x10, .string r.x11, .bool r.x12, .int .i64 r.x13, .int .i64 r.x14, .bool r.x15, .int .i64 r.x16, .int .i64 r.x17, .int .i64 r.x18, .int .i64 r.x19]
theorem one_op (r : Op17R) : (opCs r).all (·.oneCell') = true := by simp [opCs, Value.oneCell']
set_option maxHeartbeats 2000000 in
set_option maxRecDepth 100000 in
theorem few_any (A : Option Addr) (n c : Nat) (rs : List Op17R) (w : World) (h : Op17Rows w A n rs) : Calls Tryd.prog 8 #[.slice A n c] w fun e w' => ∃ fb, e = .returned (.bool fb) ∧ (fb = true → n ≤ 150 ∧ ∀ (k : Nat) (r : Op17R), rs[k]? = some r → fitsOp r) ∧ Below w.heap.size w w' := by
  by_cases big : 150 < n
  · have g0 : decide ((150 : Int) < (n : Int)) = true := decide_eq_true (by omega)
    clear h big
    go_enter Tryd.func8, Tryd.ntmps8
    go_wp2_with fail
    go_ret
    exact ⟨false, rfl, fun z => (by cases z), Below.refl _ _⟩
  · have g0 : decide ((150 : Int) < (n : Int)) = false := decide_eq_false (by omega)
    have NB : Hid (n ≤ 150) := Lib.hid (by omega)
    have H := Lib.hid h
    clear h big
    go_enter Tryd.func8, Tryd.ntmps8
    go_wp2_with fail
    go_loopw [3] (fun iv wr => ∃ i : Nat, iv = .int .i64 (i : Int) ∧ i ≤ n ∧ Hid (∀ (k : Nat) (r : Op17R), k < i → rs[k]? = some r → fitsOp r) ∧ Hid (Below w.heap.size w wr)) (fun iv _ => n - (intOf iv).toNat)
    case atStart => exact ⟨0, rfl, by omega, Lib.hid fun k r hk => absurd hk (by omega), Lib.hid (Below.refl _ _)⟩
    case round =>
      obtain ⟨i, rfl, hi, HS, HB⟩ := hrel
      have nb := NB.out
      by_cases hlt : i < n
      · obtain ⟨b, o, rfl, hbl, hall⟩ := H.out.2 (by omega)
        have hr : rs[i]? = some (rs[i]'(by rw [H.out.1]; exact hlt)) := List.getElem?_eq_getElem _
        generalize rs[i]'(by rw [H.out.1]; exact hlt) = r at hr
        obtain ⟨ok, cl⟩ := hall i r hr
        have HR := Lib.hid hr
        have RP : (loadVar 36 ⟨b, o + i * 20, none⟩).run Tryd.prog wr = .ok (.agg (opCs r)) wr := run_part wr b (o + i * 20) 36 r.cells _ Tryd.underlying36 rfl (by kernel_rfl) ((show At w b (o + i * 20) r.cells from cl).below HB.out hbl)
        have J := Blk.new wr 36 #[.int .i64 0, .int .i64 0, .int .i64 0, .int .i64 0, .int .i64 0, .int .i64 0, .bool false, .int .u64 0, .int .i64 0, .string ⟨#[]⟩, .string ⟨#[]⟩, .string ⟨#[]⟩, .bool false, .int .i64 0, .int .i64 0, .bool false, .int .i64 0, .int .i64 0, .int .i64 0, .int .i64 0]
        have NK := Lib.hid (setRow_blk J (opCs r))
        have BN := Lib.hid (HB.out.trans ((setRow_bel ((Below.refl wr.heap.size wr).alloc (Nat.le_refl _) (.cells #[.int .i64 0, .int .i64 0, .int .i64 0, .int .i64 0, .int .i64 0, .int .i64 0, .bool false, .int .u64 0, .int .i64 0, .string ⟨#[]⟩, .string ⟨#[]⟩, .string ⟨#[]⟩, .bool false, .int .i64 0, .int .i64 0, .bool false, .int .i64 0, .int .i64 0, .int .i64 0, .int .i64 0] 36)) (Nat.le_refl _) (opCs r)).mono HB.out.size))
        have one := Lib.hid (one_op r)
        obtain ⟨u4, u0, k9, k10, k11⟩ := ok
        clear hall cl hr u0 u4
        obtain ⟨w2, hw2⟩ : ∃ w2, w2 = (wr.alloc (.cells #[.int .i64 0, .int .i64 0, .int .i64 0, .int .i64 0, .int .i64 0, .int .i64 0, .bool false, .int .u64 0, .int .i64 0, .string ⟨#[]⟩, .string ⟨#[]⟩, .string ⟨#[]⟩, .bool false, .int .i64 0, .int .i64 0, .bool false, .int .i64 0, .int .i64 0, .int .i64 0, .int .i64 0] 36)).setRow wr.heap.size (opCs r) := ⟨_, rfl⟩
        have W2 := Lib.hid hw2.symm
        rw [← hw2] at NK BN
        clear hw2
        have c1 : w2.cell? ⟨wr.heap.size, 1, none⟩ = some (.int .i64 r.x1) := NK.out.cell 1
        have c4 : w2.cell? ⟨wr.heap.size, 4, none⟩ = some (.int .i64 r.x4) := NK.out.cell 4
        have c9 : w2.cell? ⟨wr.heap.size, 9, none⟩ = some (.string r.x9) := NK.out.cell 9
        have c10 : w2.cell? ⟨wr.heap.size, 10, none⟩ = some (.string r.x10) := NK.out.cell 10
        have c11 : w2.cell? ⟨wr.heap.size, 11, none⟩ = some (.string r.x11) := NK.out.cell 11
        have f1 : IntKind.i64.wrap ((r.x9.size : Int) + (r.x10.size : Int)) = (r.x9.size : Int) + (r.x10.size : Int) := IntWalk.i64_in _ (by omega)
        have f2 : IntKind.i64.wrap ((r.x9.size : Int) + (r.x10.size : Int) + (r.x11.size : Int)) = (r.x9.size : Int) + (r.x10.size : Int) + (r.x11.size : Int) := IntWalk.i64_in _ (by omega)
        clear NK k9 k10 k11
        by_cases q1 : 300 < r.x9.size + r.x10.size + r.x11.size
        · have g1 : decide ((300 : Int) < (r.x9.size : Int) + (r.x10.size : Int) + (r.x11.size : Int)) = true := decide_eq_true (by omega)
          clear q1
          clear HS HB HR
          go_wp2_with (first
              | (refine wpList_load_part rfl 36 (.tmp 16) rfl b (o + i * 20) (opCs r).toList rfl RP ?_)
              | (refine wpList_store_row rfl 36 (.tmp 4) (.tmp 17) rfl wr.heap.size (opCs r) rfl rfl 36 _ J (by kernel_rfl) rfl one.out ?_; rw [W2.out]; clear J RP))
          go_ret
          exact ⟨false, rfl, fun z => (by cases z), BN.out⟩
        have g1 : decide ((300 : Int) < (r.x9.size : Int) + (r.x10.size : Int) + (r.x11.size : Int)) = false := decide_eq_false (by omega)
        by_cases q2 : 1000000000 < r.x4
        · have g2 : decide ((1000000000 : Int) < r.x4) = true := decide_eq_true q2
          clear q1 q2
          clear HS HB HR
          go_wp2_with (first
              | (refine wpList_load_part rfl 36 (.tmp 16) rfl b (o + i * 20) (opCs r).toList rfl RP ?_)
              | (refine wpList_store_row rfl 36 (.tmp 4) (.tmp 17) rfl wr.heap.size (opCs r) rfl rfl 36 _ J (by kernel_rfl) rfl one.out ?_; rw [W2.out]; clear J RP))
          go_ret
          exact ⟨false, rfl, fun z => (by cases z), BN.out⟩
        have g2 : decide ((1000000000 : Int) < r.x4) = false := decide_eq_false q2
        by_cases q3 : r.x1 < -1
        · have g3 : decide (r.x1 < -1) = true := decide_eq_true q3
          clear q1 q2 q3
          clear HS HB HR
          go_wp2_with (first
              | (refine wpList_load_part rfl 36 (.tmp 16) rfl b (o + i * 20) (opCs r).toList rfl RP ?_)
              | (refine wpList_store_row rfl 36 (.tmp 4) (.tmp 17) rfl wr.heap.size (opCs r) rfl rfl 36 _ J (by kernel_rfl) rfl one.out ?_; rw [W2.out]; clear J RP))
          go_ret
          exact ⟨false, rfl, fun z => (by cases z), BN.out⟩
        have g3 : decide (r.x1 < -1) = false := decide_eq_false q3
        by_cases q4 : 1000000000 < r.x1
        · have g4 : decide ((1000000000 : Int) < r.x1) = true := decide_eq_true q4
          clear q1 q2 q3 q4
          clear HS HB HR
          go_wp2_with (first
              | (refine wpList_load_part rfl 36 (.tmp 16) rfl b (o + i * 20) (opCs r).toList rfl RP ?_)
              | (refine wpList_store_row rfl 36 (.tmp 4) (.tmp 17) rfl wr.heap.size (opCs r) rfl rfl 36 _ J (by kernel_rfl) rfl one.out ?_; rw [W2.out]; clear J RP))
          go_ret
          exact ⟨false, rfl, fun z => (by cases z), BN.out⟩
        have g4 : decide ((1000000000 : Int) < r.x1) = false := decide_eq_false q4
        have HN : Hid (∀ (k : Nat) (r : Op17R), k < i + 1 → rs[k]? = some r → fitsOp r) := Lib.hid fun k r' hk hr' => by
          rcases Nat.lt_or_ge k i with hlt' | hge
          · exact HS.out k r' hlt' hr'
          · obtain rfl : k = i := by omega
            obtain rfl := Option.some.inj (hr'.symm.trans HR.out)
            exact ⟨by omega, by omega, by omega, by omega⟩
        clear HS HB HR q1 q2 q3 q4
        go_wp2_with (first
              | (refine wpList_load_part rfl 36 (.tmp 16) rfl b (o + i * 20) (opCs r).toList rfl RP ?_)
              | (refine wpList_store_row rfl 36 (.tmp 4) (.tmp 17) rfl wr.heap.size (opCs r) rfl rfl 36 _ J (by kernel_rfl) rfl one.out ?_; rw [W2.out]; clear J RP))
        go_roundw
        case rel => exact ⟨i + 1, by go_num, by omega, HN, BN⟩
        case measure => simp [intOf]; omega
      · have e : i = n := by omega
        subst e
        have HF : Hid (∀ (k : Nat) (r : Op17R), rs[k]? = some r → fitsOp r) := Lib.hid fun k r hk => HS.out k r (by
          have := (List.getElem?_eq_some_iff.1 hk).1
          rw [H.out.1] at this
          exact this) hk
        clear HS
        go_wp2_with fail
        go_ret
        exact ⟨true, rfl, fun _ => ⟨NB.out, HF.out⟩, HB.out⟩
end Go.Proofs.YtppnkkpjfjhfkaaDoor.Few17

