/- How long a script is. -/
import Derived.Test.YtnabjhdamofpgaaArgT
import Derived.Test.YtnabjhdamofpgaaPart
import Derived.LoopTactic
set_option linter.unusedVariables false
namespace Go.Proofs.Ytnabjhdamofpgaa.Few18
open Go.RowKit Go.Proofs.Ytnabjhdamofpgaa.Mem Go.Proofs.Ytnabjhdamofpgaa.Blk Go.Proofs.Ytnabjhdamofpgaa.ArgT Go.Proofs.Ytnabjhdamofpgaa.Part

/-- What a call of a script keeps. -/
def fitsOp (r : Op18R) : Prop := r.x1.size + r.x3.size + r.x5.size ≤ 300
def opCs (r : Op18R) : Array Value := #[.int .i64 r.x0, .string r.x1, .int .i64 r.x2, .string r.x3, .int .i64 r.x4, .string r.x5]
theorem one_op (r : Op18R) : (opCs r).all (·.oneCell') = true := by simp [opCs, Value.oneCell']
set_option maxHeartbeats 2000000 in
set_option maxRecDepth 100000 in
theorem few_any (A : Option Addr) (n c : Nat) (rs : List Op18R) (w : World) (h : Op18Rows w A n rs) : Calls Try.prog 8 #[.slice A n c] w fun e w' => ∃ fb, e = .returned (.bool fb) ∧ (fb = true → n ≤ 150 ∧ ∀ (k : Nat) (r : Op18R), rs[k]? = some r → fitsOp r) ∧ Below w.heap.size w w' := by
  by_cases big : 150 < n
  · have g0 : decide ((150 : Int) < (n : Int)) = true := decide_eq_true (by omega)
    clear h big
    go_enter Try.func8, Try.ntmps8
    go_wp2_with fail
    go_ret
    exact ⟨false, rfl, fun z => (by cases z), Below.refl _ _⟩
  · have g0 : decide ((150 : Int) < (n : Int)) = false := decide_eq_false (by omega)
    have NB : Hid (n ≤ 150) := Lib.hid (by omega)
    have H := Lib.hid h
    clear h big
    go_enter Try.func8, Try.ntmps8
    go_wp2_with fail
    go_loopw [3] (fun iv wr => ∃ i : Nat, iv = .int .i64 (i : Int) ∧ i ≤ n ∧ Hid (∀ (k : Nat) (r : Op18R), k < i → rs[k]? = some r → fitsOp r) ∧ Hid (Below w.heap.size w wr)) (fun iv _ => n - (intOf iv).toNat)
    case atStart => exact ⟨0, rfl, by omega, Lib.hid fun k r hk => absurd hk (by omega), Lib.hid (Below.refl _ _)⟩
    case round =>
      obtain ⟨i, rfl, hi, HS, HB⟩ := hrel
      have nb := NB.out
      by_cases hlt : i < n
      · obtain ⟨b, o, rfl, hbl, hall⟩ := H.out.2 (by omega)
        have hr : rs[i]? = some (rs[i]'(by rw [H.out.1]; exact hlt)) := List.getElem?_eq_getElem _
        generalize rs[i]'(by rw [H.out.1]; exact hlt) = r at hr
        obtain ⟨ok, cl⟩ := hall i r hr
        have HR := Lib.hid hr
        have RP : (loadVar 35 ⟨b, o + i * 6, none⟩).run Try.prog wr = .ok (.agg (opCs r)) wr := run_part wr b (o + i * 6) 35 r.cells _ Try.underlying35 rfl (by kernel_rfl) ((show At w b (o + i * 6) r.cells from cl).below HB.out hbl)
        have J := Blk.new wr 35 #[.int .i64 0, .string ⟨#[]⟩, .int .i64 0, .string ⟨#[]⟩, .int .i64 0, .string ⟨#[]⟩]
        have NK := Lib.hid (setRow_blk J (opCs r))
        have BN := Lib.hid (HB.out.trans ((setRow_bel ((Below.refl wr.heap.size wr).alloc (Nat.le_refl _) (.cells #[.int .i64 0, .string ⟨#[]⟩, .int .i64 0, .string ⟨#[]⟩, .int .i64 0, .string ⟨#[]⟩] 35)) (Nat.le_refl _) (opCs r)).mono HB.out.size))
        have one := Lib.hid (one_op r)
        obtain ⟨k1, k3, k5⟩ := ok
        clear hall cl hr
        obtain ⟨w2, hw2⟩ : ∃ w2, w2 = (wr.alloc (.cells #[.int .i64 0, .string ⟨#[]⟩, .int .i64 0, .string ⟨#[]⟩, .int .i64 0, .string ⟨#[]⟩] 35)).setRow wr.heap.size (opCs r) := ⟨_, rfl⟩
        have W2 := Lib.hid hw2.symm
        rw [← hw2] at NK BN
        clear hw2
        have c1 : w2.cell? ⟨wr.heap.size, 1, none⟩ = some (.string r.x1) := NK.out.cell 1
        have c3 : w2.cell? ⟨wr.heap.size, 3, none⟩ = some (.string r.x3) := NK.out.cell 3
        have c5 : w2.cell? ⟨wr.heap.size, 5, none⟩ = some (.string r.x5) := NK.out.cell 5
        have f1 : IntKind.i64.wrap ((r.x1.size : Int) + (r.x3.size : Int)) = (r.x1.size : Int) + (r.x3.size : Int) := IntWalk.i64_in _ (by omega)
        have f2 : IntKind.i64.wrap ((r.x1.size : Int) + (r.x3.size : Int) + (r.x5.size : Int)) = (r.x1.size : Int) + (r.x3.size : Int) + (r.x5.size : Int) := IntWalk.i64_in _ (by omega)
        clear NK k1 k3 k5
        by_cases q1 : 300 < r.x1.size + r.x3.size + r.x5.size
        · have g1 : decide ((300 : Int) < (r.x1.size : Int) + (r.x3.size : Int) + (r.x5.size : Int)) = true := decide_eq_true (by omega)
          clear q1
          clear HS HB HR
          go_wp2_with (first
              | (refine wpList_load_part rfl 35 (.tmp 16) rfl b (o + i * 6) (opCs r).toList rfl RP ?_)
              | (refine wpList_store_row rfl 35 (.tmp 4) (.tmp 17) rfl wr.heap.size (opCs r) rfl rfl 35 _ J (by kernel_rfl) rfl one.out ?_; rw [W2.out]; clear J RP))
          go_ret
          exact ⟨false, rfl, fun z => (by cases z), BN.out⟩
        have g1 : decide ((300 : Int) < (r.x1.size : Int) + (r.x3.size : Int) + (r.x5.size : Int)) = false := decide_eq_false (by omega)
        have HN : Hid (∀ (k : Nat) (r : Op18R), k < i + 1 → rs[k]? = some r → fitsOp r) := Lib.hid fun k r' hk hr' => by
          rcases Nat.lt_or_ge k i with hlt' | hge
          · exact HS.out k r' hlt' hr'
          · obtain rfl : k = i := by omega
            obtain rfl := Option.some.inj (hr'.symm.trans HR.out)
            exact Nat.not_lt.1 q1
        clear HS HB HR q1
        go_wp2_with (first
              | (refine wpList_load_part rfl 35 (.tmp 16) rfl b (o + i * 6) (opCs r).toList rfl RP ?_)
              | (refine wpList_store_row rfl 35 (.tmp 4) (.tmp 17) rfl wr.heap.size (opCs r) rfl rfl 35 _ J (by kernel_rfl) rfl one.out ?_; rw [W2.out]; clear J RP))
        go_roundw
        case rel => exact ⟨i + 1, by go_num, by omega, HN, BN⟩
        case measure => simp [intOf]; omega
      · have e : i = n := by omega
        subst e
        have HF : Hid (∀ (k : Nat) (r : Op18R), rs[k]? = some r → fitsOp r) := Lib.hid fun k r hk => HS.out k r (by
          have := (List.getElem?_eq_some_iff.1 hk).1
          rw [H.out.1] at this
          exact this) hk
        clear HS
        go_wp2_with fail
        go_ret
        exact ⟨true, rfl, fun _ => ⟨NB.out, HF.out⟩, HB.out⟩
end Go.Proofs.Ytnabjhdamofpgaa.Few18
