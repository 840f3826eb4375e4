/- How long a script's texts are. -/
import Derived.Test.YtmomkjgnopcobaaArgT
import Derived.Test.YtmomkjgnopcobaaPart
import Derived.LoopTactic
import Derived.BigQuiet
set_option linter.unusedVariables false
namespace Go.Proofs.Ytmomkjgnopcobaa.Few16
open Go.RowKit Go.Proofs.Ytmomkjgnopcobaa.Mem Go.Proofs.Ytmomkjgnopcobaa.Blk Go.Proofs.Ytmomkjgnopcobaa.ArgT Go.Proofs.Ytmomkjgnopcobaa.Part

def sz (r : Op16R) : Nat := r.x16.size + r.x17.size + r.x3.size + r.x4.size + r.x5.size + r.x6.size + r.x18.size + r.x19.size
def ruleCs (r : Op16R) : Array Value := #[.int .i64 r.x2, .string r.x3, .string r.x4, .string r.x5, .string r.x6, .int .i64 r.x7, .int .i64 r.x8, .int .i64 r.x9, .int .i64 r.x10, .int .i64 r.x11, .bool r.x12, .bool r.x13, .int .i64 r.x14, .bool r.x15, .string r.x16, .string r.x17]
theorem one_rule (r : Op16R) : (ruleCs r).all (·.oneCell') = true := by simp [ruleCs, Value.oneCell']
set_option maxHeartbeats 2000000 in
set_option maxRecDepth 100000 in
theorem few_any (A : Option Addr) (n c : Nat) (rs : List Op16R) (w : World) (h : Op16Rows w A n rs) (hm : True) : Calls Try.prog 7 #[.slice A n c] w fun e w' => ∃ fb, e = .returned (.bool fb) ∧ (fb = true → n ≤ 120 ∧ ∀ (k : Nat) (r : Op16R), rs[k]? = some r → sz r ≤ 600) ∧ Below w.heap.size w w' := by
  by_cases big : 120 < n
  · have g0 : decide ((120 : Int) < (n : Int)) = true := decide_eq_true (by omega)
    clear h big
    go_enter Try.func7, Try.ntmps7
    go_wp2_with fail
    go_ret
    exact ⟨false, rfl, fun z => (by cases z), Below.refl _ _⟩
  · have g0 : decide ((120 : Int) < (n : Int)) = false := decide_eq_false (by omega)
    have NB : Hid (n ≤ 120) := Lib.hid (by omega)
    have H := Lib.hid h
    clear h big hm
    go_enter Try.func7, Try.ntmps7
    go_wp2_with fail
    go_loopw [3] (fun iv wr => ∃ i : Nat, iv = .int .i64 (i : Int) ∧ i ≤ n ∧ Hid (∀ (k : Nat) (r : Op16R), k < i → rs[k]? = some r → sz r ≤ 600) ∧ Hid (Below w.heap.size w wr)) (fun iv _ => n - (intOf iv).toNat)
    case atStart => exact ⟨0, rfl, by omega, Lib.hid fun k r hk => absurd hk (by omega), Lib.hid (Below.refl _ _)⟩
    case round =>
      obtain ⟨i, rfl, hi, HS, HB⟩ := hrel
      have nb := NB.out
      by_cases hlt : i < n
      · obtain ⟨b, o, rfl, hbl, hall⟩ := H.out.2 (by omega)
        have hr : rs[i]? = some (rs[i]'(by rw [H.out.1]; exact hlt)) := List.getElem?_eq_getElem _
        generalize rs[i]'(by rw [H.out.1]; exact hlt) = r at hr
        obtain ⟨ok, cl⟩ := hall i r hr
        have HR := Lib.hid hr
        have CL : Hid (At wr b (o + i * 24) r.cells) := Lib.hid ((show At w b (o + i * 24) r.cells from cl).below HB.out hbl)
        have RP : (loadVar 35 ⟨b, o + i * 24 + 2, none⟩).run Try.prog wr = .ok (.agg (ruleCs r)) wr := run_part wr b (o + i * 24 + 2) 35 (ruleCs r).toList _ Try.underlying35 rfl (by kernel_rfl) (CL.out.sub 2 16)
        have J := Blk.new wr 35 #[.int .i64 0, .string ⟨#[]⟩, .string ⟨#[]⟩, .string ⟨#[]⟩, .string ⟨#[]⟩, .int .i64 0, .int .i64 0, .int .i64 0, .int .i64 0, .int .i64 0, .bool false, .bool false, .int .i64 0, .bool false, .string ⟨#[]⟩, .string ⟨#[]⟩]
        have NBk := Lib.hid (setRow_blk J (ruleCs r))
        have BX := Lib.hid ((setRow_bel ((Below.refl wr.heap.size wr).alloc (Nat.le_refl _) (.cells #[.int .i64 0, .string ⟨#[]⟩, .string ⟨#[]⟩, .string ⟨#[]⟩, .string ⟨#[]⟩, .int .i64 0, .int .i64 0, .int .i64 0, .int .i64 0, .int .i64 0, .bool false, .bool false, .int .i64 0, .bool false, .string ⟨#[]⟩, .string ⟨#[]⟩] 35)) (Nat.le_refl _) (ruleCs r)))
        have HX := Lib.hid (HB.out.trans (BX.out.mono HB.out.size))
        have CX := Lib.hid (CL.out.below BX.out (Nat.lt_of_lt_of_le hbl HB.out.size))
        have OK := Lib.hid ok
        have one := Lib.hid (one_rule r)
        clear hall cl ok hr
        go_wp2_with (first
          | (refine wpList_load_part rfl 35 (.tmp 18) rfl b (o + i * 24 + 2) (ruleCs r).toList rfl RP ?_)
          | (refine wpList_store_row rfl 35 (.tmp 4) (.tmp 19) rfl wr.heap.size (ruleCs r) rfl rfl 35 _ J (by kernel_rfl) rfl one.out ?_))
        clear J RP
        generalize (wr.alloc (.cells #[.int .i64 0, .string ⟨#[]⟩, .string ⟨#[]⟩, .string ⟨#[]⟩, .string ⟨#[]⟩, .int .i64 0, .int .i64 0, .int .i64 0, .int .i64 0, .int .i64 0, .bool false, .bool false, .int .i64 0, .bool false, .string ⟨#[]⟩, .string ⟨#[]⟩] 35)).setRow wr.heap.size (ruleCs r) = w2 at *
        have c1 : w2.cell? ⟨wr.heap.size, 1, none⟩ = some (.string r.x3) := NBk.out.cell 1
        have c2 : w2.cell? ⟨wr.heap.size, 2, none⟩ = some (.string r.x4) := NBk.out.cell 2
        have c3 : w2.cell? ⟨wr.heap.size, 3, none⟩ = some (.string r.x5) := NBk.out.cell 3
        have c4 : w2.cell? ⟨wr.heap.size, 4, none⟩ = some (.string r.x6) := NBk.out.cell 4
        have c14 : w2.cell? ⟨wr.heap.size, 14, none⟩ = some (.string r.x16) := NBk.out.cell 14
        have c15 : w2.cell? ⟨wr.heap.size, 15, none⟩ = some (.string r.x17) := NBk.out.cell 15
        have d18 : w2.cell? ⟨b, o + i * 24 + 18, none⟩ = some (.string r.x18) := CX.out 18 _ rfl
        have d19 : w2.cell? ⟨b, o + i * 24 + 19, none⟩ = some (.string r.x19) := CX.out 19 _ rfl
        obtain ⟨k3, k4, k5, k6, k16, k17, k18, k19⟩ := OK.out
        have SE : Hid (sz r = r.x16.size + r.x17.size + r.x3.size + r.x4.size + r.x5.size + r.x6.size + r.x18.size + r.x19.size) := Lib.hid rfl
        obtain ⟨S, hS⟩ : ∃ S, sz r = S := ⟨_, rfl⟩
        rw [hS] at SE
        obtain ⟨r3, r4, r5, r6, r16, r17, r18, r19⟩ : True ∧ True ∧ True ∧ True ∧ True ∧ True ∧ True ∧ True := ⟨trivial, trivial, trivial, trivial, trivial, trivial, trivial, trivial⟩
        generalize r.x3 = t3 at *
        generalize r.x4 = t4 at *
        generalize r.x5 = t5 at *
        generalize r.x6 = t6 at *
        generalize r.x16 = t16 at *
        generalize r.x17 = t17 at *
        generalize r.x18 = t18 at *
        generalize r.x19 = t19 at *
        have f1 : IntKind.i64.wrap ((t16.size : Int) + (t17.size : Int)) = (t16.size : Int) + (t17.size : Int) := IntWalk.i64_in _ (by omega)
        have f2 : IntKind.i64.wrap ((t16.size : Int) + (t17.size : Int) + (t3.size : Int)) = (t16.size : Int) + (t17.size : Int) + (t3.size : Int) := IntWalk.i64_in _ (by omega)
        have f3 : IntKind.i64.wrap ((t16.size : Int) + (t17.size : Int) + (t3.size : Int) + (t4.size : Int)) = (t16.size : Int) + (t17.size : Int) + (t3.size : Int) + (t4.size : Int) := IntWalk.i64_in _ (by omega)
        have f4 : IntKind.i64.wrap ((t16.size : Int) + (t17.size : Int) + (t3.size : Int) + (t4.size : Int) + (t5.size : Int)) = (t16.size : Int) + (t17.size : Int) + (t3.size : Int) + (t4.size : Int) + (t5.size : Int) := IntWalk.i64_in _ (by omega)
        have f5 : IntKind.i64.wrap ((t16.size : Int) + (t17.size : Int) + (t3.size : Int) + (t4.size : Int) + (t5.size : Int) + (t6.size : Int)) = (t16.size : Int) + (t17.size : Int) + (t3.size : Int) + (t4.size : Int) + (t5.size : Int) + (t6.size : Int) := IntWalk.i64_in _ (by omega)
        have f6 : IntKind.i64.wrap ((t16.size : Int) + (t17.size : Int) + (t3.size : Int) + (t4.size : Int) + (t5.size : Int) + (t6.size : Int) + (t18.size : Int)) = (t16.size : Int) + (t17.size : Int) + (t3.size : Int) + (t4.size : Int) + (t5.size : Int) + (t6.size : Int) + (t18.size : Int) := IntWalk.i64_in _ (by omega)
        have f7 : IntKind.i64.wrap ((t16.size : Int) + (t17.size : Int) + (t3.size : Int) + (t4.size : Int) + (t5.size : Int) + (t6.size : Int) + (t18.size : Int) + (t19.size : Int)) = (t16.size : Int) + (t17.size : Int) + (t3.size : Int) + (t4.size : Int) + (t5.size : Int) + (t6.size : Int) + (t18.size : Int) + (t19.size : Int) := IntWalk.i64_in _ (by omega)
        clear NBk CX OK r3 r4 r5 r6 r16 r17 r18 r19 k3 k4 k5 k6 k16 k17 k18 k19 CL BX
        go_quiet (fail)
        have SUM : (t16.size : Int) + (t17.size : Int) + (t3.size : Int) + (t4.size : Int) + (t5.size : Int) + (t6.size : Int) + (t18.size : Int) + (t19.size : Int) = (S : Int) := by have := SE.out; omega
        rw [SUM]
        have BN := Lib.hid (HX.out.trans ((below_drewN (Below.refl w2.heap.size w2) nq).mono HX.out.size))
        clear SUM f1 f2 f3 f4 f5 f6 f7 c1 c2 c3 c4 c14 c15 d18 d19 HX
        by_cases q : 600 < S
        · have g1 : decide ((600 : Int) < (S : Int)) = true := decide_eq_true (by omega)
          clear HS HB SE HR q
          go_wp2_with fail
          go_ret
          exact ⟨false, rfl, fun z => (by cases z), BN.out⟩
        · have g1 : decide ((600 : Int) < (S : Int)) = false := decide_eq_false (by omega)
          have HN : Hid (∀ (k : Nat) (r : Op16R), k < i + 1 → rs[k]? = some r → sz r ≤ 600) := Lib.hid fun k r' hk hr' => by
            rcases Nat.lt_or_ge k i with hlt' | hge
            · exact HS.out k r' hlt' hr'
            · obtain rfl : k = i := by omega
              have e : r' = r := Option.some.inj (hr'.symm.trans HR.out)
              rw [e, hS]
              omega
          clear HS HB SE HR q
          go_wp2_with fail
          go_roundw
          case rel => exact ⟨i + 1, by go_num, by omega, HN, BN⟩
          case measure => simp [intOf]; omega
      · have e : i = n := by omega
        subst e
        have HF : Hid (∀ (k : Nat) (r : Op16R), rs[k]? = some r → sz r ≤ 600) := Lib.hid fun k r hk => HS.out k r (by
          have := (List.getElem?_eq_some_iff.1 hk).1
          rw [H.out.1] at this
          exact this) hk
        clear HS
        go_wp2_with fail
        go_ret
        exact ⟨true, rfl, fun _ => ⟨NB.out, HF.out⟩, HB.out⟩
end Go.Proofs.Ytmomkjgnopcobaa.Few16
