/- How long a script is. -/
import Derived.Test.YtjeenmeoiidmnaaDoorArgT
import Derived.Test.YtjeenmeoiidmnaaDoorPart
import Derived.LoopTactic
set_option linter.unusedVariables false
namespace Go.Proofs.YtjeenmeoiidmnaaDoor.Few21
open Go.RowKit Go.Proofs.YtjeenmeoiidmnaaDoor.Mem Go.Proofs.YtjeenmeoiidmnaaDoor.Blk Go.Proofs.YtjeenmeoiidmnaaDoor.ArgT Go.Proofs.YtjeenmeoiidmnaaDoor.Part

/-- What a call of a script keeps. -/
def fitsOp (r : Op21R) : Prop := r.x2.size ≤ 300 ∧ -1000000000 ≤ r.x0 ∧ r.x0 ≤ 1000000000
/-- What 'few' answers. -/
def FewQ (n : Nat) (rs : List Op21R) (w : World) (e : Ending) (w' : World) : Prop := ∃ fb, e = .returned (.bool fb) ∧ (fb = true → n ≤ 150 ∧ ∀ (k : Nat) (r : Op21R), rs[k]? = some r → fitsOp r) ∧ Below w.heap.size w w'
set_option maxHeartbeats 2000000 in
set_option maxRecDepth 100000 in
theorem few_any (A : Option Addr) (n c : Nat) (rs : List Op21R) (w : World) (h : Op21Rows w A n rs) : Calls Tryd.prog 8 #[.slice A n c] w fun e w' => FewQ n rs w e w' := by
  by_cases big : 150 < n
  · have g0 : decide ((150 : Int) < (n : Int)) = true := decide_eq_true (by omega)
    clear h big
    go_enter Tryd.func8, Tryd.ntmps8
    go_wp2_with fail
    go_ret
    exact ⟨false, rfl, fun z => (by cases z), Below.refl _ _⟩
  · have g0 : decide ((150 : Int) < (n : Int)) = false := decide_eq_false (by omega)
    have NB : Hid (n ≤ 150) := Lib.hid (by omega)
    have H := Lib.hid h
    clear h big
    go_enter Tryd.func8, Tryd.ntmps8
    go_wp2_with fail
    go_loopw [3] (fun iv wr => ∃ i : Nat, iv = .int .i64 (i : Int) ∧ i ≤ n ∧ Hid (∀ (k : Nat) (r : Op21R), k < i → rs[k]? = some r → fitsOp r) ∧ Hid (w = wr)) (fun iv _ => n - (intOf iv).toNat)
    case atStart => exact ⟨0, rfl, by omega, Lib.hid fun k r hk => absurd hk (by omega), Lib.hid rfl⟩
    case round =>
      obtain ⟨i, rfl, hi, HS, HW⟩ := hrel
      obtain rfl := HW.out
      have nb := NB.out
      by_cases hlt : i < n
      · obtain ⟨b, o, rfl, hbl, hall⟩ := H.out.2 (by omega)
        have hr : rs[i]? = some (rs[i]'(by rw [H.out.1]; exact hlt)) := List.getElem?_eq_getElem _
        generalize rs[i]'(by rw [H.out.1]; exact hlt) = r at hr
        obtain ⟨ok, cl⟩ := hall i r hr
        have HR := Lib.hid hr
        have c2 : w.cell? ⟨b, o + i * 4 + 2, none⟩ = some (.string r.x2) := cl 2 _ rfl
        have c0 : w.cell? ⟨b, o + i * 4, none⟩ = some (.int .i64 r.x0) := cl 0 _ rfl
        clear hall cl hr ok
        by_cases q1 : 300 < r.x2.size
        · have g1 : decide ((300 : Int) < (r.x2.size : Int)) = true := decide_eq_true (by omega)
          clear q1 HS HR
          go_wp2_with fail
          go_ret
          exact ⟨false, rfl, fun z => (by cases z), Below.refl _ _⟩
        have g1 : decide ((300 : Int) < (r.x2.size : Int)) = false := decide_eq_false (by omega)
        by_cases q2 : r.x0 < -1000000000
        · have g2 : decide (r.x0 < -1000000000) = true := decide_eq_true q2
          clear q1 q2 HS HR
          go_wp2_with fail
          go_ret
          exact ⟨false, rfl, fun z => (by cases z), Below.refl _ _⟩
        have g2 : decide (r.x0 < -1000000000) = false := decide_eq_false q2
        by_cases q3 : 1000000000 < r.x0
        · have g3 : decide (1000000000 < r.x0) = true := decide_eq_true q3
          clear q1 q2 q3 HS HR
          go_wp2_with fail
          go_ret
          exact ⟨false, rfl, fun z => (by cases z), Below.refl _ _⟩
        have g3 : decide (1000000000 < r.x0) = false := decide_eq_false q3
        have HN : Hid (∀ (k : Nat) (r : Op21R), k < i + 1 → rs[k]? = some r → fitsOp r) := Lib.hid fun k r' hk hr' => by
          rcases Nat.lt_or_ge k i with hlt' | hge
          · exact HS.out k r' hlt' hr'
          · obtain rfl : k = i := by omega
            obtain rfl := Option.some.inj (hr'.symm.trans HR.out)
            unfold fitsOp
            omega
        clear HS HR q1 q2 q3
        go_wp2_with fail
        go_roundw
        case rel => exact ⟨i + 1, by go_num, by omega, HN, Lib.hid (by first | rfl | trivial)⟩
        case measure => simp [intOf]; omega
      · have e : i = n := by omega
        subst e
        have HF : Hid (∀ (k : Nat) (r : Op21R), rs[k]? = some r → fitsOp r) := Lib.hid fun k r hk => HS.out k r (by
          have := (List.getElem?_eq_some_iff.1 hk).1
          rw [H.out.1] at this
          exact this) hk
        clear HS
        go_wp2_with fail
        go_ret
        exact ⟨true, rfl, fun _ => ⟨NB.out, HF.out⟩, Below.refl _ _⟩
end Go.Proofs.YtjeenmeoiidmnaaDoor.Few21
