/- The reference: run; In. -/
import Derived.Test.YtggahoocgijdkaaDoorRefMask
set_option linter.unusedVariables false
namespace Go.Proofs.YtggahoocgijdkaaDoor.RefRun
open Go.RowKit Go.PlainAid Go.Proofs.YtggahoocgijdkaaDoor.Std Go.Proofs.YtggahoocgijdkaaDoor.Grp Go.Proofs.YtggahoocgijdkaaDoor.Arr Go.Proofs.YtggahoocgijdkaaDoor.Mask Go.Proofs.YtggahoocgijdkaaDoor.In Go.Proofs.YtggahoocgijdkaaDoor.Masks Go.Proofs.YtggahoocgijdkaaDoor.Digits Go.Proofs.YtggahoocgijdkaaDoor.Run Go.Proofs.YtggahoocgijdkaaDoor.RefSmall Go.Proofs.YtggahoocgijdkaaDoor.RefMask

/-- What the document's run says of a run. -/
def told (r : Nat × Nat) : Int × Int := if 2 ≤ r.2 then (r.1, r.2) else (-1, 1)
theorem told_on (l : List Nat) (k : Nat) (r : Nat × Nat) (h : (told r).2 < zerosN (l.drop k)) : told (runStep l k r) = ((k : Int), (zerosN (l.drop k) : Int)) := by
  unfold told at h
  have h2 : r.2 < zerosN (l.drop k) ∧ 2 ≤ zerosN (l.drop k) := by
    split at h <;> (simp only at h; omega)
  unfold runStep
  rw [if_pos h2.1]
  unfold told
  rw [if_pos h2.2]
theorem told_off (l : List Nat) (k : Nat) (r : Nat × Nat) (h : ¬ (told r).2 < zerosN (l.drop k)) : told (runStep l k r) = told r := by
  unfold told at h
  unfold runStep
  by_cases h2 : 2 ≤ r.2
  · rw [if_pos h2] at h
    rw [if_neg (by simp only at h; omega)]
  · rw [if_neg h2] at h
    simp only at h
    split
    · unfold told
      rw [if_neg (by simp only; omega), if_neg h2]
    · rfl

set_option maxRecDepth 100000 in
set_option maxHeartbeats 4000000 in
theorem run_any (l : List Nat) (hl : l.length = 8) (g : Nat) (w : World) (h : ∀ (k x : Nat), l[k]? = some x → w.cell? ⟨g, k, none⟩ = some (.int .i64 (x : Int))) :
    Calls Tryd.prog 32 #[.slice (some ⟨g, 0, none⟩) 8 8] w fun e w' => e = .returned (.tuple #[.int .i64 (told (Run.runN l)).1, .int .i64 (told (Run.runN l)).2]) ∧ w = w' := by
  have HL := Lib.hid hl
  have HC := Lib.hid h
  clear hl h
  go_enter Tryd.func32, Tryd.ntmps32
  go_wp2_with fail
  go_loop [4, 5, 6, 7] (fun a m i n => ∃ (k : Nat) (x y : Int), i = .int .i64 k ∧ k ≤ 8 ∧ a = .int .i64 x ∧ m = .int .i64 y ∧ 0 ≤ y ∧ y ≤ 8 ∧ Hid (told (runUpto l k) = (x, y))) (fun _ _ i _ => 8 - (intOf i).toNat)
  case atStart => exact ⟨0, -1, 1, rfl, Nat.zero_le _, rfl, rfl, by omega, by omega, rfl⟩
  case round =>
    obtain ⟨k, x, y, rfl, hk, rfl, rfl, hy0, hy8, hT⟩ := hrel
    by_cases hlt : k < 8
    · go_wp2_with fail
      go_loop [7] (fun n => ∃ j : Nat, n = .int .i64 j ∧ k + j ≤ 8 ∧ Hid (zerosN (l.drop k) = j + zerosN (l.drop (k + j)))) (fun n => 8 - (intOf n).toNat)
      case atStart => exact ⟨0, rfl, by omega, by show zerosN (l.drop k) = 0 + zerosN (l.drop (k + 0)); simp⟩
      case round =>
        obtain ⟨j, rfl, hj, hz⟩ := hrel
        have leave : ∀ (z : Nat), zerosN (l.drop k) = z → z ≤ 8 → (y < z → Hid (told (runUpto l (k + 1)) = ((k : Int), (z : Int)))) ∧ (¬ y < z → Hid (told (runUpto l (k + 1)) = (x, y))) := by
          intro z hzz _
          have hT' := hT.out
          constructor
          · intro hlt'
            have := told_on l k (runUpto l k) (by rw [hT', hzz]; exact hlt')
            rw [hzz] at this
            exact this
          · intro hlt'
            have := told_off l k (runUpto l k) (by rw [hT', hzz]; exact hlt')
            exact this.trans hT'
        have LV := Lib.hid leave
        clear leave
        have e1 : ((k : Int) + (j : Int)).toNat = k + j := by omega
        by_cases hjl : k + j < 8
        · obtain ⟨v, hv⟩ : ∃ v, l[k + j]? = some v := ⟨_, List.getElem?_eq_getElem (by rw [HL.out]; exact hjl)⟩
          have hc := HC.out (k + j) v hv
          have hd : l.drop (k + j) = v :: l.drop (k + j + 1) := by
            obtain ⟨hk', e⟩ := List.getElem?_eq_some_iff.1 hv
            rw [List.drop_eq_getElem_cons hk', e]
          by_cases h0 : v = 0
          · subst h0
            have HZ : Hid (zerosN (l.drop k) = (j + 1) + zerosN (l.drop (k + (j + 1)))) := Lib.hid (by
              rw [hz.out, hd]
              simp only [zerosN, if_true]
              rw [show k + (j + 1) = k + j + 1 by omega]
              omega)
            clear hv hd hz
            go_wp2_with fail
            go_round
            case rel => exact ⟨j + 1, by go_num, by omega, HZ⟩
            case measure => simp [intOf]; omega
          · have HZ : zerosN (l.drop k) = j := by rw [hz.out, hd]; simp only [zerosN, if_neg h0]; omega
            have hv0 : ((v : Int) == 0) = false := by rw [beq_eq_false_iff_ne]; omega
            have lv := LV.out j HZ (by omega)
            clear hv hd hz HZ h0
            by_cases hyj : y < (j : Int)
            · have NX := lv.1 hyj
              clear lv
              go_wp2_with fail
              go_round
              case rel => exact ⟨k + 1, k, j, by go_num, by omega, rfl, rfl, by omega, by omega, NX⟩
              case measure => simp [intOf]; omega
            · have NX := lv.2 hyj
              clear lv
              go_wp2_with fail
              go_round
              case rel => exact ⟨k + 1, x, y, by go_num, by omega, rfl, rfl, by omega, by omega, NX⟩
              case measure => simp [intOf]; omega
        · have HZ : zerosN (l.drop k) = j := by
            rw [hz.out, List.drop_of_length_le (by rw [HL.out]; omega)]
            rfl
          have lv := LV.out j HZ (by omega)
          clear hz HZ
          by_cases hyj : y < (j : Int)
          · have NX := lv.1 hyj
            clear lv
            go_wp2_with fail
            go_round
            case rel => exact ⟨k + 1, k, j, by go_num, by omega, rfl, rfl, by omega, by omega, NX⟩
            case measure => simp [intOf]; omega
          · have NX := lv.2 hyj
            clear lv
            go_wp2_with fail
            go_round
            case rel => exact ⟨k + 1, x, y, by go_num, by omega, rfl, rfl, by omega, by omega, NX⟩
            case measure => simp [intOf]; omega
    · have e : k = 8 := by omega
      subst e
      have F := Lib.hid (show told (Run.runN l) = (x, y) from hT.out)
      clear hT
      go_wp2_with fail
      go_ret2
      exact ⟨by rw [F.out]; rfl, rfl⟩

end Go.Proofs.YtggahoocgijdkaaDoor.RefRun
