/- Print: the text of an address. -/
import Derived.Test.YtggahoocgijdkaaDoorRun
import Derived.Test.YtggahoocgijdkaaDoorMask
set_option linter.unusedVariables false
namespace Go.Proofs.YtggahoocgijdkaaDoor.Print
open Go.RowKit Go.PlainAid Go.Proofs.YtggahoocgijdkaaDoor.Sums Go.Proofs.YtggahoocgijdkaaDoor.Mem Go.Proofs.YtggahoocgijdkaaDoor.Std Go.Proofs.YtggahoocgijdkaaDoor.Row Go.Proofs.YtggahoocgijdkaaDoor.Grp Go.Proofs.YtggahoocgijdkaaDoor.Arr Go.Proofs.YtggahoocgijdkaaDoor.Digits Go.Proofs.YtggahoocgijdkaaDoor.Run Go.Proofs.YtggahoocgijdkaaDoor.Mask

def decB (x : Nat) : ByteArray := ⟨(Lib.decDigits x).toArray⟩
/-- The text of four bytes. -/
def fourT (l : List Nat) : List UInt8 := Lib.join (l.map Lib.decDigits) [46]

theorem dec_len (x : Nat) (hx : x ≤ 255) : (Lib.decDigits x).length ≤ 3 := by
  rw [Lib.decDigits_length]
  by_cases h1 : x < 10
  · rw [Lib.nDigits_small h1]; omega
  · rw [Lib.nDigits, dif_neg h1]
    by_cases h2 : x / 10 < 10
    · rw [Lib.nDigits_small h2]; omega
    · rw [Lib.nDigits, dif_neg h2, Lib.nDigits_small (by omega)]
      omega

theorem itoa_any (x : Nat) (hx : x ≤ 255) (w : World) (h : Std w) :
    Calls Tryd.prog 46 #[.int .i64 (x : Int)] w fun e w' => e = .returned (.string (decB x)) ∧ Below w.heap.size w w' := by
  refine (Tryd.strconv_Itoa (x : Int) (by omega) (by omega) w h.pow).mono ?_
  rintro e w' ⟨rfl, k, os, rfl⟩
  refine ⟨by rw [Lib.itoa_nonneg]; rfl, ⟨rfl, rfl, rfl, by simp [Sort.grow, World.drewN], fun j hj => ?_⟩⟩
  show (w.heap ++ os)[j]? = w.heap[j]?
  rw [Array.getElem?_append_left hj]

set_option maxHeartbeats 2000000 in
theorem print4_any (s : ByteArray) (h4 : s.size = 4) (w : World) (hs : Std w) :
    Calls Tryd.prog 27 #[.string s] w fun e w' => e = .returned (.string ⟨(fourT (bts s)).toArray⟩) ∧ Below w.heap.size w w' := by
  obtain ⟨w1, v1, hr, ho, hb⟩ := run_bytes_string w s (by simp only [maxLen]; omega)
  obtain ⟨A, c, rfl, hh⟩ := ho.slice
  obtain ⟨g, rfl, hg, hg'⟩ := ho.form (by omega)
  have HC : Hid (∀ (k x : Nat), (bts s)[k]? = some x → w1.cell? ⟨g, k, none⟩ = some (.int .u8 (x : Int))) := Lib.hid fun k x hk => ho.cell (by
    have e : nums s = (bts s).map fun z : Nat => (z : Int) := by simp [nums, bts, List.map_map]
    rw [e, List.getElem?_map, hk]
    rfl)
  have HL : Hid ((bts s).length = 4) := Lib.hid (by rw [bts_len]; exact h4)
  have HS := Lib.hid (hs.keep hb)
  have h16 : s.size ≤ 16 := by omega
  have H4 := Lib.hid h4
  have hz1 := hb.size
  have LE := Lib.hid (bts_le s)
  clear ho hh h4
  go_enter Tryd.func27, Tryd.ntmps27
  go_wp2_with fail
  go_loopw [3, 9] (fun v i wr => ∃ k : Nat, i = .int .i64 k ∧ k ≤ s.size ∧ wr.ownsRow w1.heap.size 9 1 v k (texts (((bts s).take k).map decB)) ∧ Below w1.heap.size w1 wr) (fun _ i _ => s.size - (intOf i).toNat)
  case atStart => exact ⟨0, rfl, Nat.zero_le _, World.ownsRow_nil _ _ _ _, Below.refl _ _⟩
  case round =>
    obtain ⟨k, rfl, hk, ho, hbr⟩ := hrel
    have hsz := hbr.size
    by_cases hlt : k < s.size
    · obtain ⟨x, hx⟩ : ∃ x, (bts s)[k]? = some x := ⟨_, List.getElem?_eq_getElem (by rw [bts_len]; exact hlt)⟩
      have hx1 := LE.out x (List.mem_of_getElem? hx)
      have hcl := keep_cell (HC.out k x hx) hbr
      have FC := Lib.hid (itoa_any x hx1 wr (HS.out.keep hbr))
      have HX := Lib.hid hx
      clear hx
      go_wp2_with fail
      refine FC.out.mono ?_
      rintro e w2 ⟨rfl, hb2⟩
      have ho1 := own_below ho hb2
      have hN1 := hbr.trans (hb2.mono hsz)
      have hs1 := hb2.size
      clear ho
      go_wp2_with (first
        | (at_builtin
           refine wpList_one rfl (.tmp 13) (.tmp 17) 39 9 rfl w1.heap.size (.string ByteArray.empty) (.string (decB x)) 16 Tryd.underlying39 str_info rfl (by decide) _ _ _ rfl ho1 rfl rfl (by omega) (by omega) ?_
           intro v2 w3 ho2 hg2))
      have hN2 : Below w1.heap.size w1 w3 := (hN1.alloc (by omega) _).grown hg2 (by simp; omega) fun g hg => (own_lt ho1 g hg).1
      clear hg2 ho1
      go_roundw
      case rel =>
        refine ⟨k + 1, by go_num, hlt, ?_, hN2⟩
        have e : texts (((bts s).take k).map decB) ++ [.string (decB x)] = texts (((bts s).take (k + 1)).map decB) := by
          rw [List.take_add_one, HX.out]
          simp [texts]
        rw [← e]
        exact ho2
      case measure => simp [intOf]; omega
    · have e : k = s.size := by omega
      subst e
      rw [List.take_of_length_le (by rw [bts_len]; exact Nat.le_refl _)] at ho
      obtain ⟨A', c', rfl, hc'⟩ : ∃ A' c', u3 = .slice A' s.size c' ∧ s.size ≤ c' := by
        rcases ho.2 with ⟨h1, h2⟩ | ⟨g, cap, cur, h1, _, _, h2, _⟩
        · exact ⟨none, 0, by rw [h1, h2], by omega⟩
        · exact ⟨_, _, h1, h2⟩
      have ed : Lib.join (((bts s).map decB).map (·.data.toList)) (⟨#[46]⟩ : ByteArray).data.toList = fourT (bts s) := by
        have e1 : ((bts s).map decB).map (·.data.toList) = (bts s).map Lib.decDigits := by
          rw [List.map_map]
          apply List.map_congr_left
          intro x _
          simp [decB]
        rw [e1]
        rfl
      have hjl : (Lib.join (((bts s).map decB).map (·.data.toList)) (⟨#[46]⟩ : ByteArray).data.toList).length ≤ 140737488355328 := by
        have := join_le (⟨#[46]⟩ : ByteArray).data.toList (((bts s).map decB).map (·.data.toList)) 3 (fun y hy => by
          simp only [List.map_map, List.mem_map, Function.comp] at hy
          obtain ⟨z, hz, rfl⟩ := hy
          simpa [decB] using dec_len z (LE.out z hz))
        rw [List.length_map, List.length_map, HL.out] at this
        have h2 : (⟨#[46]⟩ : ByteArray).data.toList.length = 1 := rfl
        rw [h2] at this
        omega
      have J := join_any w1.heap.size s.size c' A' ((bts s).map decB) ⟨#[46]⟩ wr ho (by omega) hc' hjl
      rw [ed] at J
      have J := Lib.hid J
      clear ho ed hjl
      go_wp2_with fail
      refine J.out.mono ?_
      rintro e w2 ⟨rfl, hb2⟩
      have hN := (hb.trans (hbr.mono hz1)).trans (hb2.mono (by omega))
      go_wp2_with fail
      go_ret
      exact ⟨rfl, hN⟩

theorem print_no (s : ByteArray) (hs : s.size ≤ maxLen) (h4 : s.size ≠ 4) (h6 : s.size ≠ 16) (w : World) :
    Calls Tryd.prog 12 #[.string s] w fun e w' => e = .returned (.tuple #[.string ⟨#[]⟩, .int .i64 1]) ∧ w = w' := by
  have g4 : ((s.size : Int) == 4) = false := by rw [beq_eq_false_iff_ne]; omega
  have g6 : ((s.size : Int) == 16) = false := by rw [beq_eq_false_iff_ne]; omega
  unfold maxLen at hs
  clear h4 h6
  go_enter Tryd.func12, Tryd.ntmps12
  go_wp2_with fail
  go_ret2
  exact ⟨rfl, rfl⟩

theorem print_four (s : ByteArray) (h4 : s.size = 4) (w : World) (h : Std w) :
    Calls Tryd.prog 12 #[.string s] w fun e w' => e = .returned (.tuple #[.string ⟨(fourT (bts s)).toArray⟩, .int .i64 0]) ∧ Below w.heap.size w w' := by
  have g4 : ((s.size : Int) == 4) = true := by rw [beq_iff_eq]; omega
  have P := Lib.hid (print4_any s h4 w h)
  clear h4
  go_enter Tryd.func12, Tryd.ntmps12
  go_wp2_with fail
  refine P.out.mono ?_
  rintro e w1 ⟨rfl, hb⟩
  go_wp2_with fail
  go_ret2
  exact ⟨rfl, hb⟩

theorem print_six (s : ByteArray) (h6 : s.size = 16) (w : World) (h : Std w) :
    Calls Tryd.prog 12 #[.string s] w fun e w' => e = .returned (.tuple #[.string ⟨(sixT (grps s)).toArray⟩, .int .i64 0]) ∧ Below w.heap.size w w' := by
  have g4 : ((s.size : Int) == 4) = false := by rw [beq_eq_false_iff_ne]; omega
  have g6 : ((s.size : Int) == 16) = true := by rw [beq_iff_eq]; omega
  have R := Lib.hid (read_any s 8 h6 (Nat.le_refl _) w)
  have P := Lib.hid (fun W (hW : Std W) => print6_any (grps s) (grps_len (n := 8) h6 (Nat.le_refl _)) (grps_le s) W hW)
  clear h6
  go_enter Tryd.func12, Tryd.ntmps12
  go_wp2_with fail
  refine R.out.mono ?_
  rintro e w1 ⟨rfl, hb1⟩
  go_wp2_with fail
  refine (P.out _ (h.keep hb1)).mono ?_
  rintro e w2 ⟨rfl, hb2⟩
  go_wp2_with fail
  go_ret2
  exact ⟨rfl, hb1.trans (hb2.mono hb1.size)⟩

end Go.Proofs.YtggahoocgijdkaaDoor.Print
