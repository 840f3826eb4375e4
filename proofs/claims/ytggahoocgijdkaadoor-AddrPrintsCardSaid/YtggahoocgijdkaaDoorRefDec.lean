/- The reference: dec. -/
import Derived.Test.YtggahoocgijdkaaDoorRefSmall
import Derived.Deep.RegionHeld3
set_option linter.unusedVariables false
namespace Go.Proofs.YtggahoocgijdkaaDoor.RefDec
open Go.RowKit Go.PlainAid Go.Proofs.YtggahoocgijdkaaDoor.Sums Go.Proofs.YtggahoocgijdkaaDoor.Mem Go.Proofs.YtggahoocgijdkaaDoor.Std Go.Proofs.YtggahoocgijdkaaDoor.Grp Go.Proofs.YtggahoocgijdkaaDoor.Arr Go.Proofs.YtggahoocgijdkaaDoor.Mask Go.Proofs.YtggahoocgijdkaaDoor.Digits Go.Proofs.YtggahoocgijdkaaDoor.Print

set_option maxRecDepth 100000 in
set_option maxHeartbeats 2000000 in
theorem dec_small (x : Nat) (h : x < 10) (w : World) :
    Calls Tryd.prog 31 #[.int .i64 x] w fun e w' => e = .returned (.string (decB x)) ∧ Below w.heap.size w w' := by
  have ed : decB x = txt [48 + x] := by
    have all : ∀ i : Fin 10, decB i.val = txt [48 + i.val] := by decide +kernel
    exact all ⟨x, h⟩
  have hcv : ∀ W : World, (convert 41 9 (.slice (some ⟨W.heap.size, 0, none⟩) 1 1)).run Tryd.prog (W.alloc (.cells #[.int .u8 (48 + (x : Int))] 5)) = .ok (.string (decB x)) (W.alloc (.cells #[.int .u8 (48 + (x : Int))] 5)) := fun W => by
    have := run_string_bytes (Holds.lit W (ints [48 + x]) #[.int .u8 (48 + (x : Int))] (by simp [ints]) (by simp [ints, maxLen]) (ints_bytes _ (by intro z hz; simp at hz; omega)))
    rw [txt_of, ← ed] at this
    exact this
  clear ed
  go_enter Tryd.func31, Tryd.ntmps31
  go_wp2_with fail
  go_ret
  exact ⟨rfl, (Below.refl _ _).alloc (Nat.le_refl _) _⟩

theorem new_cell (W : World) (u : Value) (t : TypeId) : (W.alloc (.cells #[u] t)).cell? ⟨W.heap.size, 0, none⟩ = some u := (Blk.new W t #[u]).cell 0
theorem conv_one (W : World) (b : Nat) (z : Nat) (hz : z ≤ 255) (h : W.cell? ⟨b, 0, none⟩ = some (.int .u8 (z : Int))) : (convert 41 9 (.slice (some ⟨b, 0, none⟩) 1 1)).run Tryd.prog W = .ok (.string (txt [z])) W := by
  have hh : Holds W (b + 1) (some ⟨b, 0, none⟩) 1 1 (ints [z]) := ⟨by simp [ints], Nat.le_refl _, by simp [maxLen], ints_bytes _ (by intro y hy; simp at hy; omega), fun _ => ⟨b, 0, rfl, by omega, fun j y hj => by
    match j, hj with
    | 0, hj =>
      simp [ints] at hj
      subst hj
      exact h⟩⟩
  have := run_string_bytes hh
  rwa [txt_of] at this
theorem dec_all : ∀ i : Fin 256, 10 ≤ i.val → decB i.val = decB (i.val / 10) ++ txt [48 + i.val % 10] := by decide +kernel

set_option maxRecDepth 100000 in
set_option maxHeartbeats 600000 in
theorem dec_more (x : Nat) (h : 10 ≤ x) (hx : x ≤ 255) (ih : ∀ w, Calls Tryd.prog 31 #[.int .i64 ((x : Int) / 10)] w fun e w' => e = .returned (.string (decB (x / 10))) ∧ Below w.heap.size w w') (w : World) :
    Calls Tryd.prog 31 #[.int .i64 x] w fun e w' => e = .returned (.string (decB x)) ∧ Below w.heap.size w w' := by
  have IH := Lib.hid ih
  clear ih
  have d1 : (x : Int).tdiv 10 = (x : Int) / 10 := Int.tdiv_eq_ediv_of_nonneg (by omega)
  have d2 : (x : Int).tmod 10 = (x : Int) % 10 := Int.tmod_eq_emod_of_nonneg (by omega)
  have d5 : IntKind.i64.wrap ((x : Int) / 10) = (x : Int) / 10 := IntWalk.i64_in _ (by omega)
  have d6 : IntKind.i64.wrap ((x : Int).tdiv 10) = (x : Int) / 10 := by rw [d1]; exact d5
  have d3 : IntKind.i64.wrap (48 + (x : Int) % 10) = 48 + (x : Int) % 10 := IntWalk.i64_in _ (by omega)
  have d4 : IntKind.u8.wrap (48 + (x : Int) % 10) = 48 + (x : Int) % 10 := by rw [IntKind.wrap_u8]; omega
  have cv : ∀ (W : World) (b : Nat), W.cell? ⟨b, 0, none⟩ = some (.int .u8 (48 + (x : Int) % 10)) → (convert 41 9 (.slice (some ⟨b, 0, none⟩) 1 1)).run Tryd.prog W = .ok (.string (txt [48 + x % 10])) W := fun W b hc => conv_one W b (48 + x % 10) (by omega) (by rw [hc]; congr 2)
  have cv0 : ∀ W : World, (convert 41 9 (.slice (some ⟨W.heap.size, 0, none⟩) 1 1)).run Tryd.prog (W.alloc (.cells #[.int .u8 (48 + (x : Int) % 10)] 5)) = .ok (.string (txt [48 + x % 10])) (W.alloc (.cells #[.int .u8 (48 + (x : Int) % 10)] 5)) := fun W => cv _ _ (new_cell _ _ _)
  have hd := dec_len (x / 10) (by omega)
  have hadd : ∀ W, (Op.stringOp .add (decB (x / 10)) (txt [48 + x % 10])).run Tryd.prog W = .ok (.string (decB x)) W := fun W => by
    rw [run_string_add_sum W _ _ (by rw [Masks.txt_size]; unfold decB; rw [Parse.bsz]; simp only [List.length_cons, List.length_nil]; omega), ← dec_all ⟨x, by omega⟩ h]
  clear hd
  generalize decB (x / 10) = q1 at IH hadd
  generalize txt [48 + x % 10] = q2 at cv cv0 hadd
  generalize decB x = q3 at hadd ⊢
  go_enter Tryd.func31, Tryd.ntmps31
  go_wp2_with fail
  go_region_with (go_at_call 31; (with_reducible refine (IH.out _).mono ?_); rintro e w1 ⟨rfl, hb⟩; have hk := fun (g : Nat) (u : Value) h => keep_cell (b := g) (o := 0) (v := u) h hb; try (have hcv1 := cv w1 w.heap.size (hk w.heap.size _ (new_cell w _ _))))
  all_goals
    go_wp2_with fail
    go_ret
    have hb0 : Below w.heap.size w w1 := by
      first
        | exact hb
        | exact ((Below.refl _ _).drew).trans hb
        | exact ((Below.refl _ _).alloc (Nat.le_refl _) _).trans (hb.mono (by simp))
        | exact (((Below.refl _ _).drew).alloc (Nat.le_refl _) _).trans (hb.mono (by simp))
        | exact (((Below.refl _ _).alloc (Nat.le_refl _) _).drew).trans (hb.mono (by simp))
        | exact ((((Below.refl _ _).drew).alloc (Nat.le_refl _) _).drew).trans (hb.mono (by simp))
    have hz0 := hb0.size
    refine ⟨rfl, ?_⟩
    first
      | exact hb0
      | exact hb0.drew
      | exact hb0.drew.drew
      | exact hb0.alloc hz0 _
      | exact (hb0.alloc hz0 _).drew
      | exact (hb0.alloc hz0 _).drew.drew
      | exact hb0.drew.alloc hz0 _
      | exact (hb0.drew.alloc hz0 _).drew
      | exact (hb0.drew.drew.alloc hz0 _).drew

end Go.Proofs.YtggahoocgijdkaaDoor.RefDec
