/- Ip4Options: row and card. -/
import Derived.Test.YtafjekoodbpomaaDoorShell
import Derived.Test.YtafjekoodbpomaaDoorLawOptions
import Derived.Deep.SlicePairs
namespace Go.Proofs.YtafjekoodbpomaaDoor.Ip4Options
open Go.ChangeShapes Go.WideShapes Go.ChangeAt Go.RowKit Go.Proofs.YtafjekoodbpomaaDoor.Shell Go.Proofs.YtafjekoodbpomaaDoor.Exts
open Go.ChangeMaps (open_string shut_string)
set_option linter.unusedVariables false

theorem laidOut : laidOutB Tryd.prog = true := by kernel_rfl
def strOf : Value → ByteArray
  | .string s => s
  | _ => ⟨#[]⟩

/-- The argument's row of options. -/
theorem row_of {H : Type} {enc : TypeId × Value → H} {W : World} {A : Option Addr} {len cap fuel : Nat} {x : DataW H × List MemPlace}
    (h : DataW.trod enc Tryd.prog W 0 (fun _ => true) true fuel 36 [.slice A len cap] = some x) : ∃ l : List (Int × ByteArray), l.length = len ∧ l.length ≤ 9223372036854775807 ∧ Row W (.slice A len cap) l := by
  rcases Go.Deep.open_slice_pairs Tryd.underlying36 Tryd.underlying45 (by kernel_rfl) rfl rfl (by kernel_rfl) (by kernel_rfl) h with ⟨hc, _⟩ | ⟨a, l1, c1, m, n, V0, V1, D0, D1, P0, P1, hc, _, hlc, hcm, hm, _, hat⟩
  · simp at hc
    obtain ⟨rfl, rfl, rfl⟩ := hc
    exact ⟨[], rfl, by decide, Row.nil W⟩
  · simp at hc
    obtain ⟨rfl, rfl, rfl⟩ := hc
    have hm' : m = cap := by simpa using hm
    subst hm'
    refine ⟨(List.range len).map fun i => (intOf (V0 i), strOf (V1 i)), by simp, by simp only [maxLen] at hcm; simp; omega, some a, m, by simp, fun i k d hi => ?_⟩
    have hil : i < len := by
      have := (List.getElem?_eq_some_iff.1 hi).1
      simpa using this
    obtain ⟨g0, g1, t0, t1⟩ := hat i (by omega)
    obtain ⟨k0, e0, _⟩ := DataW.trod_int Tryd.underlying3 t0
    obtain ⟨d0, e1, _⟩ := DataW.trod_string Tryd.underlying9 t1
    simp at e0 e1
    rw [List.getElem?_map, List.getElem?_range hil] at hi
    simp [e0, e1, intOf, strOf] at hi
    obtain ⟨rfl, rfl⟩ := hi
    rw [e0] at g0
    rw [e1] at g1
    refine ⟨a, rfl, ?_, g0, g1⟩
    have := World.block_lt_of_cell? W _ g0
    rwa [add_block] at this

set_option maxRecDepth 100000 in
set_option maxHeartbeats 2000000 in
theorem lifted (os : Os) (started : os.Started) (H : Type) (enc : TypeId × Value → H) (F : Stop.Interp) :
    ReturnsInHanded {} Tryd.checked os 7 .any ((OpenSpec.ofChange Rows.ip4OptionsSpec).preRow enc Tryd.prog Tryd.f7 Rows.ip4OptionsRow.domain false Rows.ip4OptionsRow.laid)
      (((OpenSpec.ofChange Rows.ip4OptionsSpec).at F).post enc Tryd.prog Tryd.f7 false true false false) := by
  refine returnsInHanded_of_row (C := Tryd.checked) (s := OpenSpec.ofChange Rows.ip4OptionsSpec) own started (by kernel_rfl) Tryd.func7
    (ChangeSpec.witness_shaped (enc := enc) (C := Tryd.checked) (s := Rows.ip4OptionsSpec) (X := fun w _ => laidMetH Tryd.prog Rows.ip4OptionsRow.laid w) false (laidWorld os) #[.slice none 0 0, .string ByteArray.empty] 8 rfl (shaped os _) (by kernel_rfl) (by kernel_rfl) (by kernel_rfl) (met os _)) ?_
  intro W base args ds gs before hval0 hW hcnd _ hsz0 hL hsh _
  have hval : ∀ (j : Nat) t v, Tryd.f7.params[j]? = some t → args[j]? = some v → Value.okWide Tryd.prog W .any base t v := hval0
  have hsz : (DataW.weightsEach Tryd.prog (Tryd.f7.params.toList ++ (OpenSpec.ofChange Rows.ip4OptionsSpec).bare.plain.varTypes Tryd.prog) (ds ++ gs)).all (· ≤ reachBytes) = true := hsz0
  have hstd := handle_of hL
  have hW' := hW
  obtain ⟨p, q, hA0, hV, rfl, hfz, hnd⟩ := hW
  have hA : DataW.TrodAll enc Tryd.prog W 0 (fun _ => true) true Tryd.f7.params.toList args.toList ds p := hA0
  rw [Tryd.params7] at hA hval hsz
  clear hA0 hval0 hsz0
  obtain ⟨v0, vs0, d0, ds0, p0, q0, hargs, rfl, rfl, h0, r0⟩ := trodAll_cons hA
  obtain ⟨v1, vs1, d1, ds1, p1, q1, rfl, rfl, rfl, h1, r1⟩ := trodAll_cons r0
  obtain ⟨rfl, rfl, rfl⟩ := trodAll_nil r1
  obtain rfl : args = #[v0, v1] := by cases args; simp_all
  obtain ⟨rfl, rfl⟩ := trodVars_none hV
  obtain ⟨a0, len0, cap0, rfl⟩ := okWide_slice Tryd.underlying36 (hval 0 36 v0 rfl rfl)
  have k0 := h0
  have lt0 : ∀ x ∈ p0, x.block < W.heap.size := by obtain ⟨m, hm⟩ := k0; exact DataW.trod_lt m _ _ _ hm
  obtain ⟨l, hl1, hl2, hrow⟩ : ∃ l : List (Int × ByteArray), l.length = len0 ∧ l.length ≤ 9223372036854775807 ∧ Row W (.slice a0 len0 cap0) l := by
    obtain ⟨fuel, hf⟩ := h0
    exact row_of hf
  obtain ⟨a1, rfl, rfl, rfl, w1⟩ := open_string Tryd.underlying9 (hval 1 9 v1 rfl rfl) h1
  have z1 : a1.size ≤ 140737488355328 := size_of hsz 1 9 a1 rfl rfl
  refine (LawOptions.options_law l _ a1 W hstd hrow hl2 z1).mono fun e W' ⟨he, bel⟩ => ?_
  subst he
  exact ⟨_, rfl, _, _, _, [], _, [], hW', trodAll_mk1 (shut_bool Tryd.underlying4 _), (trodAll_cons_mk (Below.trod laidOut (by kernel_rfl) (of_decide_eq_true (by kernel_rfl)) k0 bel lt0) (trodAll_cons_mk (shut_string Tryd.underlying9 w1) trodAll_mk0)), rfl, bel.frame _, fun h => by cases h⟩

theorem over : Rows.Ip4OptionsSaid :=
  OpenClaim.holds_of_cond 7 Tryd.f7 rfl rfl rfl rfl rfl rfl rfl ⟨rfl, rfl, rfl, rfl, rfl⟩ rfl rfl rfl rfl rfl (by kernel_rfl) Tryd.func7 (by kernel_rfl)
    (of_decide_eq_true (by kernel_rfl)) (by unfold Func.isWrapper; first | (rw [if_pos (by decide +kernel)]; kernel_rfl) | (rw [if_neg (by decide +kernel)]; exact ⟨rfl, rfl⟩))
    (fun os started H enc _ F0 => by rw [OpenClaim.pre_eq_preRow]; exact lifted os started H enc F0)

theorem proved : Rows.Ip4OptionsCardSaid :=
  Claim7.holds_tied_plain_at .later [] [.handle] true (true, "dc0ce1fadd5c324074efce297af5477c45c345b6227d6a45ae48e3ae7f7173f6") true over (fun _ h => by cases h) (by kernel_rfl) (fun _ h => by cases h) ip4Options_row_tie rfl ⟨rfl, rfl⟩ (by kernel_rfl) rfl
    (fun f fn hf hfn => by
      obtain rfl : f = 7 := Option.some.inj ((show Tryd.prog.funcNamed "redoubt/redoubtlaw03.Ip4Options" = some 7 by kernel_rfl).symm.trans hf) |>.symm
      obtain rfl : fn = Tryd.f7 := (Option.some.inj (Tryd.func7.symm.trans hfn)).symm
      exact ⟨by kernel_rfl, fun j t ht => by
        rw [Tryd.params7] at ht
        have hm : t ∈ [36, 9] := by simpa using Array.mem_of_getElem? ht
        have hall : ([36, 9].all fun u => !Tryd.prog.wantsStandIn u) = true := by kernel_rfl
        exact (show Tryd.prog.wantsStandIn t = false by simpa using List.all_eq_true.1 hall t hm)⟩)
    (by kernel_rfl)
#print axioms proved
end Go.Proofs.YtafjekoodbpomaaDoor.Ip4Options
