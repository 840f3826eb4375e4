/- The law MacLong: its walk. -/
import Derived.Test.YtmlihcillheeaaaDoorMacU
set_option linter.unusedVariables false
namespace Go.Proofs.YtmlihcillheeaaaDoor.LawLong
open Go.RowKit Go.PlainAid Go.Proofs.YtmlihcillheeaaaDoor.Sums Go.Proofs.YtmlihcillheeaaaDoor.Mem Go.Proofs.YtmlihcillheeaaaDoor.Blk Go.Proofs.YtmlihcillheeaaaDoor.Bits3 Go.Proofs.YtmlihcillheeaaaDoor.Ints Go.Proofs.YtmlihcillheeaaaDoor.Both Go.Proofs.YtmlihcillheeaaaDoor.Free Go.Proofs.YtmlihcillheeaaaDoor.Steps Go.Proofs.YtmlihcillheeaaaDoor.Ops Go.Proofs.YtmlihcillheeaaaDoor.ShaD Go.Proofs.YtmlihcillheeaaaDoor.ShaO Go.Proofs.YtmlihcillheeaaaDoor.Dig1 Go.Proofs.YtmlihcillheeaaaDoor.Dig9 Go.Proofs.YtmlihcillheeaaaDoor.DigA Go.Proofs.YtmlihcillheeaaaDoor.MacD Go.Proofs.YtmlihcillheeaaaDoor.Mac2 Go.Proofs.YtmlihcillheeaaaDoor.Mac3 Go.Proofs.YtmlihcillheeaaaDoor.Mac4 Go.Proofs.YtmlihcillheeaaaDoor.MacA Go.Proofs.YtmlihcillheeaaaDoor.MacU

set_option maxHeartbeats 1000000 in
set_option maxRecDepth 100000 in
theorem big (A0 : Option Addr) (n0 c0 : Nat) (l0 : List Int) (A1 : Option Addr) (n1 c1 : Nat) (l1 : List Int) (w : World) (h0 : Holds w w.heap.size A0 n0 c0 l0) (h1 : Holds w w.heap.size A1 n1 c1 l1) (m0 : n0 ≤ 140737488355328) (m1 : n1 ≤ 140737488355328) (hT : Tab w) (q : n0 ≤ 64 ∨ (64 < n0 ∧ 300 < n0) ∨ (64 < n0 ∧ n0 ≤ 300 ∧ 300 < n1)) :
    Calls Tryd.prog 6 #[.slice A0 n0 c0, .slice A1 n1 c1] w fun e w' => e = .returned (.bool true) ∧ Below w.heap.size w w' := by
  have HT := Lib.hid hT
  have B0 := Lib.hid (Below.refl w.heap.size w)
  rcases q with q | ⟨q, q1⟩ | ⟨q, q1, q2⟩
  · have g0 : decide ((n0 : Int) ≤ 64) = true := decide_eq_true (by omega)
    clear h0 h1 m0 m1 hT q
    go_enter Tryd.func6, Tryd.ntmps6
    go_wp2_with fail
    refine (awake_any _ (HT.out.up B0.out)).mono ?_
    rintro e wz ⟨rfl, hb⟩
    have BZ := Lib.hid (B0.out.trans (hb.mono B0.out.size))
    clear hb
    go_wp2_with fail
    go_ret
    exact ⟨rfl, BZ.out⟩
  · have g0 : decide ((n0 : Int) ≤ 64) = false := decide_eq_false (by omega)
    have g1 : decide ((300 : Int) < (n0 : Int)) = true := decide_eq_true (by omega)
    clear h0 h1 m0 m1 hT q q1
    go_enter Tryd.func6, Tryd.ntmps6
    go_wp2_with fail
    refine (awake_any _ (HT.out.up B0.out)).mono ?_
    rintro e wz ⟨rfl, hb⟩
    have BZ := Lib.hid (B0.out.trans (hb.mono B0.out.size))
    clear hb
    go_wp2_with fail
    go_ret
    exact ⟨rfl, BZ.out⟩
  · have g0 : decide ((n0 : Int) ≤ 64) = false := decide_eq_false (by omega)
    have g1 : decide ((300 : Int) < (n0 : Int)) = false := decide_eq_false (by omega)
    have g2 : decide ((300 : Int) < (n1 : Int)) = true := decide_eq_true (by omega)
    clear h0 h1 m0 m1 hT q q1 q2
    go_enter Tryd.func6, Tryd.ntmps6
    go_wp2_with fail
    refine (awake_any _ (HT.out.up B0.out)).mono ?_
    rintro e wz ⟨rfl, hb⟩
    have BZ := Lib.hid (B0.out.trans (hb.mono B0.out.size))
    clear hb
    go_wp2_with fail
    go_ret
    exact ⟨rfl, BZ.out⟩

set_option maxHeartbeats 4000000 in
set_option maxRecDepth 100000 in
theorem main (A0 : Option Addr) (n0 c0 : Nat) (l0 : List Int) (A1 : Option Addr) (n1 c1 : Nat) (l1 : List Int) (w : World) (h0 : Holds w w.heap.size A0 n0 c0 l0) (h1 : Holds w w.heap.size A1 n1 c1 l1) (m0 : n0 ≤ 140737488355328) (m1 : n1 ≤ 140737488355328) (hT : Tab w) (q0 : 64 < n0) (q1 : n0 ≤ 300) (q2 : n1 ≤ 300) :
    Calls Tryd.prog 6 #[.slice A0 n0 c0, .slice A1 n1 c1] w fun e w' => e = .returned (.bool true) ∧ Below w.heap.size w w' := by
  have g0 : decide ((n0 : Int) ≤ 64) = false := decide_eq_false (by omega)
  have g1 : decide ((300 : Int) < (n0 : Int)) = false := decide_eq_false (by omega)
  have g2 : decide ((300 : Int) < (n1 : Int)) = false := decide_eq_false (by omega)
  have H0 := Lib.hid h0
  have H1 := Lib.hid h1
  have HT := Lib.hid hT
  have B0 := Lib.hid (Below.refl w.heap.size w)
  obtain ⟨F, hF⟩ : ∃ F, F = full (nats l0) (nats l1) := ⟨_, rfl⟩
  obtain ⟨D, hD⟩ : ∃ D, D = digest (nats l0) := ⟨_, rfl⟩
  have FE : Hid (full (nats l0) (nats (flat [⟨A1, n1, c1, l1⟩])) = F) := Lib.hid (by rw [nats_one, hF])
  have FD : Hid (full (nats (ints D)) (nats (flat [⟨A1, n1, c1, l1⟩])) = F) := Lib.hid (by
    rw [nats_one, nats_ints, hF, hD]
    exact (full_long (by rw [nats_len, h0.1]; exact q0) _).symm)
  have DE : Hid (nats (flat [⟨A0, n0, c0, l0⟩]) = nats l0) := Lib.hid (nats_one _ _ _ _)
  have HD := Lib.hid hD
  have X1 : Hid (∀ V : World, Below w.drew.heap.size w.drew V → Below w.heap.size w V) := Lib.hid fun V hV => (below_drewN (Below.refl w.heap.size w) 1).trans hV
  have G0 : Hid (∀ V : World, Below w.drew.heap.size w.drew V → Holds V V.heap.size A0 n0 c0 l0) := Lib.hid fun V hV => ((H0.out).below (X1.out V hV)).more (X1.out V hV).size
  have G1 : Hid (∀ V : World, Below w.drew.heap.size w.drew V → Holds V V.heap.size A1 n1 c1 l1) := Lib.hid fun V hV => ((H1.out).below (X1.out V hV)).more (X1.out V hV).size
  have XT : Hid (∀ V : World, Below w.drew.heap.size w.drew V → Tab V) := Lib.hid fun V hV => HT.out.up (X1.out V hV)
  have N0 := Lib.hid q1
  have N1 := Lib.hid q2
  have FU : Hid (∀ (V : World) (g : Nat), Below w.drew.heap.size w.drew V → Both.All V V.heap.size g [⟨A1, n1, c1, l1⟩] → Calls Tryd.prog 8 #[.slice A0 n0 c0, .slice (some ⟨g, 0, none⟩) 1 1] V fun e w' => ∃ v, e = .returned v ∧ Owns w' V.heap.size v 32 (ints F) ∧ Below V.heap.size V w') := Lib.hid fun V g hV ha => by
    have q := full_any A0 n0 c0 l0 g 1 1 [⟨A1, n1, c1, l1⟩] V V.heap.size (G0.out V hV) ha (Nat.le_refl _) rfl (by decide) (by decide) (by have := N0.out; omega) (by show n1 + 0 ≤ 900000; have := N1.out; omega) (XT.out V hV)
    rwa [FE.out] at q
  have FV : Hid (∀ (V : World) (g : Nat) (A' : Option Addr) (c' : Nat), Below w.drew.heap.size w.drew V → Holds V V.heap.size A' 32 c' (ints D) → Both.All V V.heap.size g [⟨A1, n1, c1, l1⟩] → Calls Tryd.prog 8 #[.slice A' 32 c', .slice (some ⟨g, 0, none⟩) 1 1] V fun e w' => ∃ v, e = .returned v ∧ Owns w' V.heap.size v 32 (ints F) ∧ Below V.heap.size V w') := Lib.hid fun V g A' c' hV hh ha => by
    have q := full_any A' 32 c' (ints D) g 1 1 [⟨A1, n1, c1, l1⟩] V V.heap.size hh ha (Nat.le_refl _) rfl (by decide) (by decide) (by decide) (by show n1 + 0 ≤ 900000; have := N1.out; omega) (XT.out V hV)
    rwa [FD.out] at q
  have OF : Hid (∀ (V : World) (g : Nat), Below w.drew.heap.size w.drew V → Both.All V V.heap.size g [⟨A0, n0, c0, l0⟩] → Calls Tryd.prog 14 #[.slice (some ⟨g, 0, none⟩) 1 1] V fun e w' => ∃ v, e = .returned v ∧ Owns w' V.heap.size v 32 (ints D) ∧ Below V.heap.size V w') := Lib.hid fun V g hV ha => by
    have q := of_no (some ⟨g, 0, none⟩) 1 1 [⟨A0, n0, c0, l0⟩] V V.heap.size (.inr ⟨g, rfl, ha⟩) rfl (Nat.le_refl _) (by decide) (flat_len (fun r hr => by simp only [List.mem_singleton] at hr; subst hr; exact (G0.out V hV).1)) (by show n0 + 0 ≤ 1048576; have := N0.out; omega) (XT.out V hV)
    rwa [DE.out, ← HD.out] at q
  obtain ⟨sf, hsf⟩ : ∃ s, s = strOfNums (ints F) := ⟨_, rfl⟩
  have EF := Lib.hid hsf
  clear hsf
  have X5 : Hid (∀ (V : World) (v : Value) (bs : Nat), Owns V bs v 32 (ints F) → ∃ A' c', v = .slice A' 32 c' ∧ (convert 22 9 (.slice A' 32 c')).run Tryd.prog V = .ok (.string sf) V) := Lib.hid fun V v bs hV => by
    obtain ⟨A', c', e, hh⟩ := hV.slice
    rw [EF.out]
    exact ⟨A', c', e, run_string_bytes hh⟩
  clear h0 h1 m0 m1 hT hF hD q0 q1 q2 FE FD DE HD EF H0 H1
  go_enter Tryd.func6, Tryd.ntmps6
  go_wp2_with fail
  refine wp_region_freeP [0, 1, 2, 3, 4, 5, 6, 7, 8, 9, 10, 11, 12, 13, 14, 15] 16 [] [(1, true)] (fun w1 w2 => Below w1.heap.size w1 w2) (fun k' w' v => match k' with
    | 0 => v = .bool true
    | 1 => v = .bool true
    | 2 => v = .slice A0 n0 c0
    | 3 => v = .slice A1 n1 c1
    | 4 => ∃ g, v = .slice (some ⟨g, 0, none⟩) 1 1 ∧ Both.All w' w'.heap.size g [⟨A1, n1, c1, l1⟩]
    | 5 => Owns w' 0 v 32 (ints F)
    | 6 => v = .string sf
    | 7 => v = .slice A0 n0 c0
    | 8 => ∃ g, v = .slice (some ⟨g, 0, none⟩) 1 1 ∧ Both.All w' w'.heap.size g [⟨A0, n0, c0, l0⟩]
    | 9 => Owns w' 0 v 32 (ints D)
    | 10 => v = .slice A1 n1 c1
    | 11 => ∃ g, v = .slice (some ⟨g, 0, none⟩) 1 1 ∧ Both.All w' w'.heap.size g [⟨A1, n1, c1, l1⟩]
    | 12 => Owns w' 0 v 32 (ints F)
    | 13 => v = .string sf
    | 14 => v = .bool true
    | _ => v = .bool true) (by kernel_rfl) (by kernel_rfl) (fun q hq w v hv => ?_) (Below.refl _ _) (fun _ _ _ h k => h.trans (k.mono h.size)) (fun k' w1 w2 v h => match k' with
    | 0 => fun x => x
    | 1 => fun x => x
    | 2 => fun x => x
    | 3 => fun x => x
    | 4 => fun ⟨g, e, q⟩ => ⟨g, e, all_more (all_below q h) h.size⟩
    | 5 => fun q => q.below h (Nat.le_refl _)
    | 6 => fun x => x
    | 7 => fun x => x
    | 8 => fun ⟨g, e, q⟩ => ⟨g, e, all_more (all_below q h) h.size⟩
    | 9 => fun q => q.below h (Nat.le_refl _)
    | 10 => fun x => x
    | 11 => fun ⟨g, e, q⟩ => ⟨g, e, all_more (all_below q h) h.size⟩
    | 12 => fun q => q.below h (Nat.le_refl _)
    | 13 => fun x => x
    | 14 => fun x => x
    | _ + 15 => fun x => x) (fun _ _ _ _ _ h => h) ?_ _ (by rfl) ?_
  · simp only [List.mem_cons, List.not_mem_nil, or_false] at hq
    rcases hq with rfl <;> exact hv
  · refine obs_cons (by rfl) (fun vals w' hgr hdep K hK => ?_) (obs_cons (by rfl) (fun vals w' hgr hdep K hK => ?_) (obs_cons (by rfl) (fun vals w' hgr hdep K hK => ?_) (obs_cons (by rfl) (fun vals w' hgr hdep K hK => ?_) (obs_cons (by rfl) (fun vals w' hgr hdep K hK => ?_) (obs_cons (by rfl) (fun vals w' hgr hdep K hK => ?_) (obs_cons (by rfl) (fun vals w' hgr hdep K hK => ?_) (obs_cons (by rfl) (fun vals w' hgr hdep K hK => ?_) (obs_cons (by rfl) (fun vals w' hgr hdep K hK => ?_) (obs_cons (by rfl) (fun vals w' hgr hdep K hK => ?_) (obs_cons (by rfl) (fun vals w' hgr hdep K hK => ?_) (obs_cons (by rfl) (fun vals w' hgr hdep K hK => ?_) (obs_cons (by rfl) (fun vals w' hgr hdep K hK => ?_) (obs_cons (by rfl) (fun vals w' hgr hdep K hK => ?_) (obs_cons (by rfl) (fun vals w' hgr hdep K hK => ?_) (obs_cons (by rfl) (fun vals w' hgr hdep K hK => ?_) (obs_nil))))))))))))))))
    · exact wp_call 11 [] _ rfl ent_awake [] rfl (fun v w'' => v = .bool true ∧ Below w'.heap.size w' w'') ((awake_any w' (XT.out w' hgr)).mono fun e w'' ⟨h1, h2⟩ => ⟨_, h1, rfl, h2⟩) (fun v w'' ⟨h1, h2⟩ => hK v _ h2 h1)
    · exact wp_move (.tmp 19) rfl _ ((at_dst 0 (by kernel_rfl)).trans (hdep 0 (by simp) (by kernel_rfl))) (hK _ _ (Below.refl _ _) rfl)
    · exact wp_move (.tmp 0) rfl _ (at_out _ (by kernel_rfl) rfl) (hK _ _ (Below.refl _ _) rfl)
    · exact wp_move (.tmp 1) rfl _ (at_out _ (by kernel_rfl) rfl) (hK _ _ (Below.refl _ _) rfl)
    · refine st_rows_1 (.tmp 22) rfl A1 n1 c1 ((at_dst 3 (by kernel_rfl)).trans (hdep 3 (by simp) (by kernel_rfl))) (hK _ _ ((Below.refl _ _).alloc (Nat.le_refl _) _) ⟨_, rfl, ?_⟩)
      have q := Both.All.lit (w := w') (B := w'.heap.size) (Nat.le_refl _) [⟨A1, n1, c1, l1⟩] #[.slice A1 n1 c1] 22 rfl (Both.mem1 (G1.out w' hgr))
      simpa using q
    · obtain ⟨g, eg, al⟩ : ∃ g, vals 4 = .slice (some ⟨g, 0, none⟩) 1 1 ∧ Both.All w' w'.heap.size g [⟨A1, n1, c1, l1⟩] := hdep 4 (by simp) (by kernel_rfl)
      exact wp_call 8 [.tmp 21, .tmp 23] _ rfl ent_full [.slice A0 n0 c0, .slice (some ⟨g, 0, none⟩) 1 1] (list2 ((at_dst 2 (by kernel_rfl)).trans (hdep 2 (by simp) (by kernel_rfl))) ((at_dst 4 (by kernel_rfl)).trans eg)) (fun v w'' => Owns w'' w'.heap.size v 32 (ints F) ∧ Below w'.heap.size w' w'') ((FU.out w' g hgr al).mono fun e w'' ⟨v, h1, h2, h3⟩ => ⟨v, h1, h2, h3⟩) (fun v w'' ⟨h1, h2⟩ => hK v _ h2 (h1.mono (Nat.zero_le _)))
    · obtain ⟨A', c', e, cv⟩ := X5.out w' (vals 5) 0 (hdep 5 (by simp) (by kernel_rfl))
      exact wp_conv (.tmp 24) rfl _ _ ((at_dst 5 (by kernel_rfl)).trans e) cv (hK _ _ (Below.refl _ _) rfl)
    · exact wp_move (.tmp 0) rfl _ (at_out _ (by kernel_rfl) rfl) (hK _ _ (Below.refl _ _) rfl)
    · refine st_rows_1 (.tmp 26) rfl A0 n0 c0 ((at_dst 7 (by kernel_rfl)).trans (hdep 7 (by simp) (by kernel_rfl))) (hK _ _ ((Below.refl _ _).alloc (Nat.le_refl _) _) ⟨_, rfl, ?_⟩)
      have q := Both.All.lit (w := w') (B := w'.heap.size) (Nat.le_refl _) [⟨A0, n0, c0, l0⟩] #[.slice A0 n0 c0] 22 rfl (Both.mem1 (G0.out w' hgr))
      simpa using q
    · obtain ⟨g, eg, al⟩ : ∃ g, vals 8 = .slice (some ⟨g, 0, none⟩) 1 1 ∧ Both.All w' w'.heap.size g [⟨A0, n0, c0, l0⟩] := hdep 8 (by simp) (by kernel_rfl)
      exact wp_call 14 [.tmp 27] _ rfl ent_of [.slice (some ⟨g, 0, none⟩) 1 1] (congrArg (fun z => [z]) ((at_dst 8 (by kernel_rfl)).trans eg)) (fun v w'' => Owns w'' w'.heap.size v 32 (ints D) ∧ Below w'.heap.size w' w'') ((OF.out w' g hgr al).mono fun e w'' ⟨v, h1, h2, h3⟩ => ⟨v, h1, h2, h3⟩) (fun v w'' ⟨h1, h2⟩ => hK v _ h2 (h1.mono (Nat.zero_le _)))
    · exact wp_move (.tmp 1) rfl _ (at_out _ (by kernel_rfl) rfl) (hK _ _ (Below.refl _ _) rfl)
    · refine st_rows_1 (.tmp 29) rfl A1 n1 c1 ((at_dst 10 (by kernel_rfl)).trans (hdep 10 (by simp) (by kernel_rfl))) (hK _ _ ((Below.refl _ _).alloc (Nat.le_refl _) _) ⟨_, rfl, ?_⟩)
      have q := Both.All.lit (w := w') (B := w'.heap.size) (Nat.le_refl _) [⟨A1, n1, c1, l1⟩] #[.slice A1 n1 c1] 22 rfl (Both.mem1 (G1.out w' hgr))
      simpa using q
    · obtain ⟨g, eg, al⟩ : ∃ g, vals 11 = .slice (some ⟨g, 0, none⟩) 1 1 ∧ Both.All w' w'.heap.size g [⟨A1, n1, c1, l1⟩] := hdep 11 (by simp) (by kernel_rfl)
      obtain ⟨A', c', e9, hh⟩ := Owns.slice (show Owns w' 0 (vals 9) 32 (ints D) from hdep 9 (by simp) (by kernel_rfl))
      exact wp_call 8 [.tmp 28, .tmp 30] _ rfl ent_full [.slice A' 32 c', .slice (some ⟨g, 0, none⟩) 1 1] (list2 ((at_dst 9 (by kernel_rfl)).trans e9) ((at_dst 11 (by kernel_rfl)).trans eg)) (fun v w'' => Owns w'' w'.heap.size v 32 (ints F) ∧ Below w'.heap.size w' w'') ((FV.out w' g A' c' hgr hh al).mono fun e w'' ⟨v, h1, h2, h3⟩ => ⟨v, h1, h2, h3⟩) (fun v w'' ⟨h1, h2⟩ => hK v _ h2 (h1.mono (Nat.zero_le _)))
    · obtain ⟨A', c', e, cv⟩ := X5.out w' (vals 12) 0 (hdep 12 (by simp) (by kernel_rfl))
      exact wp_conv (.tmp 31) rfl _ _ ((at_dst 12 (by kernel_rfl)).trans e) cv (hK _ _ (Below.refl _ _) rfl)
    · exact wp_bin (.tmp 25) (.tmp 32) rfl _ _ _ ((at_dst 6 (by kernel_rfl)).trans (hdep 6 (by simp) (by kernel_rfl))) ((at_dst 13 (by kernel_rfl)).trans (hdep 13 (by simp) (by kernel_rfl))) (b_eqs _ _ _ _) (hK _ _ (Below.refl _ _) rfl)
    · exact st_pick (.tmp 20) (.tmp 33) _ rfl _ ((at_dst 1 (by kernel_rfl)).trans (hdep 1 (by simp) (by kernel_rfl))) ((at_dst 14 (by kernel_rfl)).trans (hdep 14 (by simp) (by kernel_rfl))) (hK _ _ (Below.refl _ _) rfl)
  · intro vals w' hgr hG
    have ev : vals 15 = .bool true := hG 15 (by simp)
    refine st_assign (.tmp 34) _ rfl (at_dst 15 (by kernel_rfl)) (wpAnyH_done (by kernel_rfl) ?_ _)
    have BF := Lib.hid (B0.out.trans ((X1.out w' hgr).mono B0.out.size))
    clear hG hgr
    simp only [fill, dstAt, List.getElem?_cons_zero, List.getElem?_cons_succ, Option.bind_some, Act.put, List.setIfInBounds_toArray, List.set_cons_zero, List.set_cons_succ]
    rw [ev]
    clear ev
    generalize vals 0 = y0, vals 1 = y1, vals 2 = y2, vals 3 = y3, vals 4 = y4, vals 5 = y5, vals 6 = y6, vals 7 = y7, vals 8 = y8, vals 9 = y9, vals 10 = y10, vals 11 = y11, vals 12 = y12, vals 13 = y13, vals 14 = y14 at *
    generalize w' = wz at *
    go_wp2_with fail
    go_ret
    exact ⟨rfl, BF.out⟩

theorem long_any (A0 : Option Addr) (n0 c0 : Nat) (l0 : List Int) (A1 : Option Addr) (n1 c1 : Nat) (l1 : List Int) (w : World) (h0 : Holds w w.heap.size A0 n0 c0 l0) (h1 : Holds w w.heap.size A1 n1 c1 l1) (m0 : n0 ≤ 140737488355328) (m1 : n1 ≤ 140737488355328) (hT : Tab w) :
    Calls Tryd.prog 6 #[.slice A0 n0 c0, .slice A1 n1 c1] w fun e w' => e = .returned (.bool true) ∧ Below w.heap.size w w' := by
  by_cases q0 : n0 ≤ 64
  · exact big A0 n0 c0 l0 A1 n1 c1 l1 w h0 h1 m0 m1 hT (.inl q0)
  · by_cases q1 : 300 < n0
    · exact big A0 n0 c0 l0 A1 n1 c1 l1 w h0 h1 m0 m1 hT (.inr (.inl ⟨by omega, q1⟩))
    · by_cases q2 : 300 < n1
      · exact big A0 n0 c0 l0 A1 n1 c1 l1 w h0 h1 m0 m1 hT (.inr (.inr ⟨by omega, by omega, q2⟩))
      · exact main A0 n0 c0 l0 A1 n1 c1 l1 w h0 h1 m0 m1 hT (by omega) (by omega) (by omega)
end Go.Proofs.YtmlihcillheeaaaDoor.LawLong
