/- The greatest packet that goes through: the code's search, the document's count. -/
import Derived.Test.YtjeenmeoiidmnaaDoorPmt1
import Derived.Test.YtjeenmeoiidmnaaDoorDraw
import Derived.Test.YtjeenmeoiidmnaaDoorMapS
set_option linter.unusedVariables false
set_option maxRecDepth 100000
namespace Go.Proofs.YtjeenmeoiidmnaaDoor.Pmt2
open Go.RowKit Go.Proofs.YtjeenmeoiidmnaaDoor.Sums Go.Proofs.YtjeenmeoiidmnaaDoor.Mem Go.Proofs.YtjeenmeoiidmnaaDoor.Blk Go.Proofs.YtjeenmeoiidmnaaDoor.Free Go.Proofs.YtjeenmeoiidmnaaDoor.Steps Go.Proofs.YtjeenmeoiidmnaaDoor.PmtM Go.Proofs.YtjeenmeoiidmnaaDoor.Pmt1

theorem ent_outer : Enters Tryd.prog 16 := enters_of Tryd.func16 (by kernel_rfl) rfl
theorem list3 {f : Operand → Value} {x y z : Operand} {u v t : Value} (h1 : f x = u) (h2 : f y = v) (h3 : f z = t) : [x, y, z].map f = [u, v, t] := by simp [h1, h2, h3]
theorem b_gtr (a b : Int) (x y : Operand) (w : World) : (do eqGuard .gtr 3 x y (.int .i64 a) (.int .i64 b); binOp .gtr 3 (.int .i64 a) (.int .i64 b) : Sem Value).run Tryd.prog w = .ok (.bool (decide (b < a))) w := by
  simp [go_sem, eqGuard]
/-- The three that the search's question holds. -/
structure Caps (w : World) (p q r : Nat) (mtu : Int) (b t : Bool) : Prop where
  wide : Blk w p 4 #[.bool b]
  tun : Blk w q 4 #[.bool t]
  mtu : Blk w r 3 #[.int .i64 mtu]
  tab : Tab w
theorem Caps.below {w w' : World} {p q r : Nat} {mtu : Int} {b t : Bool} (h : Caps w p q r mtu b t) (k : Below w.heap.size w w') : Caps w' p q r mtu b t :=
  ⟨h.wide.below k h.wide.lt, h.tun.below k h.tun.lt, h.mtu.below k h.mtu.lt, h.tab.up k (Nat.le_refl _)⟩
set_option maxHeartbeats 2000000 in
theorem more_c (n mtu : Int) (b t : Bool) (p q r : Nat) (w : World) (h1 : n ≤ 1000000) (h : Caps w p q r mtu b t) : Calls Tryd.prog 32 #[.int .i64 n, .pointer (some ⟨p, 0, none⟩), .pointer (some ⟨q, 0, none⟩), .pointer (some ⟨r, 0, none⟩)] w fun e w' => e = .returned (.bool (decide (mtu < outer n b))) ∧ Below w.heap.size w w' := by
  obtain ⟨z, hz⟩ : ∃ z, decide (mtu < outer n b) = z := ⟨_, rfl⟩
  have HZ := Lib.hid hz
  rw [hz]
  have HC := Lib.hid h
  have OC := Lib.hid (fun (W : World) (k : Caps W p q r mtu b t) => outer_c n b t h1 W k.tab)
  clear h hz
  go_enter Tryd.func32, Tryd.ntmps32
  go_wp2_with fail
  obtain ⟨on, hon⟩ : ∃ on, outer n b = on := ⟨_, rfl⟩
  rw [hon] at OC HZ
  have D : Hid (decide (mtu < on) = z) := HZ
  clear hon
  refine wp_region_free [0, 1, 2, 3, 4, 5] 6 [] (fun w1 w2 => Below w1.heap.size w1 w2) (fun k' w' v => match k' with
      | 0 => v = .int .i64 n
      | 1 => v = .bool b
      | 2 => v = .bool t
      | 3 => v = .int .i64 on
      | 4 => v = .int .i64 mtu
      | _ => v = .bool z) (by kernel_rfl) (by kernel_rfl) (Below.refl _ _) (fun _ _ _ h k => h.trans (k.mono h.size)) (fun k' w1 w2 v h => match k' with
      | 0 => fun x => x
      | 1 => fun x => x
      | 2 => fun x => x
      | 3 => fun x => x
      | 4 => fun x => x
      | _ + 5 => fun x => x) (fun _ _ _ _ _ h => h) ?_ _ (by rfl) ?_
  · refine obs_cons (by rfl) (fun vals w' hgr hdep K hK => ?_) (obs_cons (by rfl) (fun vals w' hgr hdep K hK => ?_) (obs_cons (by rfl) (fun vals w' hgr hdep K hK => ?_) (obs_cons (by rfl) (fun vals w' hgr hdep K hK => ?_) (obs_cons (by rfl) (fun vals w' hgr hdep K hK => ?_) (obs_cons (by rfl) (fun vals w' hgr hdep K hK => ?_) (obs_nil))))))
    · exact wp_move (.tmp 0) rfl _ (at_out _ (by kernel_rfl) rfl) (hK _ _ (Below.refl _ _) rfl)
    · exact wp_load1 (.tmp 1) rfl ⟨p, 0, none⟩ (at_out _ (by kernel_rfl) rfl) Tryd.underlying4 rfl _ ((HC.out.below (Draw.below_1 hgr)).wide.cell 0) (hK _ _ (Below.refl _ _) rfl)
    · exact wp_load1 (.tmp 2) rfl ⟨q, 0, none⟩ (at_out _ (by kernel_rfl) rfl) Tryd.underlying4 rfl _ ((HC.out.below (Draw.below_1 hgr)).tun.cell 0) (hK _ _ (Below.refl _ _) rfl)
    · exact wp_call 16 [.tmp 6, .tmp 7, .tmp 8] _ rfl ent_outer [.int .i64 n, .bool b, .bool t] (list3 ((at_dst 0 (by kernel_rfl)).trans (hdep 0 (by simp) (by kernel_rfl))) ((at_dst 1 (by kernel_rfl)).trans (hdep 1 (by simp) (by kernel_rfl))) ((at_dst 2 (by kernel_rfl)).trans (hdep 2 (by simp) (by kernel_rfl)))) (fun v w'' => Below w'.heap.size w' w'' ∧ v = .int .i64 on) ((OC.out w' (HC.out.below (Draw.below_1 hgr))).mono fun e w'' ⟨h1, h2⟩ => ⟨_, h1, h2 ▸ Below.refl _ _, rfl⟩) (fun v w'' ⟨h1, h2⟩ => hK _ _ h1 h2)
    · exact wp_load1 (.tmp 3) rfl ⟨r, 0, none⟩ (at_out _ (by kernel_rfl) rfl) Tryd.underlying3 rfl _ ((HC.out.below (Draw.below_1 hgr)).mtu.cell 0) (hK _ _ (Below.refl _ _) rfl)
    · exact wp_bin (.tmp 9) (.tmp 10) rfl (.int .i64 on) (.int .i64 mtu) (.bool z) ((at_dst 3 (by kernel_rfl)).trans (hdep 3 (by simp) (by kernel_rfl))) ((at_dst 4 (by kernel_rfl)).trans (hdep 4 (by simp) (by kernel_rfl))) (by rw [b_gtr, D.out]) (hK _ _ (Below.refl _ _) rfl)
  · intro vals w' hgr hG
    refine st_assign (.tmp 11) _ rfl ((at_dst 5 (by kernel_rfl)).trans (hG 5 (by simp))) (wpAnyH_done (by kernel_rfl) ?_ _)
    have B1 := Lib.hid (Draw.below_1 hgr)
    clear hG hgr
    simp only [fill, dstAt, List.getElem?_cons_zero, List.getElem?_cons_succ, Option.bind_some, Act.put, List.setIfInBounds_toArray, List.set_cons_zero, List.set_cons_succ]
    generalize vals 0 = y0, vals 1 = y1, vals 2 = y2, vals 3 = y3, vals 4 = y4, vals 5 = y5 at *
    generalize w' = w4 at *
    go_wp2_with fail
    go_ret
    exact ⟨rfl, B1.out⟩
abbrev FV (p q r : Nat) : Value := .func (.func 32) #[] #[.pointer (some ⟨p, 0, none⟩), .pointer (some ⟨q, 0, none⟩), .pointer (some ⟨r, 0, none⟩)]
set_option maxHeartbeats 2000000 in
theorem search_c (mtu : Int) (b t : Bool) (p q r : Nat) (w : World) (h1 : mtu ≤ 1000000) (h : Caps w p q r mtu b t) : Calls Tryd.prog 31 #[.int .i64 mtu, FV p q r] w fun e w' => e = .returned (.int .i64 (top mtu b + 1)) ∧ Below w.heap.size w w' := by
  obtain ⟨T, hT⟩ : ∃ T, T = top mtu b + 1 := ⟨_, rfl⟩
  have HT := Lib.hid hT
  rw [← hT]
  have HC := Lib.hid h
  clear h
  by_cases hm : 0 < mtu
  · have tl : T ≤ mtu := by have := top_lt (wide := b) hm; omega
    have tg : 0 ≤ T := by have := @top_ge mtu b; omega
    obtain ⟨m, rfl⟩ : ∃ m : Nat, mtu = (m : Int) := ⟨mtu.toNat, by omega⟩
    have HTL := Lib.hid tl
    have HTG := Lib.hid tg
    have HM := Lib.hid h1
    clear hT tl tg hm h1
    go_enter Tryd.func31, Tryd.ntmps31
    go_wp2_with fail
    go_loopw [5, 6] (fun lv hv wr => ∃ lo hi : Nat, lv = .int .i64 (lo : Int) ∧ hv = .int .i64 (hi : Int) ∧ lo ≤ hi ∧ hi ≤ m ∧ Hid ((lo : Int) ≤ T ∧ T ≤ (hi : Int)) ∧ Hid (Below w.heap.size w wr)) (fun lv hv _ => (intOf hv).toNat - (intOf lv).toNat)
    case atStart => exact ⟨0, m, rfl, rfl, by omega, by omega, Lib.hid ⟨HTG.out, HTL.out⟩, Lib.hid (Below.refl _ _)⟩
    case round =>
      obtain ⟨lo, hi, rfl, rfl, hle, hin, HR, HB⟩ := hrel
      by_cases hlt : lo < hi
      · obtain ⟨k, hk⟩ : ∃ k, k = (lo + hi) / 2 := ⟨_, rfl⟩
        have hmid : ((lo : Int) + (hi : Int)) / 2 = ((k : Nat) : Int) := by omega
        have kl : lo ≤ k ∧ k < hi := by omega
        have KL := Lib.hid kl
        have mb := HM.out
        have CC := Lib.hid (more_c (k : Int) (m : Int) b t p q r wr (by omega) (HC.out.below HB.out))
        have hs : IntKind.i64.wrap ((lo : Int) + (hi : Int)) = (lo : Int) + (hi : Int) := IntWalk.i64_in _ (by omega)
        have hu : IntKind.u64.wrap ((lo : Int) + (hi : Int)) = (lo : Int) + (hi : Int) := IntWalk.u64_in _ (by omega)
        have hk2 : IntKind.i64.wrap ((k : Nat) : Int) = ((k : Nat) : Int) := IntWalk.i64_in _ (by omega)
        have ku2 : IntKind.u64.wrap ((k : Nat) : Int) = ((k : Nat) : Int) := IntWalk.u64_in _ (by omega)
        clear hk
        go_wp2_with fail
        refine CC.out.mono ?_
        rintro e w2 ⟨rfl, hb⟩
        have B2 := Lib.hid (HB.out.trans (hb.mono HB.out.size))
        have OF : Hid (outer (k : Int) b ≤ (m : Int) ↔ (k : Int) < T) := Lib.hid (by rw [outer_fits (by omega)]; have := HT.out; omega)
        obtain ⟨z, hz⟩ : ∃ z, decide ((m : Int) < outer (k : Int) b) = z := ⟨_, rfl⟩
        rw [hz]
        have ZZ := Lib.hid hz
        clear hz hb CC HB hs hu hmid
        cases z with
        | true =>
          have HR2 : Hid ((lo : Int) ≤ T ∧ T ≤ (k : Int)) := Lib.hid (by
            have h1 := of_decide_eq_true ZZ.out
            have h2 := OF.out
            have h3 := HR.out
            refine ⟨h3.1, ?_⟩
            rcases Int.lt_or_le (k : Int) T with q | q
            · have := h2.2 q; omega
            · exact q)
          have KL1 := KL.out
          clear HR ZZ OF
          go_wp2_with fail
          go_roundw
          case rel => exact ⟨lo, k, rfl, rfl, by omega, by omega, HR2, B2⟩
          case measure => simp [intOf]; omega
        | false =>
          have HR2 : Hid (((k + 1 : Nat) : Int) ≤ T ∧ T ≤ (hi : Int)) := Lib.hid (by
            have h1 := of_decide_eq_false ZZ.out
            have h2 := OF.out
            have h3 := HR.out
            have := h2.1 (by omega)
            omega)
          have KL1 := KL.out
          clear HR ZZ OF
          go_wp2_with fail
          go_roundw
          case rel => exact ⟨k + 1, hi, by go_num, rfl, by omega, by omega, HR2, B2⟩
          case measure => simp [intOf]; omega
      · have E : Hid ((lo : Int) = T) := Lib.hid (by have := HR.out; omega)
        clear HR
        go_wp2_with fail
        go_ret
        exact ⟨by rw [E.out]; rfl, HB.out⟩
  · have e0 : T = 0 := by have := @top_neg mtu b (by omega); omega
    have E := Lib.hid e0
    have g : decide ((0 : Int) < mtu) = false := decide_eq_false hm
    clear hT e0 hm h1
    go_enter Tryd.func31, Tryd.ntmps31
    go_wp2_with fail
    go_loopw [5, 6] (fun lv hv wr => lv = .int .i64 0 ∧ hv = .int .i64 mtu ∧ Hid (Below w.heap.size w wr)) (fun lv hv _ => 0)
    case atStart => exact ⟨rfl, rfl, Lib.hid (Below.refl _ _)⟩
    case round =>
      obtain ⟨rfl, rfl, HB⟩ := hrel
      go_wp2_with fail
      go_ret
      exact ⟨by rw [E.out]; rfl, HB.out⟩
end Go.Proofs.YtjeenmeoiidmnaaDoor.Pmt2
