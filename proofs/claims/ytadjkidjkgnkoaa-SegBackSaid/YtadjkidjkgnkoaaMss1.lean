/- Contracts of the code: firstSize, each, what each hands back. -/
import Derived.RangeFuncWrites
import Derived.RangeFuncLeaves
import Derived.Shelf.Abstract
import Derived.WalkKit
import Derived.OwnWalkIn
import Derived.TacticsInMore
import Derived.LoopNIn
import Derived.LoopIn
import Derived.BigFrameIn
import Derived.Test.YtadjkidjkgnkoaaVis
import Derived.Test.YtadjkidjkgnkoaaProg
import Derived.Lib.Hide
set_option linter.unusedVariables false
namespace Go.Proofs.Ytadjkidjkgnkoaa.Mss1
open Go.RowKit Go.PlainAid Go.Proofs.Ytadjkidjkgnkoaa.OptS Go.Proofs.Ytadjkidjkgnkoaa.Vis

theorem first_any (s : ByteArray) (w : World) (h : 0 < s.size) (hs : s.size ≤ 1048576) : Calls Try.prog 49 #[.string s] w fun e w' => e = .returned (.int .i64 (fs s : Int)) ∧ w = w' := by
  have hgb := get_bt s
  have x0 := bt_nonneg s 0
  have x1 := bt_le s 0
  by_cases h1 : bt s 0 = 1
  · have F : Hid ((fs s : Int) = 1) := Lib.hid (by unfold fs; rw [if_pos h1]; rfl)
    have h1' : (bt s 0 == 1) = true := by rw [h1]; rfl
    go_enter Try.func49, Try.ntmps49
    go_wp2_with fail
    go_ret
    exact ⟨by rw [F.out]; rfl, rfl⟩
  have h1' : (bt s 0 == 1) = false := by simpa using h1
  by_cases h2 : s.size < 2
  · have F : Hid ((fs s : Int) = 0) := Lib.hid (by unfold fs; rw [if_neg h1, if_pos (.inl h2)]; rfl)
    have h2' : decide (s.size < 2) = true := decide_eq_true h2
    have h2'' : decide ((s.size : Int) < 2) = true := decide_eq_true (by omega)
    clear h1
    go_enter Try.func49, Try.ntmps49
    go_wp2_with fail
    go_ret
    exact ⟨by rw [F.out]; rfl, rfl⟩
  have h2' : decide (s.size < 2) = false := decide_eq_false h2
  have h2'' : decide ((s.size : Int) < 2) = false := decide_eq_false (by omega)
  have hi : 1 < s.size := by omega
  have y0 := bt_nonneg s 1
  have y1 := bt_le s 1
  by_cases h3 : bt s 1 < 2
  · have F : Hid ((fs s : Int) = 0) := Lib.hid (by unfold fs; rw [if_neg h1, if_pos (.inr (.inl h3))]; rfl)
    have h3' : decide (bt s 1 < 2) = true := decide_eq_true h3
    clear h1 h2
    go_enter Try.func49, Try.ntmps49
    go_wp2_with fail
    go_ret
    exact ⟨by rw [F.out]; rfl, rfl⟩
  have h3' : decide (bt s 1 < 2) = false := decide_eq_false h3
  have e1 : IntKind.i64.wrap (bt s 1) = bt s 1 := IntWalk.i64_in _ (by omega)
  by_cases h4 : (s.size : Int) < bt s 1
  · have F : Hid ((fs s : Int) = 0) := Lib.hid (by unfold fs; rw [if_neg h1, if_pos (.inr (.inr h4))]; rfl)
    have h4' : decide ((s.size : Int) < bt s 1) = true := decide_eq_true h4
    clear h1 h2
    go_enter Try.func49, Try.ntmps49
    go_wp2_with fail
    go_ret
    exact ⟨by rw [F.out]; rfl, rfl⟩
  have h4' : decide ((s.size : Int) < bt s 1) = false := decide_eq_false h4
  have F : Hid ((fs s : Int) = bt s 1) := Lib.hid (by unfold fs; rw [if_neg h1, if_neg (by omega)]; omega)
  clear h1 h2
  go_enter Try.func49, Try.ntmps49
  go_wp2_with fail
  go_ret
  exact ⟨by rw [F.out]; rfl, rfl⟩

theorem each_any (s : ByteArray) (w : World) : Calls Try.prog 40 #[.string s] w fun e w' => e = .returned (.func (.func 48) #[] #[.pointer (some ⟨w.heap.size, 0, none⟩)]) ∧ w.alloc (.cells #[.string s] 9) = w' := by
  go_enter Try.func40, Try.ntmps40
  go_wp2_with fail
  go_ret
  exact ⟨rfl, rfl⟩

/-- How much of a text is left. -/
def left (v : Value) : Nat := match v with
  | .string t => t.size
  | _ => 0

set_option maxRecDepth 100000 in
set_option maxHeartbeats 1000000 in
theorem each1_in {α : Type} (enc : α → ByteArray) (n : Nat) (hn : 2 ≤ n) (l Bn : Nat) (s : ByteArray) (hs : s.size ≤ 1048576) (xs : List α) (hx : xs.map enc = vis s) (Kp : World → World → Prop) (J Jx : List α → World → Prop)
    (hY : ∀ pre x W, J pre W → pre.length < xs.length → YieldAt Fence.wide (n - 1) Try.prog l #[.string (enc x)] W fun e W' =>
      (e = .returned (.bool true) ∧ J (pre ++ [x]) W' ∧ Kp W W') ∨ (e = .returned (.bool false) ∧ Jx (pre ++ [x]) W'))
    (W : World) (hBn : W.cell? ⟨Bn, 0, none⟩ = some (.string s)) (h0 : J [] W) :
    CallsIn Fence.wide n Try.prog 48 #[.func (.yield l) #[] #[], .pointer (some ⟨Bn, 0, none⟩)] W fun e W' => (∃ v, e = .returned v) ∧
      ((∃ ys, ys = xs ∧ J ys W') ∨ (∃ pre, pre <+: xs ∧ Jx pre W')) := by
  have hf49 : Fence.wide.fn 49 := trivial
  have h1n : 1 ≤ n := by omega
  refine callsIn_of_wp Try.func48 rfl trivial ?_ rfl
  simp only [Try.ntmps48, List.size_toArray, List.length_cons, List.length_nil, Nat.reduceAdd, Nat.reduceSub, Array.replicate_succ, Array.replicate_zero, List.push_toArray, List.append_toArray, List.nil_append, List.cons_append]
  gi_wp2
  gi_loopw [3] (fun p wr => ∃ (pre rest : List α) (t : ByteArray), p = .string t ∧ t.size ≤ 1048576 ∧ xs = pre ++ rest ∧ rest.map enc = vis t ∧ J pre wr)
    (fun p wr => left p)
  case atStart =>
    exact ⟨[], xs, s, rfl, hs, rfl, hx, h0⟩
  case round =>
    obtain ⟨pre, rest, t, rfl, ht, hxs, hv, hJs⟩ := hrel
    have hgb := get_bt t
    by_cases hz : t.size = 0
    · have et : t = ⟨#[]⟩ := by
        rcases t with ⟨⟨l⟩⟩
        cases l with
        | nil => rfl
        | cons a b => simp [ByteArray.size] at hz
      have hr : rest = [] := by rw [vis_end hz] at hv; simpa using hv
      subst et hr
      gi_wp2
      go_end0
      exact ⟨⟨_, rfl⟩, .inl ⟨pre, by simp [hxs], hJs⟩⟩
    have hne : t.toList.isEmpty = false := by
      have e : t.toList = t.data.toList := ByteArray.toList_eq t
      have z : t.size = t.data.toList.length := rfl
      rw [e]
      cases hq : t.data.toList with
      | nil => rw [hq] at z; exact absurd z hz
      | cons a b => rfl
    have hp : 0 < t.size := by omega
    by_cases h0 : bt t 0 = 0
    · have hr : rest = [] := by rw [vis_zero h0] at hv; simpa using hv
      have h0' : (bt t 0 != 0) = false := by rw [h0]; rfl
      subst hr
      gi_wp2
      go_end0
      exact ⟨⟨_, rfl⟩, .inl ⟨pre, by simp [hxs], hJs⟩⟩
    have h0' : (bt t 0 != 0) = true := by simpa using h0
    have FC := Lib.hid (first_any t wr hp ht)
    have hle := fs_le hp
    have hsz := fs_size hp
    by_cases h1 : fs t = 0
    · -- the last one, whose length does not hold
      have hv1 := hv
      rw [vis_bad hp h0 h1] at hv1
      obtain ⟨x, rfl, hxe⟩ : ∃ x, rest = [x] ∧ enc x = t.extract 0 (fs t) := by
        match rest, hv1 with
        | [x], hv1 => simp at hv1; exact ⟨x, rfl, hv1⟩
        | [], hv1 => simp at hv1
        | x :: y :: r, hv1 => simp at hv1
      obtain ⟨fn, tmps, assign, body, hy, hR⟩ := hY pre x wr hJs (by rw [hxs]; simp)
      have hxz : enc x = ByteArray.empty := by rw [hxe, h1]; simp
      rw [hxz] at hy
      clear hv hv1 hxe
      gi_wp2_with (gi_at_call 49; refine (callsIn_wide.2 FC.out).mono ?_; rintro e w' ⟨rfl, rfl⟩)
      refine hR.mono ?_
      rintro e W3 (⟨rfl, hJ3, hk3⟩ | ⟨rfl, hJx3⟩)
      · gi_wp2
        refine bodyPost_ret (results_none rfl _ _ _) rfl ?_
        exact ⟨⟨_, rfl⟩, .inl ⟨pre ++ [x], hxs.symm, hJ3⟩⟩
      · gi_wp2
        refine bodyPost_ret (results_none rfl _ _ _) rfl ?_
        exact ⟨⟨_, rfl⟩, .inr ⟨pre ++ [x], ⟨[], by simp [hxs]⟩, hJx3⟩⟩
    · -- one of them
      have hv1 := hv
      rw [vis_go hp h0 h1] at hv1
      obtain ⟨x, r, rfl, hxe, hr⟩ : ∃ x r, rest = x :: r ∧ enc x = t.extract 0 (fs t) ∧ r.map enc = vis (t.extract (fs t) t.size) := by
        match rest, hv1 with
        | [], hv1 => simp at hv1
        | x :: r, hv1 => simp at hv1; exact ⟨x, r, rfl, hv1.1, hv1.2⟩
      obtain ⟨fn, tmps, assign, body, hy, hR⟩ := hY pre x wr hJs (by rw [hxs]; simp)
      rw [hxe] at hy
      have RS := Lib.hid hr
      have XS := Lib.hid hxs
      have h1' : ((fs t : Int) == 0) = false := by simpa using h1
      have h1z : ¬ (fs t : Int) = 0 := by omega
      have hsz2 : (t.extract (fs t) t.size).size ≤ 1048576 := by rw [ByteArray.size_extract]; omega
      have hms : (t.extract (fs t) t.size).size < t.size := by rw [ByteArray.size_extract]; omega
      have MS := Lib.hid hms
      have SZ := Lib.hid hsz2
      clear hv hv1 hxe hr hxs hsz2 hms
      generalize hk : fs t = k at *
      gi_wp2_with (gi_at_call 49; refine (callsIn_wide.2 FC.out).mono ?_; rintro e w' ⟨rfl, rfl⟩)
      refine hR.mono ?_
      rintro e W3 (⟨rfl, hJ3, hk3⟩ | ⟨rfl, hJx3⟩)
      · gi_wp2
        go_roundw
        case rel => exact ⟨pre ++ [x], r, t.extract k t.size, rfl, SZ.out, by rw [XS.out]; simp, RS.out, hJ3⟩
        case measure => exact MS.out
      · gi_wp2
        refine bodyPost_ret (results_none rfl _ _ _) rfl ?_
        exact ⟨⟨_, rfl⟩, .inr ⟨pre ++ [x], ⟨r, by rw [XS.out]; simp⟩, hJx3⟩⟩

/-- What each hands back, in a later world. -/
theorem each_stops {α : Type} (enc : α → ByteArray) (n : Nat) (hn : 2 ≤ n) (Bn : Nat) (s : ByteArray) (hs : s.size ≤ 1048576) (xs : List α) (hx : xs.map enc = vis s) (w : World) (hBn : Bn < w.heap.size) (hc : w.cell? ⟨Bn, 0, none⟩ = some (.string s)) :
    SeqStopsK Fence.wide n Try.prog 48 #[.pointer (some ⟨Bn, 0, none⟩)] (fun x : α => #[Value.string (enc x)]) (fun _ _ => True) (fun ys => ys = xs) (fun pre => pre <+: xs) xs.length w := fun l J Jx W hW _ _ hY h0 =>
  each1_in enc n hn l Bn s hs xs hx (fun _ _ => True) J Jx hY W ((hW.cell (p := ⟨Bn, 0, none⟩) hBn).trans hc) h0
end Go.Proofs.Ytadjkidjkgnkoaa.Mss1
