/- The law SadFollows. -/
import Derived.Test.YtppnkkpjfjhfkaaDoorM40
set_option linter.unusedVariables false
set_option maxRecDepth 100000
namespace Go.Proofs.YtppnkkpjfjhfkaaDoor.LawFollows
open Go.RowKit Go.Proofs.YtppnkkpjfjhfkaaDoor.Mem Go.Proofs.YtppnkkpjfjhfkaaDoor.Blk Go.Proofs.YtppnkkpjfjhfkaaDoor.ArgT Go.Proofs.YtppnkkpjfjhfkaaDoor.SadM Go.Proofs.YtppnkkpjfjhfkaaDoor.SadR3 Go.Proofs.YtppnkkpjfjhfkaaDoor.SadR4 Go.Proofs.YtppnkkpjfjhfkaaDoor.SadR10 Go.Proofs.YtppnkkpjfjhfkaaDoor.Ob17 Go.Proofs.YtppnkkpjfjhfkaaDoor.Errno

/-- The two associations. -/
def rA (soft most : Int) : LifeR := ⟨300, KY, SLT, MC, false, 64, 1, true, 0, 0, soft, most⟩
def rB (soft most : Int) : LifeR := { rA soft most with x0 := 301 }
abbrev Hy (soft most later now : Int) : Prop := 1 ≤ soft ∧ soft < most ∧ most ≤ 1000000 ∧ 0 ≤ later ∧ later ≤ 1000000 ∧ 0 ≤ now ∧ now ≤ 3000000
theorem mayA {soft most : Int} (h : 0 ≤ soft) (h2 : 0 ≤ most) : SadMay.mayL (rA soft most) = true := by
  have q : SadMay.may 300 KY SLT MC 64 = true := by kernel_rfl
  show (SadMay.may 300 KY SLT MC 64 && _) = true
  rw [q]
  simp [rA, h, h2]
theorem mayB {soft most : Int} (h : 0 ≤ soft) (h2 : 0 ≤ most) : SadMay.mayL (rB soft most) = true := by
  have q : SadMay.may 301 KY SLT MC 64 = true := by kernel_rfl
  show (SadMay.may 301 KY SLT MC 64 && _) = true
  rw [q]
  simp [rB, rA, h, h2]
theorem y1 {soft most : Int} (h : 0 ≤ soft) (h2 : 0 ≤ most) : addS 0 (rA soft most) [] = (0, [newE (rA soft most) 0]) := by
  unfold addS
  rw [if_neg (by rw [mayA h h2]; simp)]
  rfl
theorem y2 {soft most later : Int} (h : 0 ≤ soft) (h2 : 0 ≤ most) (h3 : 0 ≤ later) : addS later (rB soft most) [newE (rA soft most) 0] = (0, [newE (rA soft most) 0, newE (rB soft most) later]) := by
  unfold addS
  rw [if_neg (by rw [mayB h h2]; simp; omega)]
  rfl
section
variable {F : Nat → Prop} {W w : World} {gs : Nat} {soft most later now : Int}
theorem b1 (h : Ob F W w gs []) (hy : Hy soft most later now) : Calls Tryd.prog 15 #[.pointer (some ⟨gs, 0, none⟩), .int .i64 0, .agg #[.int .i64 300, .string KY, .string SLT, .string MC, .bool false, .int .i64 64, .int .i64 1, .bool true, .int .i64 0, .int .i64 0, .int .i64 soft, .int .i64 most]] w fun er w' => er = .returned (.int .i64 0) ∧ Ob F W w' gs [newE (rA soft most) 0] ∧ RowN.Keep F w w' :=
  (h.add (by simp) 0 (rA soft most)).mono fun er w' ⟨p, q, k⟩ => by
    rw [y1 (by omega) (by omega)] at p q
    exact ⟨p, q, k⟩
theorem b2 (h : Ob F W w gs [newE (rA soft most) 0]) (hy : Hy soft most later now) : Calls Tryd.prog 15 #[.pointer (some ⟨gs, 0, none⟩), .int .i64 later, .agg #[.int .i64 301, .string KY, .string SLT, .string MC, .bool false, .int .i64 64, .int .i64 1, .bool true, .int .i64 0, .int .i64 0, .int .i64 soft, .int .i64 most]] w fun er w' => er = .returned (.int .i64 0) ∧ Ob F W w' gs [newE (rA soft most) 0, newE (rB soft most) later] :=
  (h.add (by simp) later (rB soft most)).mono fun er w' ⟨p, q, k⟩ => by
    rw [y2 (by omega) (by omega) (by omega)] at p q
    exact ⟨p, q⟩
theorem b3 (h : Ob F W w gs [newE (rA soft most) 0, newE (rB soft most) later]) (hy : Hy soft most later now) : Calls Tryd.prog 22 #[.pointer (some ⟨gs, 0, none⟩), .int .i64 now, .int .i64 1] w fun er w' => er = .returned (if now < soft then .tuple #[.int .i64 300, .int .i64 0] else if now - later < most then .tuple #[.int .i64 301, .int .i64 0] else if now < most then .tuple #[.int .i64 300, .int .i64 0] else .tuple #[.int .i64 0, .int .i64 161]) ∧ Ob F W w' gs [newE (rA soft most) 0, newE (rB soft most) later] :=
  (h.pick (by simp) now 1 (fun d hd => by
    rcases List.mem_cons.1 hd with rfl | hd
    · show _ ≤ now - 0 ∧ now - 0 ≤ _
      omega
    · obtain rfl := List.mem_singleton.1 hd
      show _ ≤ now - later ∧ now - later ≤ _
      omega)).mono fun er w' ⟨p, q, _⟩ => by
    rw [show rB soft most = { rA soft most with x0 := 301 } from rfl, SadP.pick_two (later := later) hy.1 hy.2.1 hy.2.2.2.1 hy.2.2.2.2.2.1 (rA soft most) rfl rfl rfl rfl rfl rfl rfl] at p
    refine ⟨p.trans ?_, q⟩
    congr 1
    by_cases d1 : now < soft
    · rw [if_pos d1, if_pos d1]; rfl
    · rw [if_neg d1, if_neg d1]
      by_cases d2 : now - later < most
      · rw [if_pos d2, if_pos d2]; rfl
      · rw [if_neg d2, if_neg d2]
        by_cases d3 : now < most
        · rw [if_pos d3, if_pos d3]; rfl
        · rw [if_neg d3, if_neg d3]; rfl
end
set_option maxHeartbeats 4000000 in
theorem follows_any (soft most later now : Int) (W : World) (hg : Handle W) : Calls Tryd.prog 7 #[.int .i64 soft, .int .i64 most, .int .i64 later, .int .i64 now] W fun er w' => er = .returned (.bool true) ∧ Below W.heap.size W w' := by
  by_cases c0 : soft < 1
  · have g0 : decide (soft < 1) = true := decide_eq_true c0
    clear hg
    go_enter Tryd.func7, Tryd.ntmps7
    go_wp2_with fail
    go_ret
    exact ⟨rfl, Below.refl _ _⟩
  · have g0 : decide (soft < 1) = false := decide_eq_false c0
    by_cases c1 : most ≤ soft
    · have g1 : decide (most ≤ soft) = true := decide_eq_true c1
      clear hg
      go_enter Tryd.func7, Tryd.ntmps7
      go_wp2_with fail
      go_ret
      exact ⟨rfl, Below.refl _ _⟩
    · have g1 : decide (most ≤ soft) = false := decide_eq_false c1
      by_cases c2 : 1000000 < most
      · have g2 : decide (1000000 < most) = true := decide_eq_true c2
        clear hg
        go_enter Tryd.func7, Tryd.ntmps7
        go_wp2_with fail
        go_ret
        exact ⟨rfl, Below.refl _ _⟩
      · have g2 : decide (1000000 < most) = false := decide_eq_false c2
        by_cases c3 : later < 0
        · have g3 : decide (later < 0) = true := decide_eq_true c3
          clear hg
          go_enter Tryd.func7, Tryd.ntmps7
          go_wp2_with fail
          go_ret
          exact ⟨rfl, Below.refl _ _⟩
        · have g3 : decide (later < 0) = false := decide_eq_false c3
          by_cases c4 : 1000000 < later
          · have g4 : decide (1000000 < later) = true := decide_eq_true c4
            clear hg
            go_enter Tryd.func7, Tryd.ntmps7
            go_wp2_with fail
            go_ret
            exact ⟨rfl, Below.refl _ _⟩
          · have g4 : decide (1000000 < later) = false := decide_eq_false c4
            by_cases c5 : now < 0
            · have g5 : decide (now < 0) = true := decide_eq_true c5
              clear hg
              go_enter Tryd.func7, Tryd.ntmps7
              go_wp2_with fail
              go_ret
              exact ⟨rfl, Below.refl _ _⟩
            · have g5 : decide (now < 0) = false := decide_eq_false c5
              by_cases c6 : 3000000 < now
              · have g6 : decide (3000000 < now) = true := decide_eq_true c6
                clear hg
                go_enter Tryd.func7, Tryd.ntmps7
                go_wp2_with fail
                go_ret
                exact ⟨rfl, Below.refl _ _⟩
              · have g6 : decide (3000000 < now) = false := decide_eq_false c6
                have H0 := Lib.hid (show (1 ≤ soft ∧ soft < most ∧ most ≤ 1000000 ∧ 0 ≤ later ∧ later ≤ 1000000 ∧ 0 ≤ now ∧ now ≤ 3000000) by omega)
                have NC := Lib.hid (Ob.new hg (Below.refl W.heap.size W))
                have HG := Lib.hid hg
                have f1 : IntKind.i64.wrap (now - later) = now - later := IntWalk.i64_in _ (by omega)
                clear hg c0 c1 c2 c3 c4 c5 c6
                go_enter Tryd.func7, Tryd.ntmps7
                go_wp2_with fail
                refine NC.out.mono ?_
                rintro er w1 ⟨rfl, o1, -⟩
                have O1 := Lib.hid o1
                clear o1 NC
                generalize W.heap.size = gs at *
                go_wp2_with fail
                refine (life_c 300 _).mono ?_
                rintro er w3 ⟨rfl, hb3⟩
                have bb : Below w1.heap.size w1 ((w3.alloc (.cells #[.int .i64 300, .string KY, .string SLT, .string MC, .bool false, .int .i64 64, .int .i64 1, .bool true, .int .i64 0, .int .i64 0, .int .i64 soft, .int .i64 most] 34)).alloc (.cells #[.int .i64 301, .string KY, .string SLT, .string MC, .bool false, .int .i64 64, .int .i64 1, .bool true, .int .i64 0, .int .i64 0, .int .i64 soft, .int .i64 most] 34)) := (hb3.alloc hb3.size _).alloc (by have := hb3.size; simp; omega) _
                have K11 : Hid (Blk ((w3.alloc (.cells #[.int .i64 300, .string KY, .string SLT, .string MC, .bool false, .int .i64 64, .int .i64 1, .bool true, .int .i64 0, .int .i64 0, .int .i64 soft, .int .i64 most] 34)).alloc (.cells #[.int .i64 301, .string KY, .string SLT, .string MC, .bool false, .int .i64 64, .int .i64 1, .bool true, .int .i64 0, .int .i64 0, .int .i64 soft, .int .i64 most] 34)) (w3.heap.size + 1) 34 #[.int .i64 301, .string KY, .string SLT, .string MC, .bool false, .int .i64 64, .int .i64 1, .bool true, .int .i64 0, .int .i64 0, .int .i64 soft, .int .i64 most]) := Lib.hid (by
                  have := Blk.new (w3.alloc (.cells #[.int .i64 300, .string KY, .string SLT, .string MC, .bool false, .int .i64 64, .int .i64 1, .bool true, .int .i64 0, .int .i64 0, .int .i64 soft, .int .i64 most] 34)) 34 #[.int .i64 301, .string KY, .string SLT, .string MC, .bool false, .int .i64 64, .int .i64 1, .bool true, .int .i64 0, .int .i64 0, .int .i64 soft, .int .i64 most]
                  simpa using this)
                have O4 := Lib.hid (O1.out.wide bb)
                have FB' : Hid (w1.heap.size ≤ w3.heap.size + 1 ∧ w3.heap.size + 1 < ((w3.alloc (.cells #[.int .i64 300, .string KY, .string SLT, .string MC, .bool false, .int .i64 64, .int .i64 1, .bool true, .int .i64 0, .int .i64 0, .int .i64 soft, .int .i64 most] 34)).alloc (.cells #[.int .i64 301, .string KY, .string SLT, .string MC, .bool false, .int .i64 64, .int .i64 1, .bool true, .int .i64 0, .int .i64 0, .int .i64 soft, .int .i64 most] 34)).heap.size) := Lib.hid ⟨by have := hb3.size; omega, Blk.lt K11.out⟩
                clear hb3 bb O1
                go_wp2_with fail
                generalize (w3.alloc (.cells #[.int .i64 300, .string KY, .string SLT, .string MC, .bool false, .int .i64 64, .int .i64 1, .bool true, .int .i64 0, .int .i64 0, .int .i64 soft, .int .i64 most] 34)).alloc (.cells #[.int .i64 301, .string KY, .string SLT, .string MC, .bool false, .int .i64 64, .int .i64 1, .bool true, .int .i64 0, .int .i64 0, .int .i64 soft, .int .i64 most] 34) = we at *
                obtain ⟨F, hF⟩ : ∃ F : Nat → Prop, F = fun k => k < gs ∨ (w1.heap.size ≤ k ∧ k < we.heap.size) := ⟨_, rfl⟩
                have FB : Hid (F (w3.heap.size + 1)) := Lib.hid (by rw [hF]; exact .inr FB'.out)
                have O5 : Hid (Ob F W we gs []) := Lib.hid (by rw [hF]; exact O4.out)
                clear O4 hF FB'
                generalize w3.heap.size + 1 = gb at *
                refine (b1 O5.out H0.out).mono ?_
                rintro er w5 ⟨rfl, o, kp⟩
                have O6 := Lib.hid o
                have K5 := Lib.hid ((kp.block _ FB.out (Blk.lt K11.out)).trans K11.out)
                clear o kp O5 K11 FB
                go_wp2_with (refine Store.at_load 34 (.tmp 11) ?_ ?_; exact rfl; refine Loads.wpList_load_w (by kernel_rfl) 34 (.tmp 11) rfl gb rfl 34 #[.int .i64 301, .string KY, .string SLT, .string MC, .bool false, .int .i64 64, .int .i64 1, .bool true, .int .i64 0, .int .i64 0, .int .i64 soft, .int .i64 most] (0, 0) _ (K5.out) Tryd.underlying34 rfl (by kernel_rfl) ?_)
                refine (b2 O6.out H0.out).mono ?_
                rintro er w6 ⟨rfl, o⟩
                have O7 := Lib.hid o
                clear o K5 O6
                go_wp2_with fail
                refine (b3 O7.out H0.out).mono ?_
                rintro er w7 ⟨rfl, o⟩
                have O8 := Lib.hid o
                clear o O7
                have AW := Lib.hid (awake_any w7 O8.out.hd)
                have FIN : Hid (∀ w', Below w7.heap.size w7 w' → Below W.heap.size W w') := Lib.hid fun w' h => O8.out.bel.trans (h.mono O8.out.bel.size)
                clear O8
                by_cases d1 : now < soft
                · have e1 : decide (now < soft) = true := decide_eq_true d1
                  rw [if_pos d1]
                  have A2 := Lib.hid AW.out
                  clear d1 AW
                  go_wp2_with fail
                  refine A2.out.mono ?_
                  rintro er w8 ⟨rfl, hb⟩
                  have HB := Lib.hid (FIN.out _ hb)
                  clear hb
                  go_wp2_with fail
                  go_ret
                  exact ⟨rfl, HB.out⟩
                · have e1 : decide (now < soft) = false := decide_eq_false d1
                  rw [if_neg d1]
                  by_cases d2 : now - later < most
                  · have e2 : decide (now - later < most) = true := decide_eq_true d2
                    rw [if_pos d2]
                    clear d1 d2
                    go_wp2_with fail
                    refine AW.out.mono ?_
                    rintro er w8 ⟨rfl, hb⟩
                    have HB := Lib.hid (FIN.out _ hb)
                    clear hb AW
                    go_wp2_with fail
                    go_ret
                    exact ⟨rfl, HB.out⟩
                  · have e2 : decide (now - later < most) = false := decide_eq_false d2
                    rw [if_neg d2]
                    by_cases d3 : now < most
                    · have e3 : decide (now < most) = true := decide_eq_true d3
                      rw [if_pos d3]
                      clear d1 d2 d3
                      go_wp2_with fail
                      refine AW.out.mono ?_
                      rintro er w8 ⟨rfl, hb⟩
                      have HB := Lib.hid (FIN.out _ hb)
                      clear hb AW
                      go_wp2_with fail
                      go_ret
                      exact ⟨rfl, HB.out⟩
                    · have e3 : decide (now < most) = false := decide_eq_false d3
                      have e4 : decide (most ≤ now) = true := decide_eq_true (by omega)
                      rw [if_neg d3]
                      clear d1 d2 d3
                      go_wp2_with fail
                      refine AW.out.mono ?_
                      rintro er w8 ⟨rfl, hb⟩
                      have HB := Lib.hid (FIN.out _ hb)
                      clear hb AW
                      go_wp2_with fail
                      go_ret
                      exact ⟨rfl, HB.out⟩
end Go.Proofs.YtppnkkpjfjhfkaaDoor.LawFollows
