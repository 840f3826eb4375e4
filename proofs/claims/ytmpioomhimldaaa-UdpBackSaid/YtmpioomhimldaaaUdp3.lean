/- Contracts: intact, examine; of the code. -/
import Derived.Test.YtmpioomhimldaaaUdp2
import Derived.Test.YtmpioomhimldaaaCut
import Derived.Lib.QuietBelow
import Derived.BigQuiet
set_option linter.unusedVariables false
namespace Go.Proofs.Ytmpioomhimldaaa.Udp
open Go.RowKit Go.Sort Go.Proofs.Ytmpioomhimldaaa.Sums Go.Proofs.Ytmpioomhimldaaa.Words Go.Proofs.Ytmpioomhimldaaa.Mem Go.Proofs.Ytmpioomhimldaaa.Dat Go.Proofs.Ytmpioomhimldaaa.Blk Go.Proofs.Ytmpioomhimldaaa.Bits Go.Proofs.Ytmpioomhimldaaa.InetSum Go.Proofs.Ytmpioomhimldaaa.Steps

def intact (l : List Int) (s d : ByteArray) : Bool := if w16 l 6 = 0 then decide (s.size = 4) else decide (whole s d l = 65535)

theorem intact_any (s d : ByteArray) (A : Option Addr) (n c : Nat) (l : List Int) (w : World) (B : Nat) (h : Holds w B A n c l) (hB : B ≤ w.heap.size) (h8 : 8 ≤ n) (hn : n ≤ 65535) (hp : paired s d = true) :
    Calls Try.prog 32 #[.agg #[.string s, .string d, .slice A n c]] w fun e w' => e = .returned (.bool (intact l s d)) ∧ Below w.heap.size w w' := by
  have B0 := Lib.hid ((Below.refl w.heap.size w).alloc (Nat.le_refl _) (.cells #[.string s, .string d, .slice A n c] 46))
  have K0 := Lib.hid (Blk.new w 46 #[.string s, .string d, .slice A n c])
  have T := Lib.hid (check_any s d A n c l _ B (h.below (B0.out.mono hB)) (by simp; omega) h8)
  have I : Hid (intact l s d = if w16 l 6 = 0 then decide (s.size = 4) else decide (whole s d l = 65535)) := Lib.hid rfl
  have H := Lib.hid h
  clear h
  generalize hk : w16 l 6 = k at *
  by_cases q : k = 0
  · have F : Hid (intact l s d = ((s.size : Int) == 4)) := Lib.hid (by
      rw [I.out, if_pos q]
      by_cases h4 : s.size = 4
      · rw [decide_eq_true h4]; simp [h4]
      · rw [decide_eq_false h4]; symm; rw [beq_eq_false_iff_ne]; omega)
    subst q
    clear I
    go_enter Try.func32, Try.ntmps32
    go_wp2_with fail
    refine T.out.mono ?_
    rintro e w1 ⟨rfl, hb⟩
    have B1 := Lib.hid (B0.out.trans (hb.mono B0.out.size))
    have K1 := Lib.hid (K0.out.below hb K0.out.lt)
    have k0 := K1.out.cell 0
    clear hb
    go_wp2_with fail
    go_ret
    exact ⟨by rw [F.out]; rfl, B1.out⟩
  · have F : Hid (intact l s d = (whole s d l == 65535)) := Lib.hid (by
      rw [I.out, if_neg q]
      by_cases e : whole s d l = 65535
      · rw [decide_eq_true e, e]; rfl
      · rw [decide_eq_false e]; symm; exact beq_eq_false_iff_ne.2 e)
    have q1 : (k == 0) = false := by simpa using q
    clear I q
    go_enter Try.func32, Try.ntmps32
    go_wp2_with fail
    refine T.out.mono ?_
    rintro e w1 ⟨rfl, hb⟩
    have B1 := Lib.hid (B0.out.trans (hb.mono B0.out.size))
    have K1 := Lib.hid (K0.out.below hb K0.out.lt)
    have S := Lib.hid (sum_code s d A n c l w1 B (H.out.below (B1.out.mono hB)) (Nat.le_trans hB B1.out.size) hn hp)
    clear hb
    go_wp2_with (refine Loads.wpList_load_w rfl 46 (.tmp 1) rfl w.heap.size rfl 46 #[.string s, .string d, .slice A n c] (0, 0) _ K1.out (Try.underlying46) rfl (by kernel_rfl) ?_)
    refine S.out.mono ?_
    rintro e w2 ⟨rfl, hb⟩
    have B2 := Lib.hid (B1.out.trans (hb.mono B1.out.size))
    go_wp2_with fail
    go_ret
    exact ⟨by rw [F.out]; rfl, B2.out⟩

theorem load_dat {w : World} {g : Nat} {cs : Array Value} (h : Blk w g 46 cs) (hs : cs.size = 3) : (loadVar 46 ⟨g, 0, none⟩).run Try.prog w = .ok (.agg cs) w :=
  run_loadVar_row (P := Try.prog) w g 46 46 cs (0, 0) _ h Try.underlying46 rfl (by rw [hs]; kernel_rfl)

theorem examine_short (s d : ByteArray) (A : Option Addr) (n c : Nat) (l : List Int) (w : World) (B : Nat) (h : Holds w B A n c l) (hB : B ≤ w.heap.size) (h8 : n < 8) (hp : paired s d = true) :
    Calls Try.prog 23 #[.agg #[.string s, .string d, .slice A n c]] w fun e w' => e = .returned (.int .i64 (perr l s d)) ∧ Below w.heap.size w w' := by
  have hl := h.1
  have B0 := Lib.hid ((Below.refl w.heap.size w).alloc (Nat.le_refl _) (.cells #[.string s, .string d, .slice A n c] 46))
  have K0 := Lib.hid (Blk.new w 46 #[.string s, .string d, .slice A n c])
  have k0 := K0.out.cell 0
  have k1 := K0.out.cell 1
  have k2 := K0.out.cell 2
  have P := Lib.hid (fun W => paired_any s d W)
  rw [hp] at P
  have E : Hid (perr l s d = 8) := Lib.hid (by unfold perr; rw [hp, if_neg (by decide), if_pos (by omega)])
  have g1 : decide (n < 8) = true := decide_eq_true h8
  have g2 : decide ((n : Int) < 8) = true := decide_eq_true (by omega)
  clear h hl
  go_enter Try.func23, Try.ntmps23
  go_wp2_with fail
  refine (P.out _).mono ?_
  rintro e w1 ⟨rfl, rfl⟩
  go_wp2_with fail
  go_quiet (fail)
  go_wp2_with fail
  go_ret
  exact ⟨by rw [E.out]; rfl, below_drewN B0.out nq⟩

/-- What is known of a datagram's block in every world that grows from one. -/
structure Seen (w : World) (g : Nat) (s d : ByteArray) (A : Option Addr) (n c : Nat) (T : Int) : Prop where
  c0 : ∀ d' os, (grow (redrawn w d') os).cell? ⟨g, 0, none⟩ = some (.string s)
  c1 : ∀ d' os, (grow (redrawn w d') os).cell? ⟨g, 1, none⟩ = some (.string d)
  c2 : ∀ d' os, (grow (redrawn w d') os).cell? ⟨g, 2, none⟩ = some (.slice A n c)
  ld : ∀ d' os, (loadVar 46 ⟨g, 0, none⟩).run Try.prog (grow (redrawn w d') os) = .ok (.agg #[.string s, .string d, .slice A n c]) (grow (redrawn w d') os)
  ln : ∀ d' os, Calls Try.prog 31 #[.agg #[.string s, .string d, .slice A n c]] (grow (redrawn w d') os) fun e w'' => e = .returned (.int .i64 T) ∧ ∃ p : Regrown, w'' = grow (redrawn w p.d) p.os
theorem seen {w : World} {g B : Nat} {s d : ByteArray} {A : Option Addr} {n c : Nat} {l : List Int} (k : Blk w g 46 #[.string s, .string d, .slice A n c]) (h : Holds w B A n c l) (hB : B ≤ w.heap.size) (h8 : 8 ≤ n) : Seen w g s d A n c (w16 l 4) :=
  ⟨fun d' os => cell_regrown (k.cell 0) d' os, fun d' os => cell_regrown (k.cell 1) d' os, fun d' os => cell_regrown (k.cell 2) d' os,
   fun d' os => load_dat (k.below (below_regrown w d' os) k.lt) rfl,
   fun d' os => Calls.regrown_of (length_any s d A n c l _ B (h.below ((below_regrown w d' os).mono hB)) (Nat.le_trans hB (below_regrown w d' os).size) h8)⟩

set_option maxHeartbeats 1000000 in
theorem examine_long (s d : ByteArray) (A : Option Addr) (n c : Nat) (l : List Int) (w : World) (B : Nat) (h : Holds w B A n c l) (hB : B ≤ w.heap.size) (h8 : 8 ≤ n) (hn : n ≤ 1048576) (hp : paired s d = true) :
    Calls Try.prog 23 #[.agg #[.string s, .string d, .slice A n c]] w fun e w' => e = .returned (.int .i64 (perr l s d)) ∧ Below w.heap.size w w' := by
  have hl := h.1
  have B0 := Lib.hid ((Below.refl w.heap.size w).alloc (Nat.le_refl _) (.cells #[.string s, .string d, .slice A n c] 46))
  have K0 := Lib.hid (Blk.new w 46 #[.string s, .string d, .slice A n c])
  have H0 := Lib.hid (h.below (B0.out.mono hB))
  have k0 := K0.out.cell 0
  have k1 := K0.out.cell 1
  have P := Lib.hid (fun W => paired_any s d W)
  rw [hp] at P
  have E : Hid (perr l s d = if (n : Int) < w16 l 4 then 8 else if w16 l 4 < 8 then 4 else if w16 l 4 < (n : Int) then 4 else if intact l s d then 0 else 5) := Lib.hid (by
    unfold perr
    rw [hp, if_neg (by decide), if_neg (by omega), hl]
    unfold intact
    repeat' split
    all_goals first | rfl | omega | (rename_i a b; simp_all))
  have S0 := Lib.hid (seen K0.out H0.out (by simp; omega) h8)
  have tw := w16_in h.2.2.2.1 4
  clear h
  generalize hT : w16 l 4 = T at *
  have g0 : decide (n < 8) = false := decide_eq_false (by omega)
  have g1 : decide ((n : Int) < 8) = false := decide_eq_false (by omega)
  go_enter Try.func23, Try.ntmps23
  go_wp2_with fail
  refine (P.out _).mono ?_
  rintro e w1 ⟨rfl, rfl⟩
  generalize w.alloc (.cells #[.string s, .string d, .slice A n c] 46) = w1 at *
  by_cases q1 : (n : Int) < T
  · have F : Hid (perr l s d = 8) := Lib.hid (by rw [E.out, if_pos q1])
    have q1' : decide ((n : Int) < T) = true := decide_eq_true q1
    obtain ⟨c0, c1, c2, ld, ln⟩ := S0.out
    clear E hT hl
    go_wp2_with fail
    refine wp_region_quiet_below (by kernel_rfl) (by kernel_rfl) ?_
    repeat (quiet_step (with_reducible exact ln _ _))
    refine wpQuiet_nil ?_
    intro _ hw'
    obtain ⟨⟨dq, osq⟩, hw''⟩ := hw'
    subst hw''
    clear c0 c1 c2 ld ln
    go_wp2_with fail
    go_ret
    exact ⟨by rw [F.out]; rfl, B0.out.trans ((below_regrown w1 dq osq).mono B0.out.size)⟩
  have q1' : decide ((n : Int) < T) = false := decide_eq_false q1
  obtain ⟨c0, c1, c2, ld, ln⟩ := S0.out
  go_wp2_with fail
  refine wp_region_quiet_below (by kernel_rfl) (by kernel_rfl) ?_
  repeat (quiet_step (with_reducible exact ln _ _))
  refine wpQuiet_nil ?_
  intro _ hw'
  obtain ⟨⟨dq, osq⟩, hw''⟩ := hw'
  subst hw''
  clear c0 c1 c2 ld ln
  have G1 := Lib.hid (below_regrown w1 dq osq)
  generalize grow (redrawn w1 dq) osq = w2 at *
  have B2 := Lib.hid (B0.out.trans (G1.out.mono B0.out.size))
  have K2 := Lib.hid (K0.out.below G1.out K0.out.lt)
  have H2 := Lib.hid (H0.out.below (G1.out.mono (Nat.le_trans hB B0.out.size)))
  have S2 := Lib.hid (seen K2.out H2.out (Nat.le_trans hB B2.out.size) h8)
  rw [hT] at S2
  clear hT S0
  obtain ⟨c0, c1, c2, ld, ln⟩ := S2.out
  by_cases q2 : T < 8
  · have F : Hid (perr l s d = 4) := Lib.hid (by rw [E.out, if_neg (by omega), if_pos (by omega)])
    have q2' : decide (T < 8) = true := decide_eq_true q2
    clear E hl
    go_wp2_with fail
    refine wp_region_quiet_below (by kernel_rfl) (by kernel_rfl) ?_
    repeat (quiet_step (with_reducible exact ln _ _))
    refine wpQuiet_nil ?_
    intro _ hw'
    obtain ⟨⟨dq, osq⟩, hw''⟩ := hw'
    subst hw''
    clear c0 c1 c2 ld ln
    have G3 := Lib.hid (below_regrown w2 dq osq)
    generalize grow (redrawn w2 dq) osq = w3 at *
    go_wp2_with fail
    go_ret
    exact ⟨by rw [F.out]; rfl, B2.out.trans (G3.out.mono B2.out.size)⟩
  have q2' : decide (T < 8) = false := decide_eq_false q2
  by_cases q3 : T < (n : Int)
  · have F : Hid (perr l s d = 4) := Lib.hid (by rw [E.out, if_neg (by omega), if_neg (by omega), if_pos (by omega)])
    have q3' : decide (T < (n : Int)) = true := decide_eq_true q3
    clear E hl
    go_wp2_with fail
    refine wp_region_quiet_below (by kernel_rfl) (by kernel_rfl) ?_
    repeat (quiet_step (with_reducible exact ln _ _))
    refine wpQuiet_nil ?_
    intro _ hw'
    obtain ⟨⟨dq, osq⟩, hw''⟩ := hw'
    subst hw''
    clear c0 c1 c2 ld ln
    have G3 := Lib.hid (below_regrown w2 dq osq)
    generalize grow (redrawn w2 dq) osq = w3 at *
    go_wp2_with fail
    go_ret
    exact ⟨by rw [F.out]; rfl, B2.out.trans (G3.out.mono B2.out.size)⟩
  have q3' : decide (T < (n : Int)) = false := decide_eq_false q3
  have F : Hid (perr l s d = if intact l s d then 0 else 5) := Lib.hid (by rw [E.out, if_neg (by omega), if_neg (by omega), if_neg (by omega)])
  clear E hl
  go_wp2_with fail
  refine wp_region_quiet_below (by kernel_rfl) (by kernel_rfl) ?_
  repeat (quiet_step (with_reducible exact ln _ _))
  refine wpQuiet_nil ?_
  intro _ hw'
  obtain ⟨⟨dq, osq⟩, hw''⟩ := hw'
  subst hw''
  clear c0 c1 c2 ld ln
  have G3 := Lib.hid (below_regrown w2 dq osq)
  generalize grow (redrawn w2 dq) osq = w3 at *
  have B3 := Lib.hid (B2.out.trans (G3.out.mono B2.out.size))
  have K3 := Lib.hid (K2.out.below G3.out K2.out.lt)
  have H3 := Lib.hid (H2.out.below (G3.out.mono (Nat.le_trans hB B2.out.size)))
  have IN := Lib.hid (intact_any s d A n c l w3 B H3.out (Nat.le_trans hB B3.out.size) h8 (by omega) hp)
  clear q1' q2' q3'
  generalize intact l s d = i at *
  go_wp2_with (refine Loads.wpList_load_w rfl 46 (.tmp 1) rfl w.heap.size rfl 46 #[.string s, .string d, .slice A n c] (0, 0) _ K3.out (Try.underlying46) rfl (by kernel_rfl) ?_)
  refine IN.out.mono ?_
  rintro e w4 ⟨rfl, hb⟩
  have B4 := Lib.hid (B3.out.trans (hb.mono B3.out.size))
  clear hb
  cases i
  · go_wp2_with fail
    go_ret
    exact ⟨by rw [F.out]; rfl, B4.out⟩
  · go_wp2_with fail
    go_ret
    exact ⟨by rw [F.out]; rfl, B4.out⟩

theorem examine_any (s d : ByteArray) (A : Option Addr) (n c : Nat) (l : List Int) (w : World) (B : Nat) (h : Holds w B A n c l) (hB : B ≤ w.heap.size) (hn : n ≤ 1048576) :
    Calls Try.prog 23 #[.agg #[.string s, .string d, .slice A n c]] w fun e w' => e = .returned (.int .i64 (perr l s d)) ∧ Below w.heap.size w w' := by
  cases hp : paired s d with
  | true =>
    by_cases h8 : n < 8
    · exact examine_short s d A n c l w B h hB h8 hp
    · exact examine_long s d A n c l w B h hB (by omega) hn hp
  | false =>
    have B0 := Lib.hid ((Below.refl w.heap.size w).alloc (Nat.le_refl _) (.cells #[.string s, .string d, .slice A n c] 46))
    have K0 := Lib.hid (Blk.new w 46 #[.string s, .string d, .slice A n c])
    have k0 := K0.out.cell 0
    have k1 := K0.out.cell 1
    have P := Lib.hid (fun W => paired_any s d W)
    rw [hp] at P
    have E : Hid (perr l s d = 1) := Lib.hid (by unfold perr; rw [hp, if_pos rfl])
    clear h hp
    go_enter Try.func23, Try.ntmps23
    go_wp2_with fail
    refine (P.out _).mono ?_
    rintro e w1 ⟨rfl, rfl⟩
    go_wp2_with fail
    go_ret
    exact ⟨by rw [E.out]; rfl, B0.out⟩
end Go.Proofs.Ytmpioomhimldaaa.Udp
