/- PmtuApart. -/
import Derived.Test.YtjeenmeoiidmnaaDoorPmtA
import Derived.Test.YtjeenmeoiidmnaaDoorPmt6
set_option linter.unusedVariables false
set_option maxRecDepth 100000
namespace Go.Proofs.YtjeenmeoiidmnaaDoor.LawApart21
open Go.RowKit Go.Proofs.YtjeenmeoiidmnaaDoor.Sums Go.Proofs.YtjeenmeoiidmnaaDoor.Mem Go.Proofs.YtjeenmeoiidmnaaDoor.Blk Go.Proofs.YtjeenmeoiidmnaaDoor.RowN Go.Proofs.YtjeenmeoiidmnaaDoor.MapK Go.Proofs.YtjeenmeoiidmnaaDoor.Obj Go.Proofs.YtjeenmeoiidmnaaDoor.PmtM Go.Proofs.YtjeenmeoiidmnaaDoor.PmtD Go.Proofs.YtjeenmeoiidmnaaDoor.Pmt1 Go.Proofs.YtjeenmeoiidmnaaDoor.Pmt3 Go.Proofs.YtjeenmeoiidmnaaDoor.Pmt5 Go.Proofs.YtjeenmeoiidmnaaDoor.Pmt6 Go.Proofs.YtjeenmeoiidmnaaDoor.PmtA

/-- The plain half: what one is told, and what is told of another. -/
theorem get_tell {now : Int} {a b : ByteArray} {y : Int} {es : List Ent} (h : a ≠ b) : MapK.get a (tellL now b y es) = MapK.get a es := by
  have hp : ∀ v, MapK.get a (put b v es) = MapK.get a es := fun v => by rw [get_put, if_neg h]
  unfold tellL
  split
  · rfl
  · split
    · split
      · rfl
      · split
        · exact hp _
        · rfl
    · split
      · exact hp _
      · rfl
theorem ask_tell {now : Int} {a b : ByteArray} {y n : Int} {es : List Ent} (h : a ≠ b) : askA now a n (tellL now b y es) = askA now a n es := by
  unfold askA known
  rw [get_tell h]
structure Facts (now : Int) (a b : ByteArray) (x y : Int) (m e k g : Int) (es1 es2 es3 : List Ent) : Prop where
  t1 : tellL now a x [] = es1
  a1 : askA now a 9000 es1 = (m, e)
  t2 : tellL now b y es1 = es2
  a2 : askA now a 9000 es2 = (m, e)
  t3 : tellA now a x es2 = (k, g)
  t3l : tellL now a x es2 = es3
  a3 : askA now a 9000 es3 = (m, e)
  fin : g = 0 → min k 9000 = m
theorem facts (now : Int) (a b : ByteArray) (x y : Int) (h : a ≠ b) : ∃ m e k g es1 es2 es3, Facts now a b x y m e k g es1 es2 es3 := by
  cases hl : least a with
  | none =>
    have t : ∀ es, tellA now a x es = (0, 1) ∧ tellL now a x es = es ∧ askA now a 9000 es = (0, 1) := fun es => by
      unfold tellA tellL askA
      rw [hl]
      exact ⟨rfl, rfl, rfl⟩
    exact ⟨0, 1, 0, 1, [], tellL now b y [], tellL now b y [], (t _).2.1, (t _).2.2, rfl, (t _).2.2, (t _).1, (t _).2.1, (t _).2.2, fun z => absurd z (by decide)⟩
  | some l =>
    have e1 : tellL now a x [] = [(a, (max x l, now))] := by
      have k0 : known now a [] = none := rfl
      have r0 : room a [] = true := rfl
      unfold tellL
      rw [hl]
      simp only [k0]
      rw [r0]
      rfl
    have k1 : ∀ es : List Ent, MapK.get a es = some (max x l, now) → known now a es = some (max x l) := fun es he => by
      have f : freshB now (max x l, now) = true := by unfold freshB; simp
      unfold known
      rw [he]
      show (if freshB now (max x l, now) = true then some (max x l) else none) = _
      rw [if_pos f]
    have a1 : ∀ es : List Ent, MapK.get a es = some (max x l, now) → askA now a 9000 es = (min 9000 (max x l), 0) := fun es he => by
      unfold askA
      rw [hl]
      simp only [k1 es he]
    have t1 : ∀ es : List Ent, MapK.get a es = some (max x l, now) → tellA now a x es = (max x l, 0) ∧ tellL now a x es = es := fun es he => by
      unfold tellA tellL
      rw [hl]
      simp only [k1 es he]
      exact ⟨if_pos (Int.le_refl _), if_pos (Int.le_refl _)⟩
    have g1 : MapK.get a [(a, (max x l, now))] = some (max x l, now) := by
      unfold MapK.get at_
      rw [if_pos rfl]
      rfl
    have g2 : MapK.get a (tellL now b y [(a, (max x l, now))]) = some (max x l, now) := by rw [get_tell h, g1]
    exact ⟨_, _, _, _, _, _, _, e1, a1 _ g1, rfl, a1 _ g2, (t1 _ g2).1, (t1 _ g2).2, a1 _ g2, fun _ => Int.min_comm _ _⟩
theorem str_eq (a b : ByteArray) : (a.toList == b.toList) = decide (a = b) := by
  by_cases h : a = b
  · rw [h, decide_eq_true rfl]; simp
  · rw [decide_eq_false h, beq_eq_false_iff_ne]
    exact fun z => h (toList_inj z)
set_option maxHeartbeats 4000000 in
theorem apart_any (a b : ByteArray) (x y now : Int) (w : World) (hT : Tab w) (ha : a.size ≤ 140737488355328) (hb : b.size ≤ 140737488355328) : Calls Tryd.prog 7 #[.string a, .string b, .int .i64 x, .int .i64 y, .int .i64 now] w fun e w' => e = .returned (.bool true) ∧ Below w.heap.size w w' := by
  have N0 := Lib.hid (new_c (fun k => k < w.heap.size) w (fun k hk => hk))
  have AW : Hid (∀ V, Below w.heap.size w V → Calls Tryd.prog 15 #[] V fun e w' => e = .returned (.bool true) ∧ Below V.heap.size V w') := Lib.hid fun V k => awake_any V (hT.up k (Nat.le_refl _))
  have f0 : IntKind.i64.wrap ((a.size : Int) + (b.size : Int)) = (a.size : Int) + (b.size : Int) := IntWalk.i64_in _ (by omega)
  clear hT ha hb
  by_cases bad : a = b ∨ 300 < a.size + b.size ∨ now < 0 ∨ 1000000 < now
  · have EARLY : (a.toList == b.toList) = true ∨ (a.toList == b.toList) = false ∧ (decide ((300 : Int) < (a.size : Int) + (b.size : Int)) = true ∨ decide ((300 : Int) < (a.size : Int) + (b.size : Int)) = false ∧ (decide (now < 0) = true ∨ decide (now < 0) = false ∧ decide (1000000 < now) = true)) := by
      rw [str_eq]
      by_cases ab : a = b
      · exact .inl (decide_eq_true ab)
      · refine .inr ⟨decide_eq_false ab, ?_⟩
        have bad2 : 300 < a.size + b.size ∨ now < 0 ∨ 1000000 < now := bad.resolve_left ab
        simp only [decide_eq_true_eq, decide_eq_false_iff_not]
        omega
    clear bad
    rcases EARLY with g1 | ⟨g1, g2 | ⟨g2, g3 | ⟨g3, g4⟩⟩⟩
    all_goals
      go_enter Tryd.func7, Tryd.ntmps7
      go_wp2_with fail
      refine N0.out.mono ?_
      rintro e w1 ⟨⟨g, rfl, hp⟩, hb⟩
      have B1 := Lib.hid hb
      clear hp hb N0
      go_wp2_with fail
      refine (AW.out w1 B1.out).mono ?_
      rintro e w2 ⟨rfl, hb⟩
      have B2 := Lib.hid (B1.out.trans (hb.mono B1.out.size))
      clear hb AW
      go_wp2_with fail
      go_ret
      exact ⟨rfl, B2.out⟩
  · have ab : a ≠ b := fun z => bad (.inl z)
    have n0 : 0 ≤ now ∧ now ≤ 1000000 := by omega
    have g1 : (a.toList == b.toList) = false := by rw [str_eq, decide_eq_false ab]
    have g2 : decide ((300 : Int) < (a.size : Int) + (b.size : Int)) = false := decide_eq_false (by omega)
    have g3 : decide (now < 0) = false := decide_eq_false (by omega)
    have g4 : decide (1000000 < now) = false := decide_eq_false (by omega)
    obtain ⟨m, er, k, gr, es1, es2, es3, FX⟩ := facts now a b x y ab
    have TC : Hid (∀ g V es d n, PcAt (fun k => k < w.heap.size) V g es → Calls Tryd.prog 12 #[.pointer (some ⟨g, 0, none⟩), .int .i64 now, .string d, .int .i64 n] V fun e w' => (e = .returned (.tuple #[.int .i64 (tellA now d n es).1, .int .i64 (tellA now d n es).2]) ∧ PcAt (fun k => k < w.heap.size) w' g (tellL now d n es)) ∧ Keep (fun k => k < w.heap.size) V w') := Lib.hid fun g V es d n h => tell_c _ g es now d n V h (by omega)
    have GC : Hid (∀ g V es n, askA now a n es = (m, er) → PcAt (fun k => k < w.heap.size) V g es → Calls Tryd.prog 10 #[.pointer (some ⟨g, 0, none⟩), .int .i64 now, .string a, .int .i64 n] V fun e w' => e = .returned (.tuple #[.int .i64 m, .int .i64 er]) ∧ Below V.heap.size V w') := Lib.hid fun g V es n he h => by
      have := get_c _ g es now a n V h (by omega) (by omega)
      rwa [he] at this
    have FX := Lib.hid FX
    have e1 : (m == m) = true := by simp
    have e2 : (er == er) = true := by simp
    have g5 : (gr != 0) = true ∨ (gr != 0) = false ∧ (min k 9000 == m) = true := by
      by_cases z : gr = 0
      · exact .inr ⟨by simp [z], by rw [beq_iff_eq]; exact FX.out.fin z⟩
      · exact .inl (by rw [bne_iff_ne]; exact z)
    have G5 := Lib.hid g5
    clear bad ab n0 g5
    go_enter Tryd.func7, Tryd.ntmps7
    go_wp2_with fail
    refine N0.out.mono ?_
    rintro e w1 ⟨⟨g, rfl, hp⟩, hb⟩
    have P1 := Lib.hid hp
    have B1 := Lib.hid hb
    clear hp hb N0
    go_wp2_with fail
    refine (TC.out g w1 _ a x P1.out).mono ?_
    rintro e w2 ⟨⟨rfl, hp⟩, hk⟩
    have P2 := Lib.hid hp
    rw [FX.out.t1] at P2
    have B2 := Lib.hid (B1.out.trans (hk.below B1.out.size fun k hk => hk))
    clear hp hk P1 B1
    go_wp2_with fail
    refine (GC.out g w2 _ 9000 FX.out.a1 P2.out).mono ?_
    rintro e w3 ⟨rfl, hb⟩
    have P3 := Lib.hid (P2.out.below hb)
    have B3 := Lib.hid (B2.out.trans (hb.mono B2.out.size))
    clear hb P2 B2
    go_wp2_with fail
    refine (TC.out g w3 _ b y P3.out).mono ?_
    rintro e w4 ⟨⟨rfl, hp⟩, hk⟩
    have P4 := Lib.hid hp
    rw [FX.out.t2] at P4
    have B4 := Lib.hid (B3.out.trans (hk.below B3.out.size fun k hk => hk))
    clear hp hk P3 B3
    go_wp2_with fail
    refine (GC.out g w4 _ 9000 FX.out.a2 P4.out).mono ?_
    rintro e w5 ⟨rfl, hb⟩
    have P5 := Lib.hid (P4.out.below hb)
    have B5 := Lib.hid (B4.out.trans (hb.mono B4.out.size))
    clear hb P4 B4
    go_wp2_with fail
    have TT := TC.out g w5 _ a x P5.out
    rw [FX.out.t3, FX.out.t3l] at TT
    refine TT.mono ?_
    rintro e w6 ⟨⟨rfl, hp⟩, hk⟩
    have P6 := Lib.hid hp
    have B6 := Lib.hid (B5.out.trans (hk.below B5.out.size fun k hk => hk))
    clear hp hk P5 B5 TT
    go_wp2_with fail
    refine (GC.out g w6 _ 9000 FX.out.a3 P6.out).mono ?_
    rintro e w7 ⟨rfl, hb⟩
    have B7 := Lib.hid (B6.out.trans (hb.mono B6.out.size))
    clear hb P6 B6
    go_wp2_with fail
    refine (AW.out w7 B7.out).mono ?_
    rintro e w8 ⟨rfl, hb⟩
    have B8 := Lib.hid (B7.out.trans (hb.mono B7.out.size))
    clear hb B7 AW
    rcases G5.out with q | ⟨q, q2⟩
    all_goals
      go_wp2_with fail
      go_ret
      exact ⟨rfl, B8.out⟩
end Go.Proofs.YtjeenmeoiidmnaaDoor.LawApart21
