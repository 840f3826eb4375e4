/- The document's window: the contract of Infer. -/
import Derived.Test.YtppnkkpjfjhfkaaDoorM05
import Derived.Test.YtppnkkpjfjhfkaaDoorM03
set_option linter.unusedVariables false
namespace Go.Proofs.YtppnkkpjfjhfkaaDoor.WinI
open Go.RowKit Go.Proofs.YtppnkkpjfjhfkaaDoor.Sums Go.Proofs.YtppnkkpjfjhfkaaDoor.Mem Go.Proofs.YtppnkkpjfjhfkaaDoor.Blk Go.Proofs.YtppnkkpjfjhfkaaDoor.Longs Go.Proofs.YtppnkkpjfjhfkaaDoor.WinD Go.Proofs.YtppnkkpjfjhfkaaDoor.WinR

set_option maxHeartbeats 2000000 in
theorem infer_ref (base g : Nat) (v : Value) (S : Nat) (wd : Bool) (l : List Nat) (low : Int) (w : World) (h : Win w base g v S wd l) :
    Calls Tryd.prog 48 #[.pointer (some ⟨g, 0, none⟩), .int .i64 low] w fun e w' => e = .returned (.tuple #[.int .u64 (((inf S wd l low).1 : Nat) : Int), .int .i64 (((inf S wd l low).2 : Nat) : Int)]) ∧ w = w' := by
  have C := Lib.hid (top_ref base g v S wd l w h)
  have c0 := h.size
  have c1 := h.wide
  have sb := h.sz
  have tb := top_lt h.lt
  unfold Q64 at tb
  obtain ⟨r, hr⟩ : ∃ r, r = inf S wd l low := ⟨_, rfl⟩
  rw [← hr]
  clear h
  by_cases hL : low < 0 ∨ 4294967295 < low
  · have E : Hid (r = (0, 1)) := Lib.hid (by rw [hr]; exact if_pos hL)
    clear hr C
    go_enter Tryd.func48, Tryd.ntmps48
    rcases hL with q | q
    · have g1 : decide (low < 0) = true := decide_eq_true q
      go_wp2_with fail
      go_ret2
      exact ⟨by rw [E.out]; rfl, rfl⟩
    · have g1 : decide (low < 0) = false := decide_eq_false (by omega)
      have g2 : decide (4294967295 < low) = true := decide_eq_true q
      go_wp2_with fail
      go_ret2
      exact ⟨by rw [E.out]; rfl, rfl⟩
  have l0 : 0 ≤ low := by omega
  have l1 : low ≤ 4294967295 := by omega
  have g1 : decide (low < 0) = false := decide_eq_false (by omega)
  have g2 : decide (4294967295 < low) = false := decide_eq_false (by omega)
  have fl : IntKind.u64.wrap low = low := IntWalk.u64_in _ (by omega)
  cases wd with
  | false =>
    have E : Hid (r = (low.toNat, 0)) := Lib.hid (by rw [hr]; unfold inf; rw [if_neg hL, if_pos rfl])
    have LT : Hid (((low.toNat : Nat) : Int) = low) := Lib.hid (by omega)
    clear hr C hL
    go_enter Tryd.func48, Tryd.ntmps48
    go_wp2_with fail
    go_ret2
    exact ⟨by rw [E.out]; show _ = Ending.returned (.tuple #[.int .u64 ((low.toNat : Nat) : Int), .int .i64 0]); rw [LT.out]; rfl, rfl⟩
  | true =>
    obtain ⟨X, hX⟩ : ∃ X, X = hi S (top l) low.toNat := ⟨_, rfl⟩
    have RE : Hid (r = if X < 0 ∨ 4294967295 < X then (0, 120) else (4294967296 * X.toNat + low.toNat, 0)) := Lib.hid (by rw [hr, hX]; unfold inf; rw [if_neg hL, if_neg (by decide)])
    have LT : ((low.toNat : Nat) : Int) = low := by omega
    generalize top l = t at *
    obtain ⟨a, ha⟩ : ∃ a : Int, a = ((t % 4294967296 : Nat) : Int) := ⟨_, rfl⟩
    obtain ⟨b, hb⟩ : ∃ b : Int, b = ((t / 4294967296 : Nat) : Int) := ⟨_, rfl⟩
    obtain ⟨s, hs⟩ : ∃ s : Int, s = (S : Int) := ⟨_, rfl⟩
    unfold hi at hX
    rw [← ha, ← hb, ← hs, LT] at hX
    rw [← hs] at c0
    have ta : ((t : Int)).tmod 4294967296 = a := by rw [Int.tmod_eq_emod_of_nonneg (by omega)]; omega
    have tq : ((t : Int)).tdiv 4294967296 = b := by rw [Int.tdiv_eq_ediv_of_nonneg (by omega)]; omega
    have a0 : 0 ≤ a := by omega
    have a1 : a ≤ 4294967295 := by omega
    have b0 : 0 ≤ b := by omega
    have b1 : b ≤ 4294967295 := by omega
    have s0 : 0 ≤ s := by omega
    have s1 : s ≤ 1048576 := by omega
    clear ha hb hs hr sb
    have u1 : IntKind.u64.wrap a = a := IntWalk.u64_in _ (by omega)
    have u2 : IntKind.u64.wrap b = b := IntWalk.u64_in _ (by omega)
    have i1 : IntKind.i64.wrap a = a := IntWalk.i64_in _ (by omega)
    have i2 : IntKind.i64.wrap b = b := IntWalk.i64_in _ (by omega)
    obtain ⟨p, hp⟩ : ∃ p, p = s - 1 := ⟨_, rfl⟩
    have f7 : IntKind.i64.wrap (s - 1) = p := by rw [IntWalk.i64_in _ (by omega), hp]
    obtain ⟨d1, hd1⟩ : ∃ d, d = a - s := ⟨_, rfl⟩
    obtain ⟨d2, hd2⟩ : ∃ d, d = d1 + 1 := ⟨_, rfl⟩
    have f8 : IntKind.i64.wrap (a - s) = d1 := by rw [IntWalk.i64_in _ (by omega), hd1]
    have f8b : IntKind.i64.wrap (d1 + 1) = d2 := by rw [IntWalk.i64_in _ (by omega), hd2]
    obtain ⟨e1, he1⟩ : ∃ d, d = 4294967296 + a := ⟨_, rfl⟩
    obtain ⟨e2, he2⟩ : ∃ d, d = e1 - s := ⟨_, rfl⟩
    obtain ⟨e3, he3⟩ : ∃ d, d = e2 + 1 := ⟨_, rfl⟩
    have f10 : IntKind.i64.wrap (4294967296 + a) = e1 := by rw [IntWalk.i64_in _ (by omega), he1]
    have f10b : IntKind.i64.wrap (e1 - s) = e2 := by rw [IntWalk.i64_in _ (by omega), he2]
    have f10c : IntKind.i64.wrap (e2 + 1) = e3 := by rw [IntWalk.i64_in _ (by omega), he3]
    obtain ⟨bp, hbp⟩ : ∃ d, d = b + 1 := ⟨_, rfl⟩
    obtain ⟨bm, hbm⟩ : ∃ d, d = b - 1 := ⟨_, rfl⟩
    have f9 : IntKind.i64.wrap (b + 1) = bp := by rw [IntWalk.i64_in _ (by omega), hbp]
    have f11 : IntKind.i64.wrap (b - 1) = bm := by rw [IntWalk.i64_in _ (by omega), hbm]
    rw [← hp, ← hd1, ← hd2, ← he1, ← he2, ← he3, ← hbp, ← hbm] at hX
    have XB : -1 ≤ X ∧ X ≤ 4294967296 := by
      rw [hX]
      repeat (split)
      all_goals omega
    have HX := Lib.hid hX
    clear hX hp hd1 hd2 he1 he2 he3 hL tb
    have HB := Lib.hid (And.intro (And.intro hbp hbm) (And.intro b0 b1))
    clear hbp hbm
    go_enter Tryd.func48, Tryd.ntmps48
    go_wp2_with fail
    refine C.out.mono ?_
    rintro e w' ⟨rfl, rfl⟩
    go_wp2_with fail
    refine C.out.mono ?_
    rintro e w' ⟨rfl, rfl⟩
    clear C c1
    by_cases q7 : p ≤ a
    · have g7 : decide (p ≤ a) = true := decide_eq_true q7
      by_cases q8 : low < d2
      · have g8 : decide (low < d2) = true := decide_eq_true q8
        have XE : X = bp := by rw [HX.out, if_pos q7, if_pos q8]
        clear HX
        subst XE
        by_cases t0 : X < 0
        · have E : Hid (r = (0, 120)) := Lib.hid (by rw [RE.out, if_pos (Or.inl t0)])
          have k0 : decide (X < 0) = true := decide_eq_true t0
          clear RE HB
          go_wp2_with fail
          go_ret2
          exact ⟨by rw [E.out]; rfl, rfl⟩
        have k0 : decide (X < 0) = false := decide_eq_false t0
        by_cases t1 : 4294967295 < X
        · have E : Hid (r = (0, 120)) := Lib.hid (by rw [RE.out, if_pos (Or.inr t1)])
          have k1 : decide (4294967295 < X) = true := decide_eq_true t1
          clear RE HB
          go_wp2_with fail
          go_ret2
          exact ⟨by rw [E.out]; rfl, rfl⟩
        have k1 : decide (4294967295 < X) = false := decide_eq_false t1
        have E : Hid (r = (4294967296 * X.toNat + low.toNat, 0)) := Lib.hid (by rw [RE.out, if_neg (by omega)])
        have v1 : IntKind.u64.wrap X = X := IntWalk.u64_in _ (by omega)
        obtain ⟨Y, hY⟩ : ∃ Y, Y = 4294967296 * X := ⟨_, rfl⟩
        have v2 : IntKind.u64.wrap (4294967296 * X) = Y := by rw [IntWalk.u64_in _ (by omega), hY]
        obtain ⟨Z, hZ⟩ : ∃ Z, Z = Y + low := ⟨_, rfl⟩
        have v3 : IntKind.u64.wrap (Y + low) = Z := by rw [IntWalk.u64_in _ (by omega), hZ]
        have ZE : Hid (Z = ((4294967296 * X.toNat + low.toNat : Nat) : Int)) := Lib.hid (by omega)
        clear RE HB hY hZ LT
        go_wp2_with fail
        go_ret2
        exact ⟨by rw [E.out]; show _ = Ending.returned (.tuple #[.int .u64 ((4294967296 * X.toNat + low.toNat : Nat) : Int), .int .i64 0]); rw [← ZE.out]; rfl, rfl⟩
      · have g8 : decide (low < d2) = false := decide_eq_false q8
        have XE : X = b := by rw [HX.out, if_pos q7, if_neg q8]
        clear HX
        subst XE
        have t0 : ¬ (X < 0) := by omega
        have k0 : decide (X < 0) = false := decide_eq_false t0
        have t1 : ¬ (4294967295 < X) := by omega
        have k1 : decide (4294967295 < X) = false := decide_eq_false t1
        have E : Hid (r = (4294967296 * X.toNat + low.toNat, 0)) := Lib.hid (by rw [RE.out, if_neg (by omega)])
        have v1 : IntKind.u64.wrap X = X := IntWalk.u64_in _ (by omega)
        obtain ⟨Y, hY⟩ : ∃ Y, Y = 4294967296 * X := ⟨_, rfl⟩
        have v2 : IntKind.u64.wrap (4294967296 * X) = Y := by rw [IntWalk.u64_in _ (by omega), hY]
        obtain ⟨Z, hZ⟩ : ∃ Z, Z = Y + low := ⟨_, rfl⟩
        have v3 : IntKind.u64.wrap (Y + low) = Z := by rw [IntWalk.u64_in _ (by omega), hZ]
        have ZE : Hid (Z = ((4294967296 * X.toNat + low.toNat : Nat) : Int)) := Lib.hid (by omega)
        clear RE HB hY hZ LT
        go_wp2_with fail
        go_ret2
        exact ⟨by rw [E.out]; show _ = Ending.returned (.tuple #[.int .u64 ((4294967296 * X.toNat + low.toNat : Nat) : Int), .int .i64 0]); rw [← ZE.out]; rfl, rfl⟩
    · have g7 : decide (p ≤ a) = false := decide_eq_false q7
      by_cases q8 : e3 ≤ low
      · have g8 : decide (e3 ≤ low) = true := decide_eq_true q8
        have XE : X = bm := by rw [HX.out, if_neg q7, if_pos q8]
        clear HX
        subst XE
        by_cases t0 : X < 0
        · have E : Hid (r = (0, 120)) := Lib.hid (by rw [RE.out, if_pos (Or.inl t0)])
          have k0 : decide (X < 0) = true := decide_eq_true t0
          clear RE HB
          go_wp2_with fail
          go_ret2
          exact ⟨by rw [E.out]; rfl, rfl⟩
        have k0 : decide (X < 0) = false := decide_eq_false t0
        by_cases t1 : 4294967295 < X
        · have E : Hid (r = (0, 120)) := Lib.hid (by rw [RE.out, if_pos (Or.inr t1)])
          have k1 : decide (4294967295 < X) = true := decide_eq_true t1
          clear RE HB
          go_wp2_with fail
          go_ret2
          exact ⟨by rw [E.out]; rfl, rfl⟩
        have k1 : decide (4294967295 < X) = false := decide_eq_false t1
        have E : Hid (r = (4294967296 * X.toNat + low.toNat, 0)) := Lib.hid (by rw [RE.out, if_neg (by omega)])
        have v1 : IntKind.u64.wrap X = X := IntWalk.u64_in _ (by omega)
        obtain ⟨Y, hY⟩ : ∃ Y, Y = 4294967296 * X := ⟨_, rfl⟩
        have v2 : IntKind.u64.wrap (4294967296 * X) = Y := by rw [IntWalk.u64_in _ (by omega), hY]
        obtain ⟨Z, hZ⟩ : ∃ Z, Z = Y + low := ⟨_, rfl⟩
        have v3 : IntKind.u64.wrap (Y + low) = Z := by rw [IntWalk.u64_in _ (by omega), hZ]
        have ZE : Hid (Z = ((4294967296 * X.toNat + low.toNat : Nat) : Int)) := Lib.hid (by omega)
        clear RE HB hY hZ LT
        go_wp2_with fail
        go_ret2
        exact ⟨by rw [E.out]; show _ = Ending.returned (.tuple #[.int .u64 ((4294967296 * X.toNat + low.toNat : Nat) : Int), .int .i64 0]); rw [← ZE.out]; rfl, rfl⟩
      · have g8 : decide (e3 ≤ low) = false := decide_eq_false q8
        have XE : X = b := by rw [HX.out, if_neg q7, if_neg q8]
        clear HX
        subst XE
        have t0 : ¬ (X < 0) := by omega
        have k0 : decide (X < 0) = false := decide_eq_false t0
        have t1 : ¬ (4294967295 < X) := by omega
        have k1 : decide (4294967295 < X) = false := decide_eq_false t1
        have E : Hid (r = (4294967296 * X.toNat + low.toNat, 0)) := Lib.hid (by rw [RE.out, if_neg (by omega)])
        have v1 : IntKind.u64.wrap X = X := IntWalk.u64_in _ (by omega)
        obtain ⟨Y, hY⟩ : ∃ Y, Y = 4294967296 * X := ⟨_, rfl⟩
        have v2 : IntKind.u64.wrap (4294967296 * X) = Y := by rw [IntWalk.u64_in _ (by omega), hY]
        obtain ⟨Z, hZ⟩ : ∃ Z, Z = Y + low := ⟨_, rfl⟩
        have v3 : IntKind.u64.wrap (Y + low) = Z := by rw [IntWalk.u64_in _ (by omega), hZ]
        have ZE : Hid (Z = ((4294967296 * X.toNat + low.toNat : Nat) : Int)) := Lib.hid (by omega)
        clear RE HB hY hZ LT
        go_wp2_with fail
        go_ret2
        exact ⟨by rw [E.out]; show _ = Ending.returned (.tuple #[.int .u64 ((4294967296 * X.toNat + low.toNat : Nat) : Int), .int .i64 0]); rw [← ZE.out]; rfl, rfl⟩
end Go.Proofs.YtppnkkpjfjhfkaaDoor.WinI

/- The document's associations in memory. -/
set_option linter.unusedVariables false
namespace Go.Proofs.YtppnkkpjfjhfkaaDoor.SadM
open Go.RowKit Go.Proofs.YtppnkkpjfjhfkaaDoor.Mem Go.Proofs.YtppnkkpjfjhfkaaDoor.Blk Go.Proofs.YtppnkkpjfjhfkaaDoor.ArgT Go.Proofs.YtppnkkpjfjhfkaaDoor.Longs Go.Proofs.YtppnkkpjfjhfkaaDoor.WinR

/-- An association: its life, when it was added, how many bytes, its last number, what its window has accepted. -/
structure Ent where
  life : LifeR
  born : Int
  bytes : Int
  last : Nat
  acc : List Nat
/-- Where it lies: its block, its window's block, its window's row. -/
structure Spot where
  g : Nat
  gw : Nat
  v : Value
def ptr (g : Nat) : Value := .pointer (some ⟨g, 0, none⟩)
def ecells (e : Ent) (gw : Nat) : Array Value := #[.int .i64 e.life.x0, .string e.life.x1, .string e.life.x2, .string e.life.x3, .bool e.life.x4, .int .i64 e.life.x5, .int .i64 e.life.x6, .bool e.life.x7, .int .i64 e.life.x8, .int .i64 e.life.x9, .int .i64 e.life.x10, .int .i64 e.life.x11, .int .i64 e.born, .int .i64 e.bytes, .int .u64 (e.last : Int), ptr gw]
/-- A row of pointers that the call owns. -/
def POwn (w : World) (base : Nat) (v : Value) (gs : List Nat) : Prop := w.ownsRow base 69 1 v gs.length (gs.map ptr)
structure SadAt (w : World) (base gs : Nat) (vl : Value) (ls : List Spot) (es : List Ent) : Prop where
  blk : Blk w gs 29 #[vl]
  own : POwn w base vl (ls.map (·.g))
  len : ls.length = es.length
  ent : ∀ (i : Nat) l e, ls[i]? = some l → es[i]? = some e → Blk w l.g 68 (ecells e l.gw) ∧ Win w base l.gw l.v e.life.x5.toNat e.life.x4 e.acc ∧ 64 ≤ e.life.x5 ∧ e.life.x5 ≤ 1024 ∧ e.last < Q64
  tag : ∃ T : Nat → Nat × Nat, T gs = (0, 0) ∧ (∀ k, vl.ownBlock = some k → T k = (1, 0)) ∧ ∀ l ∈ ls, T l.g = (2, l.g) ∧ T l.gw = (3, l.g) ∧ ∀ k, l.v.ownBlock = some k → T k = (4, l.g)
  nodup : (ls.map (·.g)).Nodup
  ge : base ≤ gs ∧ ∀ l ∈ ls, base ≤ l.g ∧ base ≤ l.gw

theorem POwn.shape {w : World} {base : Nat} {v : Value} {gs : List Nat} (h : POwn w base v gs) : ∃ A c, v = .slice A gs.length c ∧ (0 < gs.length → ∃ b, A = some ⟨b, 0, none⟩ ∧ ∀ (k g : Nat), gs[k]? = some g → w.cell? ⟨b, k, none⟩ = some (ptr g)) := by
  rcases h.2 with ⟨hv, h0⟩ | ⟨g, cap, cur, hv, hlt, hh, hnc, hcap⟩
  · exact ⟨none, 0, by rw [hv, h0], fun z => absurd z (by omega)⟩
  · refine ⟨some ⟨g, 0, none⟩, cap, hv, fun z => ⟨g, rfl, fun k x hk => ?_⟩⟩
    have := h.cells (g := g) (by rw [hv]; rfl) k (ptr x) (by rw [List.getElem?_map, hk]; rfl)
    rw [add_plain] at this
    simpa using this
theorem POwn.up {w w' : World} {base : Nat} {v : Value} {gs : List Nat} (h : POwn w base v gs) (hb : Below w.heap.size w w') : POwn w' base v gs :=
  World.ownsRow.kept (row := none) h ⟨hb.os, hb.tape, hb.output, hb.size, fun k hk _ => hb.block k hk⟩ (by cases hv : v.ownBlock <;> simp)
section
variable {w w' : World} {base gs : Nat} {vl : Value} {ls : List Spot} {es : List Ent}
theorem SadAt.up (h : SadAt w base gs vl ls es) (hb : Below w.heap.size w w') : SadAt w' base gs vl ls es :=
  ⟨Blk.below h.blk hb (Blk.lt h.blk), h.own.up hb, h.len, fun i l e h1 h2 => by
    obtain ⟨a, b, c⟩ := h.ent i l e h1 h2
    exact ⟨Blk.below a hb (Blk.lt a), b.up hb, c⟩, h.tag, h.nodup, h.ge⟩
end
end Go.Proofs.YtppnkkpjfjhfkaaDoor.SadM

