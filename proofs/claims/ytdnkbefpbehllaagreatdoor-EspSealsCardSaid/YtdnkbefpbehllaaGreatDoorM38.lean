/- The document's Open. -/
import Derived.Test.YtdnkbefpbehllaaGreatDoorM37
set_option linter.unusedVariables false
namespace Go.Proofs.YtdnkbefpbehllaaGreatDoor.EspR4
open Go.RowKit Go.Proofs.YtdnkbefpbehllaaGreatDoor.Sums Go.Proofs.YtdnkbefpbehllaaGreatDoor.Mem Go.Proofs.YtdnkbefpbehllaaGreatDoor.Blk Go.Proofs.YtdnkbefpbehllaaGreatDoor.Free Go.Proofs.YtdnkbefpbehllaaGreatDoor.Steps Go.Proofs.YtdnkbefpbehllaaGreatDoor.Regs Go.Proofs.YtdnkbefpbehllaaGreatDoor.Bits3 Go.Proofs.YtdnkbefpbehllaaGreatDoor.Ints Go.Proofs.YtdnkbefpbehllaaGreatDoor.AesB Go.Proofs.YtdnkbefpbehllaaGreatDoor.PadR Go.Proofs.YtdnkbefpbehllaaGreatDoor.EspD Go.Proofs.YtdnkbefpbehllaaGreatDoor.EspR1
open Go.Proofs.YtdnkbefpbehllaaGreatDoor.CtrD (four four_byt)
open Go.Proofs.YtdnkbefpbehllaaGreatDoor.EspR2 Go.Proofs.YtdnkbefpbehllaaGreatDoor.EspR3 Go.Proofs.YtdnkbefpbehllaaGreatDoor.AesK Go.Proofs.YtdnkbefpbehllaaGreatDoor.Cut Go.Proofs.YtdnkbefpbehllaaGreatDoor.PadO
open Go.Proofs.YtdnkbefpbehllaaGreatDoor.AesR3 (nats_byt)

def opX (sp : Int) (ky sl mc : ByteArray) (es : Bool) (wn : Int) (q : Nat) (l : List Int) : List Int := if openE sp ky sl mc es wn q l = 0 then openO ky sl l else []
def opY (sp : Int) (ky sl mc : ByteArray) (es : Bool) (wn : Int) (q : Nat) (l : List Int) : Int := if openE sp ky sl mc es wn q l = 0 then openY ky sl l else 0
def Ans3 (w : World) (X : List Int) (y : Int) (er : Nat) (e : Ending) (w' : World) : Prop := ∃ v, e = .returned (.tuple #[v, .int .i64 y, .int .i64 (er : Int)]) ∧ Lies w' v X.length X ∧ Below w.heap.size w w'
theorem lies_nil (w : World) : Lies w (.slice none 0 0) ([] : List Int).length [] := ⟨none, 0, rfl, Holds.nil _ _ _⟩
theorem ans_err (sp : Int) (ky sl mc : ByteArray) (es : Bool) (wn : Int) (q : Nat) (l : List Int) {w w' : World} {e : Ending} {k : Nat} (hk : openE sp ky sl mc es wn q l = k) (h0 : k ≠ 0) (he : e = .returned (.tuple #[.slice none 0 0, .int .i64 0, .int .i64 (k : Int)])) (hb : Below w.heap.size w w') : Ans3 w (opX sp ky sl mc es wn q l) (opY sp ky sl mc es wn q l) (openE sp ky sl mc es wn q l) e w' := by
  have x : opX sp ky sl mc es wn q l = [] := by unfold opX; rw [hk, if_neg h0]
  have y : opY sp ky sl mc es wn q l = 0 := by unfold opY; rw [hk, if_neg h0]
  rw [x, y, hk]
  exact ⟨_, he, lies_nil _, hb⟩
theorem ans_ok (sp : Int) (ky sl mc : ByteArray) (es : Bool) (wn : Int) (q : Nat) (l : List Int) {w w' : World} {e : Ending} (h0 : openE sp ky sl mc es wn q l = 0) (A : Option Addr) (c : Nat) {N : Nat} (hN : (openO ky sl l).length = N) (hh : Holds w' w'.heap.size A N c (openO ky sl l)) {y : Int} (hy : openY ky sl l = y)
    (he : e = .returned (.tuple #[.slice A N c, .int .i64 y, .int .i64 0])) (hb : Below w.heap.size w w') : Ans3 w (opX sp ky sl mc es wn q l) (opY sp ky sl mc es wn q l) (openE sp ky sl mc es wn q l) e w' := by
  subst hN hy
  have x : opX sp ky sl mc es wn q l = openO ky sl l := by unfold opX; rw [h0, if_pos rfl]
  have z : opY sp ky sl mc es wn q l = openY ky sl l := by unfold opY; rw [h0, if_pos rfl]
  rw [x, z, h0]
  exact ⟨_, he, ⟨A, c, rfl, hh⟩, hb⟩
theorem num4_in {l : List Int} (h : Bytes l) (k : Nat) : 0 ≤ num4 l k ∧ num4 l k ≤ 4294967295 := by
  have d0 := getD_in h k
  have d1 := getD_in h (k + 1)
  have d2 := getD_in h (k + 2)
  have d3 := getD_in h (k + 3)
  unfold num4
  omega
theorem b_nes (s t : ByteArray) (r : Bool) (h : (s.toList == t.toList) = r) (x y : Operand) (w : World) : (do eqGuard .neq 9 x y (.string s) (.string t); binOp .neq 9 (.string s) (.string t) : Sem Value).run Tryz.prog w = .ok (.bool (!r)) w := by
  subst h
  simp [go_sem, eqGuard]
theorem list3 {f : Operand → Value} {x y z : Operand} {u v t : Value} (h1 : f x = u) (h2 : f y = v) (h3 : f z = t) : [x, y, z].map f = [u, v, t] := by simp [h1, h2, h3]
theorem list4 {f : Operand → Value} {x y z a : Operand} {u v t b : Value} (h1 : f x = u) (h2 : f y = v) (h3 : f z = t) (h4 : f a = b) : [x, y, z, a].map f = [u, v, t, b] := by simp [h1, h2, h3, h4]
theorem ent_tag14 : Enters Tryz.prog 31 := enters_of Tryz.func31 (by kernel_rfl) rfl
theorem ent_turn09 : Enters Tryz.prog 29 := enters_of Tryz.func29 (by kernel_rfl) rfl

set_option maxRecDepth 100000 in
set_option maxHeartbeats 2000000 in
theorem open_arg14 (sp : Int) (ky sl mc : ByteArray) (es : Bool) (wn : Int) (q : Nat) (A : Option Addr) (n c : Nat) (w : World) (h : (may sp ky sl mc wn && num es q) = false) :
    Calls Tryz.prog 15 #[.agg #[.int .i64 sp, .string ky, .string sl, .string mc, .bool es, .int .i64 wn], .int .u64 (q : Int), .slice A n c] w fun e w' => e = .returned (.tuple #[.slice none 0 0, .int .i64 0, .int .i64 1]) ∧ Below w.heap.size w w' := by
  have M := Lib.hid (may_ref sp ky sl mc es wn)
  have NU := Lib.hid (number_ref sp ky sl mc es wn q)
  generalize may sp ky sl mc wn = bm at *
  obtain ⟨bn, hbn⟩ : ∃ bn, bn = num es q := ⟨_, rfl⟩
  rw [← hbn] at h NU
  clear hbn
  have K1 := Lib.hid (Blk.new w 23 #[.int .i64 sp, .string ky, .string sl, .string mc, .bool es, .int .i64 wn])
  have B0 := Lib.hid ((Below.refl w.heap.size w).alloc (Nat.le_refl _) (.cells #[.int .i64 sp, .string ky, .string sl, .string mc, .bool es, .int .i64 wn] 23))
  cases bm with
  | false =>
    clear h
    go_enter Tryz.func15, Tryz.ntmps15
    go_wp2_with (refine Loads.wpList_load_w rfl 23 (.tmp 3) rfl w.heap.size rfl 23 #[.int .i64 sp, .string ky, .string sl, .string mc, .bool es, .int .i64 wn] (0, 0) _ (K1.out) Tryz.underlying23 rfl (by kernel_rfl) ?_)
    refine (M.out _).mono ?_
    rintro e w2 ⟨rfl, hb⟩
    have B2 := Lib.hid (B0.out.trans (hb.mono (by simp)))
    clear hb
    go_wp2_with fail
    go_ret3
    exact ⟨rfl, B2.out⟩
  | true =>
    cases bn with
    | true => cases h
    | false =>
      clear h
      go_enter Tryz.func15, Tryz.ntmps15
      go_wp2_with (refine Loads.wpList_load_w rfl 23 (.tmp 3) rfl w.heap.size rfl 23 #[.int .i64 sp, .string ky, .string sl, .string mc, .bool es, .int .i64 wn] (0, 0) _ (K1.out) Tryz.underlying23 rfl (by kernel_rfl) ?_)
      refine (M.out _).mono ?_
      rintro e w2 ⟨rfl, hb⟩
      have B2 := Lib.hid (B0.out.trans (hb.mono (by simp)))
      have K2 := Lib.hid (Blk.below K1.out hb (Blk.lt K1.out))
      clear hb
      go_wp2_with (refine Loads.wpList_load_w rfl 23 (.tmp 3) rfl w.heap.size rfl 23 #[.int .i64 sp, .string ky, .string sl, .string mc, .bool es, .int .i64 wn] (0, 0) _ (K2.out) Tryz.underlying23 rfl (by kernel_rfl) ?_)
      refine (NU.out _).mono ?_
      rintro e w3 ⟨rfl, hb⟩
      have B3 := Lib.hid (B2.out.trans (hb.mono B2.out.size))
      clear hb
      go_wp2_with fail
      go_ret3
      exact ⟨rfl, B3.out⟩

set_option maxRecDepth 100000 in
set_option maxHeartbeats 2000000 in
theorem open_more14 (sp : Int) (ky sl mc : ByteArray) (es : Bool) (wn : Int) (q : Nat) (A : Option Addr) (n c : Nat) (w : World) (hm : may sp ky sl mc wn = true) (hu : num es q = true) (hn : n < 36) :
    Calls Tryz.prog 15 #[.agg #[.int .i64 sp, .string ky, .string sl, .string mc, .bool es, .int .i64 wn], .int .u64 (q : Int), .slice A n c] w fun e w' => e = .returned (.tuple #[.slice none 0 0, .int .i64 0, .int .i64 8]) ∧ Below w.heap.size w w' := by
  have M := Lib.hid (may_ref sp ky sl mc es wn)
  have NU := Lib.hid (number_ref sp ky sl mc es wn q)
  rw [hm] at M
  rw [hu] at NU
  have K1 := Lib.hid (Blk.new w 23 #[.int .i64 sp, .string ky, .string sl, .string mc, .bool es, .int .i64 wn])
  have B0 := Lib.hid ((Below.refl w.heap.size w).alloc (Nat.le_refl _) (.cells #[.int .i64 sp, .string ky, .string sl, .string mc, .bool es, .int .i64 wn] 23))
  have g1 : decide ((n : Int) < 36) = true := decide_eq_true (by omega)
  clear hm hu hn
  go_enter Tryz.func15, Tryz.ntmps15
  go_wp2_with (refine Loads.wpList_load_w rfl 23 (.tmp 3) rfl w.heap.size rfl 23 #[.int .i64 sp, .string ky, .string sl, .string mc, .bool es, .int .i64 wn] (0, 0) _ (K1.out) Tryz.underlying23 rfl (by kernel_rfl) ?_)
  refine (M.out _).mono ?_
  rintro e w2 ⟨rfl, hb⟩
  have B2 := Lib.hid (B0.out.trans (hb.mono (by simp)))
  have K2 := Lib.hid (Blk.below K1.out hb (Blk.lt K1.out))
  clear hb K1
  go_wp2_with (refine Loads.wpList_load_w rfl 23 (.tmp 3) rfl w.heap.size rfl 23 #[.int .i64 sp, .string ky, .string sl, .string mc, .bool es, .int .i64 wn] (0, 0) _ (K2.out) Tryz.underlying23 rfl (by kernel_rfl) ?_)
  refine (NU.out _).mono ?_
  rintro e w3 ⟨rfl, hb⟩
  have B3 := Lib.hid (B2.out.trans (hb.mono B2.out.size))
  have K3 := Lib.hid (Blk.below K2.out hb (Blk.lt K2.out))
  clear hb K2
  go_wp2_with fail
  go_ret3
  exact ⟨rfl, B3.out⟩

attribute [local irreducible] wpQuiet
set_option maxRecDepth 100000 in
set_option maxHeartbeats 4000000 in
theorem open_form14 (sp : Int) (ky sl mc : ByteArray) (es : Bool) (wn : Int) (q : Nat) (hq : q < 18446744073709551616) (A : Option Addr) (n c : Nat) (l : List Int) (w : World) (B : Nat) (h : Holds w B A n c l) (hB : B ≤ w.heap.size) (hm : may sp ky sl mc wn = true) (hu : num es q = true) (hn : 36 ≤ n) (hn2 : n ≤ 60000) :
    Calls Tryz.prog 15 #[.agg #[.int .i64 sp, .string ky, .string sl, .string mc, .bool es, .int .i64 wn], .int .u64 (q : Int), .slice A n c] w (Ans3 w (opX sp ky sl mc es wn q l) (opY sp ky sl mc es wn q l) (openE sp ky sl mc es wn q l)) := by
  have hl := h.1
  have NB := num4_in h.2.2.2.1 4
  have N0 := num4_in h.2.2.2.1 0
  have MF := may_facts hm
  have M := Lib.hid (may_ref sp ky sl mc es wn)
  have NU := Lib.hid (number_ref sp ky sl mc es wn q)
  rw [hm] at M
  rw [hu] at NU
  have K1 := Lib.hid (Blk.new w 23 #[.int .i64 sp, .string ky, .string sl, .string mc, .bool es, .int .i64 wn])
  have B0 := Lib.hid ((Below.refl w.heap.size w).alloc (Nat.le_refl _) (.cells #[.int .i64 sp, .string ky, .string sl, .string mc, .bool es, .int .i64 wn] 23))
  have g1 : decide ((n : Int) < 36) = false := decide_eq_false (by omega)
  obtain ⟨E, hE⟩ : ∃ E, E = n - 16 := ⟨_, rfl⟩
  have EE : endN l = E := by unfold endN; rw [hl, hE]
  have f1 : IntKind.i64.wrap ((n : Int) - 16) = (E : Int) := by rw [IntWalk.i64_in _ (by omega)]; omega
  have f2 : ((E : Int)).tmod 4 = ((E % 4 : Nat) : Int) := by rw [Int.tmod_eq_emod_of_nonneg (by omega)]; rfl
  have f3 : ((q : Int)).tmod 4294967296 = ((loN q : Nat) : Int) := by rw [Int.tmod_eq_emod_of_nonneg (by omega)]; rfl
  obtain ⟨b, p, rfl, hbB, _⟩ := h.2.2.2.2 (by omega)
  obtain ⟨b', p', e, h4⟩ := h.from_ (k := 4) (by omega)
  injection e with e
  injection e with e1 e2
  subst e1 e2
  have hc := h.2.1
  have HH := Lib.hid h
  have H4 := Lib.hid h4
  have HB := Lib.hid hB
  have C0 : Hid (∀ V, (Holds V B (some ⟨b, p, none⟩) n c l) → ∀ k, Calls Tryz.prog 39 #[.slice (some ⟨b, p, none⟩) n c] (V.drewN k) fun e w' => e = .returned (.int .i64 (num4 l 0)) ∧ ∃ m, w' = (V.drewN k).drewN m) := Lib.hid fun V hV k => four_num b p n c l _ B (hV.keep fun _ _ _ => rfl) (by omega)
  have C4 : Hid (∀ V, (Holds V B (some ⟨b, p + 4, none⟩) (n - 4) (c - 4) (l.drop 4)) → ∀ k, Calls Tryz.prog 39 #[.slice (some ⟨b, p + 4, none⟩) (n - 4) (c - 4)] (V.drewN k) fun e w' => e = .returned (.int .i64 (num4 l 4)) ∧ ∃ m, w' = (V.drewN k).drewN m) := Lib.hid fun V hV k => by
    have := four_num b (p + 4) (n - 4) (c - 4) (l.drop 4) (V.drewN k) B (hV.keep fun _ _ _ => rfl) (by omega)
    rw [num4_drop] at this
    exact this
  have cu : ∀ W, (Instr.sliceAt 25 (.slice (some ⟨b, p, none⟩) n c) (some (.int .i64 4)) none none).run Tryz.prog W = .ok (.slice (some ⟨b, p + 4, none⟩) (n - 4) (c - 4)) W := fun W => Cut.cut_l b p n c 4 W (by omega) hc (by omega)
  have OE : Hid (openE sp ky sl mc es wn q l = if formB sp q l = false then 4 else if icvB mc es q l = false then 110 else if okO (plainL ky sl l) = false then 130 else 0) := Lib.hid (by
    unfold openE
    rw [hm, hu, hl, if_neg (by decide), if_neg (by omega)])
  have FB : Hid (formB sp q l = (decide (E % 4 = 0) && (decide (num4 l 0 = sp) && decide (num4 l 4 = (loN q : Int))))) := Lib.hid (by unfold formB; rw [EE])
  have HN := Lib.hid (And.intro hn hn2)
  have HE := Lib.hid hE
  have HEE := Lib.hid EE
  have HL := Lib.hid hl
  have HMF := Lib.hid MF
  have HQ := Lib.hid hq
  have NBH := Lib.hid (And.intro NB N0)
  have lb : loN q ≤ 4294967295 := by unfold loN; omega
  obtain ⟨x0, hx0⟩ : ∃ x, x = num4 l 0 := ⟨_, rfl⟩
  obtain ⟨x4, hx4⟩ : ∃ x, x = num4 l 4 := ⟨_, rfl⟩
  rw [← hx0] at C0 FB
  rw [← hx4] at C4 FB NB
  have u4 : IntKind.u64.wrap x4 = x4 := IntWalk.u64_in _ (by omega)
  clear h h4 hB hm hu hl hn hn2 hE EE MF hq N0 hx0 hx4 NB hbB
  obtain ⟨lo, hlo⟩ : ∃ x, x = loN q := ⟨_, rfl⟩
  rw [← hlo] at f3 FB lb
  have LO := Lib.hid hlo
  clear hlo
  by_cases c1 : E % 4 = 0
  · have t1 : (((E % 4 : Nat) : Int) != 0) = false := by rw [c1]; rfl
    by_cases c2 : x0 = sp
    · have t2 : (x0 != sp) = false := by rw [c2]; simp
      by_cases c3 : x4 = (lo : Int)
      · have t3 : (x4 != (lo : Int)) = false := by rw [c3]; simp
        have FT : Hid (formB sp q l = true) := Lib.hid (by rw [FB.out]; simp [c1, c2, c3])
        obtain ⟨r4, hr4⟩ : ∃ r, r = E % 4 := ⟨_, rfl⟩
        rw [← hr4] at f2 t1
        clear c1 c2 c3 hr4 FB
        go_enter Tryz.func15, Tryz.ntmps15
        go_wp2_with (refine Loads.wpList_load_w rfl 23 (.tmp 3) rfl w.heap.size rfl 23 #[.int .i64 sp, .string ky, .string sl, .string mc, .bool es, .int .i64 wn] (0, 0) _ (K1.out) Tryz.underlying23 rfl (by kernel_rfl) ?_)
        refine (M.out _).mono ?_
        rintro e w2 ⟨rfl, hb⟩
        have B2 := Lib.hid (B0.out.trans (hb.mono (by simp)))
        have K2 := Lib.hid (Blk.below K1.out hb (Blk.lt K1.out))
        clear hb K1
        go_wp2_with (refine Loads.wpList_load_w rfl 23 (.tmp 3) rfl w.heap.size rfl 23 #[.int .i64 sp, .string ky, .string sl, .string mc, .bool es, .int .i64 wn] (0, 0) _ (K2.out) Tryz.underlying23 rfl (by kernel_rfl) ?_)
        refine (NU.out _).mono ?_
        rintro e w3 ⟨rfl, hb⟩
        have B3 := Lib.hid (B2.out.trans (hb.mono B2.out.size))
        have K3 := Lib.hid (Blk.below K2.out hb (Blk.lt K2.out))
        clear hb K2
        go_wp2_with fail
        have k0 : w3.cell? ⟨w.heap.size, 0, none⟩ = some (.int .i64 sp) := K3.out.cell 0
        have D0 := Lib.hid (C0.out w3 (HH.out.below (B3.out.mono HB.out)))
        have D4 := Lib.hid (C4.out w3 (H4.out.below (B3.out.mono HB.out)))
        go_quiet (first | with_reducible exact Calls.quiet_of (D0.out _) | with_reducible exact Calls.quiet_of (D4.out _))
        have B4 := Lib.hid (B3.out.trans ((below_drewN (Below.refl w3.heap.size w3) nq).mono B3.out.size))
        clear D0 D4 k0
        have K4 := Lib.hid (show Blk (w3.drewN nq) w.heap.size 23 #[.int .i64 sp, .string ky, .string sl, .string mc, .bool es, .int .i64 wn] from K3.out)
        clear C0 C4 cu f2 f3 u4 t1 t2 t3 lb M NU K3
        generalize w3.drewN nq = w4 at *
        have HH4 := Lib.hid (HH.out.below (B4.out.mono HB.out))
        have WB4 := Lib.hid (show B ≤ w4.heap.size by have := HB.out; have := B4.out.size; omega)
        obtain ⟨g, hg⟩ : ∃ g, g = w.heap.size := ⟨_, rfl⟩
        have GE := Lib.hid hg
        rw [← hg] at K4
        clear hg
        have EN : E ≤ n := by have := HE.out; omega
        obtain ⟨TT, hTT⟩ : ∃ TT, TT = tagL mc es q (nats (l.take E)) := ⟨_, rfl⟩
        have TB : Byt TT := by rw [hTT]; exact tagL_byt _ _ _ _
        obtain ⟨s2, hs2⟩ : ∃ s, s = strOfNums (ints TT) := ⟨_, rfl⟩
        obtain ⟨s1, hs1⟩ : ∃ s, s = strOfNums (l.drop E) := ⟨_, rfl⟩
        obtain ⟨r, hr⟩ : ∃ r, r = icvB mc es q l := ⟨_, rfl⟩
        have SEQ : Hid ((s1.toList == s2.toList) = r) := Lib.hid (by
          rw [hs1, hs2, hr, str_eq (HH.out.2.2.2.1.drop E) (ints_bytes TB)]
          unfold icvB
          rw [HEE.out, hTT])
        have S1 := Lib.hid hs1
        have TG : Hid (∀ V, Holds V B (some ⟨b, p, none⟩) n c l → B ≤ V.heap.size → Calls Tryz.prog 31 #[.agg #[.int .i64 sp, .string ky, .string sl, .string mc, .bool es, .int .i64 wn], .int .u64 (q : Int), .slice (some ⟨b, p, none⟩) E c] V fun e w' => e = .returned (.string s2) ∧ Below V.heap.size V w') := Lib.hid fun V hV hb => by
          have := tag_ref14 sp ky sl mc es wn q HQ.out (some ⟨b, p, none⟩) E c (l.take E) V B (hV.upto EN) hb (by have := HN.out; omega) HMF.out.2.2.2.2.1
          rw [← hTT, ← hs2] at this
          exact this
        have RH := Lib.hid hr
        clear hs1 hs2 hr hTT TB
        have X : Hid (∀ V, Below w4.drew.heap.size w4.drew V → Blk V g 23 #[.int .i64 sp, .string ky, .string sl, .string mc, .bool es, .int .i64 wn] ∧ Holds V B (some ⟨b, p, none⟩) n c l ∧ B ≤ V.heap.size) := Lib.hid fun V hV => ⟨Blk.below (show Blk w4.drew g 23 #[.int .i64 sp, .string ky, .string sl, .string mc, .bool es, .int .i64 wn] from K4.out) hV (Blk.lt K4.out), (show Holds w4.drew B (some ⟨b, p, none⟩) n c l from HH4.out.keep fun _ _ _ => rfl).below (hV.mono WB4.out), Nat.le_trans WB4.out hV.size⟩
        rw [← GE.out]
        go_wp2_with fail
        -- REGION 8
        refine wp_region_free [0, 1, 2, 3, 4, 5, 6, 7, 8, 9] 10 [] (fun w1 w2 => Below w1.heap.size w1 w2) (fun k' w' v => match k' with
          | 0 => v = .slice (some ⟨b, p, none⟩) n c
          | 1 => v = .int .i64 (E : Int)
          | 2 => v = .slice (some (adr b p c E)) (n - E) (c - E)
          | 3 => v = .string s1
          | 4 => v = .agg #[.int .i64 sp, .string ky, .string sl, .string mc, .bool es, .int .i64 wn]
          | 5 => v = .int .u64 (q : Int)
          | 6 => v = .slice (some ⟨b, p, none⟩) n c
          | 7 => v = .int .i64 (E : Int)
          | 8 => v = .slice (some ⟨b, p, none⟩) E c
          | _ => v = .string s2) (by kernel_rfl) (by kernel_rfl) (Below.refl _ _) (fun _ _ _ h k => h.trans (k.mono h.size)) (fun k' w1 w2 v h => match k' with
          | 0 => fun x => x
          | 1 => fun x => x
          | 2 => fun x => x
          | 3 => fun x => x
          | 4 => fun x => x
          | 5 => fun x => x
          | 6 => fun x => x
          | 7 => fun x => x
          | 8 => fun x => x
          | _ + 9 => fun x => x) (fun _ _ _ _ _ h => h) ?_ _ (by rfl) ?_
        · refine obs_cons (by rfl) (fun vals w' hgr hdep K hK => ?_) (obs_cons (by rfl) (fun vals w' hgr hdep K hK => ?_) (obs_cons (by rfl) (fun vals w' hgr hdep K hK => ?_) (obs_cons (by rfl) (fun vals w' hgr hdep K hK => ?_) (obs_cons (by rfl) (fun vals w' hgr hdep K hK => ?_) (obs_cons (by rfl) (fun vals w' hgr hdep K hK => ?_) (obs_cons (by rfl) (fun vals w' hgr hdep K hK => ?_) (obs_cons (by rfl) (fun vals w' hgr hdep K hK => ?_) (obs_cons (by rfl) (fun vals w' hgr hdep K hK => ?_) (obs_cons (by rfl) (fun vals w' hgr hdep K hK => ?_) (obs_nil))))))))))
          · exact wp_move (.tmp 2) rfl _ (at_out _ (by kernel_rfl) rfl) (hK _ _ (Below.refl _ _) rfl)
          · exact wp_move (.tmp 9) rfl _ (at_out _ (by kernel_rfl) rfl) (hK _ _ (Below.refl _ _) rfl)
          · exact wp_slice (.tmp 49) rfl _ _ (some (.int .i64 (E : Int))) none none ((at_dst 0 (by kernel_rfl)).trans (hdep 0 (by simp) (by kernel_rfl))) (congrArg some ((at_dst 1 (by kernel_rfl)).trans (hdep 1 (by simp) (by kernel_rfl)))) rfl rfl (cutA_l b p n c E _ EN hc) (hK _ _ (Below.refl _ _) rfl)
          · exact wp_conv (.tmp 51) rfl _ _ ((at_dst 2 (by kernel_rfl)).trans (hdep 2 (by simp) (by kernel_rfl))) (by rw [S1.out]; exact run_string_bytes (cutA_rest (X.out w' hgr).2.1 EN)) (hK _ _ (Below.refl _ _) rfl)
          · exact st_load_row 23 (.tmp 3) rfl g (at_out _ (by kernel_rfl) rfl) 23 #[.int .i64 sp, .string ky, .string sl, .string mc, .bool es, .int .i64 wn] (0, 0) _ ((X.out w' hgr).1) Tryz.underlying23 rfl (by kernel_rfl) (hK _ _ (Below.refl _ _) rfl)
          · exact wp_move (.tmp 1) rfl _ (at_out _ (by kernel_rfl) rfl) (hK _ _ (Below.refl _ _) rfl)
          · exact wp_move (.tmp 2) rfl _ (at_out _ (by kernel_rfl) rfl) (hK _ _ (Below.refl _ _) rfl)
          · exact wp_move (.tmp 9) rfl _ (at_out _ (by kernel_rfl) rfl) (hK _ _ (Below.refl _ _) rfl)
          · exact wp_slice (.tmp 55) rfl _ _ none (some (.int .i64 (E : Int))) none ((at_dst 6 (by kernel_rfl)).trans (hdep 6 (by simp) (by kernel_rfl))) rfl (congrArg some ((at_dst 7 (by kernel_rfl)).trans (hdep 7 (by simp) (by kernel_rfl)))) rfl (CtrR.cut_h _ n c E _ (by omega)) (hK _ _ (Below.refl _ _) rfl)
          · exact wp_call 31 [.tmp 53, .tmp 54, .tmp 57] _ rfl ent_tag14 [.agg #[.int .i64 sp, .string ky, .string sl, .string mc, .bool es, .int .i64 wn], .int .u64 (q : Int), .slice (some ⟨b, p, none⟩) E c] (list3 ((at_dst 4 (by kernel_rfl)).trans (hdep 4 (by simp) (by kernel_rfl))) ((at_dst 5 (by kernel_rfl)).trans (hdep 5 (by simp) (by kernel_rfl))) ((at_dst 8 (by kernel_rfl)).trans (hdep 8 (by simp) (by kernel_rfl)))) (fun v w'' => v = .string s2 ∧ Below w'.heap.size w' w'') ((TG.out w' (X.out w' hgr).2.1 (X.out w' hgr).2.2).mono fun e w'' ⟨h1, h2⟩ => ⟨_, h1, rfl, h2⟩) (fun v w'' ⟨h1, h2⟩ => hK _ _ h2 h1)
        · intro vals w' hgr hG
          refine wp_bin (.tmp 52) (.tmp 58) rfl _ _ _ ((at_dst 3 (by kernel_rfl)).trans (hG 3 (by simp))) ((at_dst 9 (by kernel_rfl)).trans (hG 9 (by simp))) (b_nes s1 s2 r SEQ.out _ _ _) (wpAnyH_done (by kernel_rfl) ?_ _)
          have B5 := Lib.hid (B4.out.trans (((below_drewN (Below.refl w4.heap.size w4) 1).trans hgr).mono B4.out.size))
          have K5 := Lib.hid (X.out w' hgr)
          clear hG hgr X TG SEQ S1
          simp only [fill, dstAt, List.getElem?_cons_zero, List.getElem?_cons_succ, Option.bind_some, Act.put, List.setIfInBounds_toArray, List.set_cons_zero, List.set_cons_succ]
          generalize vals 0 = z0, vals 1 = z1, vals 2 = z2, vals 3 = z3, vals 4 = z4, vals 5 = z5, vals 6 = z6, vals 7 = z7, vals 8 = z8, vals 9 = z9 at *
          generalize w' = w5 at *
          cases r
          · go_wp2_with fail
            go_ret3
            exact ans_err sp ky sl mc es wn q l (k := 110) (by rw [OE.out, if_neg (by rw [FT.out]; decide), if_pos RH.out.symm]) (by decide) rfl B5.out
          · have KA := Lib.hid (show ky.size = 16 ∨ ky.size = 32 from HMF.out.2.2.1)
            have SAL := Lib.hid (show sl.size = 4 from HMF.out.2.2.2.1)
            obtain ⟨PL, hPL⟩ : ∃ PL, PL = plainL ky sl l := ⟨_, rfl⟩
            obtain ⟨Mn, hMn⟩ : ∃ Mn, Mn = E - 16 := ⟨_, rfl⟩
            have E16 : 16 ≤ E := by have := HE.out; have := HN.out; omega
            have PE : Hid (PL = ints (turnL ky sl (nats ((l.drop 8).take (16 - 8))) (nats ((l.drop 16).take (E - 16))))) := Lib.hid (by rw [hPL]; unfold plainL; rw [HEE.out])
            have MN := Lib.hid hMn
            have PH := Lib.hid hPL
            have PLN : Hid (PL.length = Mn) := Lib.hid (by
              rw [PE.out]
              simp only [ints, List.length_map]
              rw [turnL_len, nats_length, List.length_take, List.length_drop, HL.out, hMn]
              have := HE.out; omega)
            have X5 : Hid (∀ V, Below w5.drew.heap.size w5.drew V → V.cell? ⟨g, 1, none⟩ = some (.string ky) ∧ V.cell? ⟨g, 2, none⟩ = some (.string sl) ∧ Holds V B (some ⟨b, p, none⟩) n c l ∧ B ≤ V.heap.size) := Lib.hid fun V hV => by
              have k := Blk.below (show Blk w5.drew g 23 #[.int .i64 sp, .string ky, .string sl, .string mc, .bool es, .int .i64 wn] from K5.out.1) hV (Blk.lt K5.out.1)
              exact ⟨k.cell 1, k.cell 2, (show Holds w5.drew B (some ⟨b, p, none⟩) n c l from K5.out.2.1.keep fun _ _ _ => rfl).below (hV.mono K5.out.2.2), Nat.le_trans K5.out.2.2 hV.size⟩
            clear hPL hMn
            go_wp2_with fail
            -- REGION 10
            refine wp_region_free [0, 1, 2, 3, 4, 5, 6, 7, 8, 9, 10, 11, 12, 13, 14, 15] 16 [] (fun w1 w2 => Below w1.heap.size w1 w2) (fun k' w' v => match k' with
              | 0 => v = .pointer (some ⟨g, 1, none⟩)
              | 1 => v = .string ky
              | 2 => Lies w' v ky.size (nums ky)
              | 3 => v = .pointer (some ⟨g, 2, none⟩)
              | 4 => v = .string sl
              | 5 => Lies w' v 4 (nums sl)
              | 6 => v = .slice (some ⟨b, p, none⟩) n c
              | 7 => v = .slice (some (adr b p c 8)) (16 - 8) (c - 8)
              | 8 => v = .slice (some ⟨b, p, none⟩) n c
              | 9 => v = .int .i64 (E : Int)
              | 10 => v = .slice (some (adr b p c 16)) (E - 16) (c - 16)
              | 11 => ∃ v0, v = .tuple #[v0, .int .i64 0] ∧ Lies w' v0 Mn PL
              | 12 => ∃ v0, v = .tuple #[v0, .int .i64 0] ∧ Lies w' v0 Mn PL
              | 13 => Lies w' v Mn PL
              | 14 => v = .int .i64 0
              | _ => Lies w' v Mn PL) (by kernel_rfl) (by kernel_rfl) (Below.refl _ _) (fun _ _ _ h k => h.trans (k.mono h.size)) (fun k' w1 w2 v h => match k' with
              | 0 => fun x => x
              | 1 => fun x => x
              | 2 => fun q => q.below h
              | 3 => fun x => x
              | 4 => fun x => x
              | 5 => fun q => q.below h
              | 6 => fun x => x
              | 7 => fun x => x
              | 8 => fun x => x
              | 9 => fun x => x
              | 10 => fun x => x
              | 11 => fun ⟨v0, e, q⟩ => ⟨v0, e, q.below h⟩
              | 12 => fun ⟨v0, e, q⟩ => ⟨v0, e, q.below h⟩
              | 13 => fun q => q.below h
              | 14 => fun x => x
              | _ + 15 => fun q => q.below h) (fun _ _ _ _ _ h => h) ?_ _ (by rfl) ?_
            · refine obs_cons (by rfl) (fun vals w' hgr hdep K hK => ?_) (obs_cons (by rfl) (fun vals w' hgr hdep K hK => ?_) (obs_cons (by rfl) (fun vals w' hgr hdep K hK => ?_) (obs_cons (by rfl) (fun vals w' hgr hdep K hK => ?_) (obs_cons (by rfl) (fun vals w' hgr hdep K hK => ?_) (obs_cons (by rfl) (fun vals w' hgr hdep K hK => ?_) (obs_cons (by rfl) (fun vals w' hgr hdep K hK => ?_) (obs_cons (by rfl) (fun vals w' hgr hdep K hK => ?_) (obs_cons (by rfl) (fun vals w' hgr hdep K hK => ?_) (obs_cons (by rfl) (fun vals w' hgr hdep K hK => ?_) (obs_cons (by rfl) (fun vals w' hgr hdep K hK => ?_) (obs_cons (by rfl) (fun vals w' hgr hdep K hK => ?_) (obs_cons (by rfl) (fun vals w' hgr hdep K hK => ?_) (obs_cons (by rfl) (fun vals w' hgr hdep K hK => ?_) (obs_cons (by rfl) (fun vals w' hgr hdep K hK => ?_) (obs_cons (by rfl) (fun vals w' hgr hdep K hK => ?_) (obs_nil))))))))))))))))
              · exact wp_field (.tmp 3) rfl _ _ (at_out _ (by kernel_rfl) rfl) (fld1 _ _) (hK _ _ (Below.refl _ _) rfl)
              · exact wp_load1 (.tmp 61) rfl ⟨g, 1, none⟩ ((at_dst 0 (by kernel_rfl)).trans (hdep 0 (by simp) (by kernel_rfl))) Tryz.underlying9 rfl _ ((X5.out w' hgr).1) (hK _ _ (Below.refl _ _) rfl)
              · exact st_nums (.tmp 62) rfl ky ((at_dst 1 (by kernel_rfl)).trans (hdep 1 (by simp) (by kernel_rfl))) (by rcases KA.out with z | z <;> rw [z] <;> decide) (fun v w'' q hb => hK _ _ hb q)
              · exact wp_field (.tmp 3) rfl _ _ (at_out _ (by kernel_rfl) rfl) (fld2 _ _) (hK _ _ (Below.refl _ _) rfl)
              · exact wp_load1 (.tmp 64) rfl ⟨g, 2, none⟩ ((at_dst 3 (by kernel_rfl)).trans (hdep 3 (by simp) (by kernel_rfl))) Tryz.underlying9 rfl _ ((X5.out w' hgr).2.1) (hK _ _ (Below.refl _ _) rfl)
              · exact st_nums (.tmp 65) rfl sl ((at_dst 4 (by kernel_rfl)).trans (hdep 4 (by simp) (by kernel_rfl))) (by rw [SAL.out]; decide) (fun v w'' q hb => hK _ _ hb (by rw [SAL.out] at q; exact q))
              · exact wp_move (.tmp 2) rfl _ (at_out _ (by kernel_rfl) rfl) (hK _ _ (Below.refl _ _) rfl)
              · exact wp_slice (.tmp 67) rfl _ _ (some (.int .i64 8)) (some (.int .i64 16)) none ((at_dst 6 (by kernel_rfl)).trans (hdep 6 (by simp) (by kernel_rfl))) rfl rfl rfl (cutA_lh b p n c 8 16 _ (by omega) (by omega)) (hK _ _ (Below.refl _ _) rfl)
              · exact wp_move (.tmp 2) rfl _ (at_out _ (by kernel_rfl) rfl) (hK _ _ (Below.refl _ _) rfl)
              · exact wp_move (.tmp 9) rfl _ (at_out _ (by kernel_rfl) rfl) (hK _ _ (Below.refl _ _) rfl)
              · exact wp_slice (.tmp 69) rfl _ _ (some (.int .i64 16)) (some (.int .i64 (E : Int))) none ((at_dst 8 (by kernel_rfl)).trans (hdep 8 (by simp) (by kernel_rfl))) rfl (congrArg some ((at_dst 9 (by kernel_rfl)).trans (hdep 9 (by simp) (by kernel_rfl)))) rfl (cutA_lh b p n c 16 E _ E16 (by omega)) (hK _ _ (Below.refl _ _) rfl)
              · obtain ⟨Ak, ck, ek, hk⟩ := hdep 2 (by simp) (by kernel_rfl)
                obtain ⟨As, cs, e4, hs4⟩ := hdep 5 (by simp) (by kernel_rfl)
                have Y := X5.out w' hgr
                have hv := (cutA_holds (lo := 8) (hi := 16) Y.2.2.1 (by omega) (by omega)).more Y.2.2.2
                have hp := (cutA_holds (lo := 16) (hi := E) Y.2.2.1 E16 EN).more Y.2.2.2
                have TR := CtrT.turn_ref Ak ky.size ck (nums ky) As cs (nums sl) (some (adr b p c 8)) (c - 8) ((l.drop 8).take (16 - 8)) (some (adr b p c 16)) (E - 16) (c - 16) ((l.drop 16).take (E - 16)) w' w'.heap.size hk hs4 hv hp (Nat.le_refl _) KA.out (by have := HN.out; omega)
                exact wp_call 29 [.tmp 63, .tmp 66, .tmp 68, .tmp 71] _ rfl ent_turn09 [.slice Ak ky.size ck, .slice As 4 cs, .slice (some (adr b p c 8)) (16 - 8) (c - 8), .slice (some (adr b p c 16)) (E - 16) (c - 16)] (list4 ((at_dst 2 (by kernel_rfl)).trans ek) ((at_dst 5 (by kernel_rfl)).trans e4) ((at_dst 7 (by kernel_rfl)).trans (hdep 7 (by simp) (by kernel_rfl))) ((at_dst 10 (by kernel_rfl)).trans (hdep 10 (by simp) (by kernel_rfl)))) (fun v w'' => (∃ v0, v = .tuple #[v0, .int .i64 0] ∧ Lies w'' v0 Mn PL) ∧ Below w'.heap.size w' w'') (TR.mono fun e w'' ⟨g7, h1, _, row, hb⟩ => ⟨_, h1, ⟨_, rfl, by
                  have e : (CtrD.trn (keys (nats (nums ky))) (nats (nums sl)) (nats ((l.drop 8).take (16 - 8))) (nats ((l.drop 16).take (E - 16)))).length = Mn := by
                    have z := PLN.out
                    rw [PE.out] at z
                    simp only [ints, List.length_map] at z
                    exact z
                  have z := Aes9.BRow.holds row (CtrD.trn_byt (keys_byt (nats_byt (nums_bytes ky))) (nats_byt (nums_bytes sl)) (nats_byt hv.2.2.2.1) (nats_byt hp.2.2.2.1)) (by rw [e]; have := HN.out; have := MN.out; omega)
                  rw [e] at z
                  rw [PE.out]
                  exact ⟨some ⟨g7, 0, none⟩, Mn, by rw [MN.out], z⟩⟩, hb⟩) (fun v w'' ⟨h1, h2⟩ => hK _ _ h2 h1)
              · obtain ⟨v0, e, q⟩ := hdep 11 (by simp) (by kernel_rfl)
                exact wp_move (.tmp 72) rfl _ ((at_dst 11 (by kernel_rfl)).trans e) (hK _ _ (Below.refl _ _) ⟨v0, rfl, q⟩)
              · obtain ⟨v0, e, q⟩ := hdep 12 (by simp) (by kernel_rfl)
                exact st_extract (.tmp 60) 0 rfl _ _ ((at_dst 12 (by kernel_rfl)).trans e) rfl (hK _ _ (Below.refl _ _) q)
              · obtain ⟨v0, e, q⟩ := hdep 12 (by simp) (by kernel_rfl)
                exact st_extract (.tmp 60) 1 rfl _ _ ((at_dst 12 (by kernel_rfl)).trans e) rfl (hK _ _ (Below.refl _ _) rfl)
              · obtain ⟨A', c', e, q⟩ := hdep 13 (by simp) (by kernel_rfl)
                exact st_assign (.tmp 73) _ rfl ((at_dst 13 (by kernel_rfl)).trans e) (hK _ _ (Below.refl _ _) ⟨A', c', rfl, q⟩)
            · intro vals w' hgr hG
              obtain ⟨A9, c9, e9, h9⟩ := hG 15 (by simp)
              refine st_assign (.tmp 74) _ rfl ((at_dst 14 (by kernel_rfl)).trans (hG 14 (by simp))) (wpAnyH_done (by kernel_rfl) ?_ _)
              have B6 := Lib.hid (B5.out.trans (((below_drewN (Below.refl w5.heap.size w5) 1).trans hgr).mono B5.out.size))
              have H9 := Lib.hid h9
              clear hG hgr h9 X5 K5
              simp only [fill, dstAt, List.getElem?_cons_zero, List.getElem?_cons_succ, Option.bind_some, Act.put, List.setIfInBounds_toArray, List.set_cons_zero, List.set_cons_succ]
              rw [e9]
              clear e9
              generalize vals 0 = z0, vals 1 = z1, vals 2 = z2, vals 3 = z3, vals 4 = z4, vals 5 = z5, vals 6 = z6, vals 7 = z7, vals 8 = z8, vals 9 = z9, vals 10 = z10, vals 11 = z11, vals 12 = z12, vals 13 = z13, vals 14 = z14, vals 15 = z15 at *
              generalize w' = w6 at *
              have PO := Lib.hid (open_ref A9 Mn c9 PL w6 w6.heap.size H9.out (Nat.le_refl _) (by have := MN.out; have := HE.out; have := HN.out; omega) (by have := MN.out; have := HE.out; have := HN.out; omega))
              go_wp2_with fail
              refine PO.out.mono ?_
              rintro e w7 (⟨ok, rfl, rfl⟩ | ⟨ok, v, rfl, ow, hb⟩)
              · go_wp2_with fail
                go_ret3
                exact ans_err sp ky sl mc es wn q l (k := 130) (by rw [OE.out, if_neg (by rw [FT.out]; decide), if_neg (by rw [← RH.out]; decide), if_pos (by rw [← PH.out]; exact ok)]) (by decide) rfl B6.out
              · have B7 := Lib.hid (B6.out.trans (hb.mono B6.out.size))
                have OK := Lib.hid ok
                obtain ⟨A10, c10, rfl, h10⟩ := ow.slice
                have H10 := Lib.hid h10
                clear hb ow h10 ok PO
                go_wp2_with fail
                go_ret3
                have O0 : openE sp ky sl mc es wn q l = 0 := by rw [OE.out, if_neg (by rw [FT.out]; decide), if_neg (by rw [← RH.out]; decide), if_neg (by rw [← PH.out, OK.out]; decide)]
                have e : openO ky sl l = PL.take (Mn - 2 - told PL) := by unfold openO; rw [← PH.out, PLN.out]
                have ey : openY ky sl l = PL.getD (Mn - 1) 0 := by unfold openY; rw [← PH.out, PLN.out]
                exact ans_ok sp ky sl mc es wn q l O0 A10 c10 (by rw [e]; exact H10.out.1) (by rw [e]; exact H10.out) ey rfl B7.out
      · have t3 : (x4 != (lo : Int)) = true := by simp [c3]
        obtain ⟨r4, hr4⟩ : ∃ r, r = E % 4 := ⟨_, rfl⟩
        have CC : Hid (¬ x4 = (lo : Int)) := Lib.hid c3
        rw [← hr4] at f2 t1
        clear c1 c2 c3 hr4
        go_enter Tryz.func15, Tryz.ntmps15
        go_wp2_with (refine Loads.wpList_load_w rfl 23 (.tmp 3) rfl w.heap.size rfl 23 #[.int .i64 sp, .string ky, .string sl, .string mc, .bool es, .int .i64 wn] (0, 0) _ (K1.out) Tryz.underlying23 rfl (by kernel_rfl) ?_)
        refine (M.out _).mono ?_
        rintro e w2 ⟨rfl, hb⟩
        have B2 := Lib.hid (B0.out.trans (hb.mono (by simp)))
        have K2 := Lib.hid (Blk.below K1.out hb (Blk.lt K1.out))
        clear hb K1
        go_wp2_with (refine Loads.wpList_load_w rfl 23 (.tmp 3) rfl w.heap.size rfl 23 #[.int .i64 sp, .string ky, .string sl, .string mc, .bool es, .int .i64 wn] (0, 0) _ (K2.out) Tryz.underlying23 rfl (by kernel_rfl) ?_)
        refine (NU.out _).mono ?_
        rintro e w3 ⟨rfl, hb⟩
        have B3 := Lib.hid (B2.out.trans (hb.mono B2.out.size))
        have K3 := Lib.hid (Blk.below K2.out hb (Blk.lt K2.out))
        clear hb K2
        go_wp2_with fail
        have k0 : w3.cell? ⟨w.heap.size, 0, none⟩ = some (.int .i64 sp) := K3.out.cell 0
        have D0 := Lib.hid (C0.out w3 (HH.out.below (B3.out.mono HB.out)))
        have D4 := Lib.hid (C4.out w3 (H4.out.below (B3.out.mono HB.out)))
        go_quiet (first | with_reducible exact Calls.quiet_of (D0.out _) | with_reducible exact Calls.quiet_of (D4.out _))
        have B4 := Lib.hid (B3.out.trans ((below_drewN (Below.refl w3.heap.size w3) nq).mono B3.out.size))
        clear D0 D4 k0
        go_wp2_with fail
        go_ret3
        exact ans_err sp ky sl mc es wn q l (k := 4) (by rw [OE.out, if_pos (by rw [FB.out]; simp [CC.out])]) (by decide) rfl B4.out
    · have t2 : (x0 != sp) = true := by simp [c2]
      obtain ⟨r4, hr4⟩ : ∃ r, r = E % 4 := ⟨_, rfl⟩
      have CC : Hid (¬ x0 = sp) := Lib.hid c2
      rw [← hr4] at f2 t1
      clear c1 c2 hr4
      go_enter Tryz.func15, Tryz.ntmps15
      go_wp2_with (refine Loads.wpList_load_w rfl 23 (.tmp 3) rfl w.heap.size rfl 23 #[.int .i64 sp, .string ky, .string sl, .string mc, .bool es, .int .i64 wn] (0, 0) _ (K1.out) Tryz.underlying23 rfl (by kernel_rfl) ?_)
      refine (M.out _).mono ?_
      rintro e w2 ⟨rfl, hb⟩
      have B2 := Lib.hid (B0.out.trans (hb.mono (by simp)))
      have K2 := Lib.hid (Blk.below K1.out hb (Blk.lt K1.out))
      clear hb K1
      go_wp2_with (refine Loads.wpList_load_w rfl 23 (.tmp 3) rfl w.heap.size rfl 23 #[.int .i64 sp, .string ky, .string sl, .string mc, .bool es, .int .i64 wn] (0, 0) _ (K2.out) Tryz.underlying23 rfl (by kernel_rfl) ?_)
      refine (NU.out _).mono ?_
      rintro e w3 ⟨rfl, hb⟩
      have B3 := Lib.hid (B2.out.trans (hb.mono B2.out.size))
      have K3 := Lib.hid (Blk.below K2.out hb (Blk.lt K2.out))
      clear hb K2
      go_wp2_with fail
      have k0 : w3.cell? ⟨w.heap.size, 0, none⟩ = some (.int .i64 sp) := K3.out.cell 0
      have D0 := Lib.hid (C0.out w3 (HH.out.below (B3.out.mono HB.out)))
      have D4 := Lib.hid (C4.out w3 (H4.out.below (B3.out.mono HB.out)))
      go_quiet (first | with_reducible exact Calls.quiet_of (D0.out _) | with_reducible exact Calls.quiet_of (D4.out _))
      have B4 := Lib.hid (B3.out.trans ((below_drewN (Below.refl w3.heap.size w3) nq).mono B3.out.size))
      clear D0 D4 k0
      go_wp2_with fail
      go_ret3
      exact ans_err sp ky sl mc es wn q l (k := 4) (by rw [OE.out, if_pos (by rw [FB.out]; simp [CC.out])]) (by decide) rfl B4.out
  · obtain ⟨r4, hr4⟩ : ∃ r, r = E % 4 := ⟨_, rfl⟩
    have CC : Hid (¬ E % 4 = 0) := Lib.hid c1
    rw [← hr4] at f2 c1
    have t1 : ((r4 : Int) != 0) = true := by simp; omega
    clear c1 hr4
    go_enter Tryz.func15, Tryz.ntmps15
    go_wp2_with (refine Loads.wpList_load_w rfl 23 (.tmp 3) rfl w.heap.size rfl 23 #[.int .i64 sp, .string ky, .string sl, .string mc, .bool es, .int .i64 wn] (0, 0) _ (K1.out) Tryz.underlying23 rfl (by kernel_rfl) ?_)
    refine (M.out _).mono ?_
    rintro e w2 ⟨rfl, hb⟩
    have B2 := Lib.hid (B0.out.trans (hb.mono (by simp)))
    have K2 := Lib.hid (Blk.below K1.out hb (Blk.lt K1.out))
    clear hb K1
    go_wp2_with (refine Loads.wpList_load_w rfl 23 (.tmp 3) rfl w.heap.size rfl 23 #[.int .i64 sp, .string ky, .string sl, .string mc, .bool es, .int .i64 wn] (0, 0) _ (K2.out) Tryz.underlying23 rfl (by kernel_rfl) ?_)
    refine (NU.out _).mono ?_
    rintro e w3 ⟨rfl, hb⟩
    have B3 := Lib.hid (B2.out.trans (hb.mono B2.out.size))
    have K3 := Lib.hid (Blk.below K2.out hb (Blk.lt K2.out))
    clear hb K2
    go_wp2_with fail
    have k0 : w3.cell? ⟨w.heap.size, 0, none⟩ = some (.int .i64 sp) := K3.out.cell 0
    have D0 := Lib.hid (C0.out w3 (HH.out.below (B3.out.mono HB.out)))
    have D4 := Lib.hid (C4.out w3 (H4.out.below (B3.out.mono HB.out)))
    go_quiet (first | with_reducible exact Calls.quiet_of (D0.out _) | with_reducible exact Calls.quiet_of (D4.out _))
    have B4 := Lib.hid (B3.out.trans ((below_drewN (Below.refl w3.heap.size w3) nq).mono B3.out.size))
    clear D0 D4 k0
    go_wp2_with fail
    go_ret3
    exact ans_err sp ky sl mc es wn q l (k := 4) (by rw [OE.out, if_pos (by rw [FB.out]; simp [CC.out])]) (by decide) rfl B4.out
end Go.Proofs.YtdnkbefpbehllaaGreatDoor.EspR4

