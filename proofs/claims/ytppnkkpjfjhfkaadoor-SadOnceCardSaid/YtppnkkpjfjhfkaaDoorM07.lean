/- The document's over, Age of one, Find, Age, Pick: associations that are read. -/
import Derived.Test.YtppnkkpjfjhfkaaDoorM06
import Derived.LoopTactic
import Derived.BigQuiet
set_option linter.unusedVariables false
namespace Go.Proofs.YtppnkkpjfjhfkaaDoor.SadR1
open Go.RowKit Go.Proofs.YtppnkkpjfjhfkaaDoor.Mem Go.Proofs.YtppnkkpjfjhfkaaDoor.Blk Go.Proofs.YtppnkkpjfjhfkaaDoor.ArgT Go.Proofs.YtppnkkpjfjhfkaaDoor.Longs Go.Proofs.YtppnkkpjfjhfkaaDoor.WinR Go.Proofs.YtppnkkpjfjhfkaaDoor.SadM

def overB (by_ most time long : Int) : Bool := (decide (0 < most) && decide (most ≤ by_)) || (decide (0 < long) && decide (long ≤ time))
theorem over_ref (by_ most time long : Int) (w : World) : Calls Tryd.prog 61 #[.int .i64 by_, .int .i64 most, .int .i64 time, .int .i64 long] w fun e w' => e = .returned (.bool (overB by_ most time long)) ∧ ∃ m, w' = w.drewN m := by
  obtain ⟨r, hr⟩ : ∃ r, r = overB by_ most time long := ⟨_, rfl⟩
  rw [← hr]
  unfold overB at hr
  by_cases a1 : 0 < most
  · have g1 : decide (0 < most) = true := decide_eq_true a1
    by_cases a2 : most ≤ by_
    · have g2 : decide (most ≤ by_) = true := decide_eq_true a2
      have E : Hid (r = true) := Lib.hid (by rw [hr]; simp [a1, a2])
      clear hr
      go_enter Tryd.func61, Tryd.ntmps61
      go_wp2_with fail
      go_ret
      exact ⟨by rw [E.out]; rfl, 0, rfl⟩
    · have g2 : decide (most ≤ by_) = false := decide_eq_false a2
      by_cases a3 : 0 < long
      · have g3 : decide (0 < long) = true := decide_eq_true a3
        by_cases a4 : long ≤ time
        · have g4 : decide (long ≤ time) = true := decide_eq_true a4
          have E : Hid (r = true) := Lib.hid (by rw [hr]; simp [a1, a2, a3, a4])
          clear hr
          go_enter Tryd.func61, Tryd.ntmps61
          go_wp2_with fail
          go_ret
          exact ⟨by rw [E.out]; rfl, 0, rfl⟩
        · have g4 : decide (long ≤ time) = false := decide_eq_false a4
          have E : Hid (r = false) := Lib.hid (by rw [hr]; simp [a1, a2, a3, a4])
          clear hr
          go_enter Tryd.func61, Tryd.ntmps61
          go_wp2_with fail
          go_ret
          exact ⟨by rw [E.out]; rfl, 0, rfl⟩
      · have g3 : decide (0 < long) = false := decide_eq_false a3
        have E : Hid (r = false) := Lib.hid (by rw [hr]; simp [a1, a2, a3])
        clear hr
        go_enter Tryd.func61, Tryd.ntmps61
        go_wp2_with fail
        go_ret
        exact ⟨by rw [E.out]; rfl, 0, rfl⟩
  · have g1 : decide (0 < most) = false := decide_eq_false a1
    by_cases a3 : 0 < long
    · have g3 : decide (0 < long) = true := decide_eq_true a3
      by_cases a4 : long ≤ time
      · have g4 : decide (long ≤ time) = true := decide_eq_true a4
        have E : Hid (r = true) := Lib.hid (by rw [hr]; simp [a1, a3, a4])
        clear hr
        go_enter Tryd.func61, Tryd.ntmps61
        go_wp2_with fail
        go_ret
        exact ⟨by rw [E.out]; rfl, 0, rfl⟩
      · have g4 : decide (long ≤ time) = false := decide_eq_false a4
        have E : Hid (r = false) := Lib.hid (by rw [hr]; simp [a1, a3, a4])
        clear hr
        go_enter Tryd.func61, Tryd.ntmps61
        go_wp2_with fail
        go_ret
        exact ⟨by rw [E.out]; rfl, 0, rfl⟩
    · have g3 : decide (0 < long) = false := decide_eq_false a3
      have E : Hid (r = false) := Lib.hid (by rw [hr]; simp [a1, a3])
      clear hr
      go_enter Tryd.func61, Tryd.ntmps61
      go_wp2_with fail
      go_ret
      exact ⟨by rw [E.out]; rfl, 0, rfl⟩

def ageN (e : Ent) (now : Int) : Nat := if overB e.bytes e.life.x9 (now - e.born) e.life.x11 then 2 else if overB e.bytes e.life.x8 (now - e.born) e.life.x10 then 1 else 0
set_option maxHeartbeats 1000000 in
theorem age1_ref (e : Ent) (g gw : Nat) (now : Int) (w : World) (h : Blk w g 68 (ecells e gw)) (hb : -9223372036854775808 ≤ now - e.born ∧ now - e.born ≤ 9223372036854775807) :
    Calls Tryd.prog 47 #[.pointer (some ⟨g, 0, none⟩), .int .i64 now] w fun er w' => er = .returned (.int .i64 (ageN e now : Int)) ∧ Below w.heap.size w w' := by
  have c8 : w.cell? ⟨g, 8, none⟩ = some (.int .i64 e.life.x8) := h.cell 8
  have c9 : w.cell? ⟨g, 9, none⟩ = some (.int .i64 e.life.x9) := h.cell 9
  have c10 : w.cell? ⟨g, 10, none⟩ = some (.int .i64 e.life.x10) := h.cell 10
  have c11 : w.cell? ⟨g, 11, none⟩ = some (.int .i64 e.life.x11) := h.cell 11
  have c12 : w.cell? ⟨g, 12, none⟩ = some (.int .i64 e.born) := h.cell 12
  have c13 : w.cell? ⟨g, 13, none⟩ = some (.int .i64 e.bytes) := h.cell 13
  have HH := Lib.hid h
  have V8 : Hid ((ecells e gw)[8]? = some (.int .i64 e.life.x8)) := Lib.hid rfl
  have V10 : Hid ((ecells e gw)[10]? = some (.int .i64 e.life.x10)) := Lib.hid rfl
  have V12 : Hid ((ecells e gw)[12]? = some (.int .i64 e.born)) := Lib.hid rfl
  have V13 : Hid ((ecells e gw)[13]? = some (.int .i64 e.bytes)) := Lib.hid rfl
  generalize ecells e gw = CS at *
  obtain ⟨t, ht⟩ : ∃ t, t = now - e.born := ⟨_, rfl⟩
  have f1 : IntKind.i64.wrap (now - e.born) = t := by rw [ht]; exact IntWalk.i64_in _ hb
  have AE : Hid (ageN e now = if overB e.bytes e.life.x9 (now - e.born) e.life.x11 then 2 else if overB e.bytes e.life.x8 (now - e.born) e.life.x10 then 1 else 0) := Lib.hid rfl
  obtain ⟨r, hr⟩ : ∃ r, r = ageN e now := ⟨_, rfl⟩
  rw [← hr] at AE ⊢
  rw [← ht] at AE
  have O1 := Lib.hid (fun k => over_ref e.bytes e.life.x9 (now - e.born) e.life.x11 (w.drewN k))
  have O2 := Lib.hid (fun (W : World) k => over_ref e.bytes e.life.x8 (now - e.born) e.life.x10 (W.drewN k))
  rw [← ht] at O1 O2
  generalize overB e.bytes e.life.x9 t e.life.x11 = b1 at *
  generalize overB e.bytes e.life.x8 t e.life.x10 = b2 at *
  clear hr h hb ht
  generalize e.bytes = by_ at *
  generalize e.born = bo at *
  generalize e.life.x8 = z8 at *
  generalize e.life.x9 = z9 at *
  generalize e.life.x10 = z10 at *
  generalize e.life.x11 = z11 at *
  go_enter Tryd.func47, Tryd.ntmps47
  go_wp2_with fail
  go_quiet (with_reducible exact Calls.quiet_of (O1.out _))
  cases b1
  · have BN := Lib.hid (below_drewN (Below.refl w.heap.size w) nq)
    have HN := HH.out.drewN nq
    generalize w.drewN nq = w2 at *
    have c8 : w2.cell? ⟨g, 8, none⟩ = some (.int .i64 z8) := (HN.cell 8).trans V8.out
    have c10 : w2.cell? ⟨g, 10, none⟩ = some (.int .i64 z10) := (HN.cell 10).trans V10.out
    have c12 : w2.cell? ⟨g, 12, none⟩ = some (.int .i64 bo) := (HN.cell 12).trans V12.out
    have c13 : w2.cell? ⟨g, 13, none⟩ = some (.int .i64 by_) := (HN.cell 13).trans V13.out
    have O3 := Lib.hid (O2.out w2)
    clear HN HH V8 V10 V12 V13 O1 O2
    go_wp2_with fail
    go_quiet (with_reducible exact Calls.quiet_of (O3.out _))
    cases b2
    · have E : Hid (r = 0) := Lib.hid (by rw [AE.out]; rfl)
      clear AE
      go_wp2_with fail
      go_ret
      exact ⟨by rw [E.out]; rfl, below_drewN BN.out _⟩
    · have E : Hid (r = 1) := Lib.hid (by rw [AE.out]; rfl)
      clear AE
      go_wp2_with fail
      go_ret
      exact ⟨by rw [E.out]; rfl, below_drewN BN.out _⟩
  · have E : Hid (r = 2) := Lib.hid (by rw [AE.out]; rfl)
    clear AE
    go_wp2_with fail
    go_ret
    exact ⟨by rw [E.out]; rfl, below_drewN (Below.refl _ _) _⟩
end Go.Proofs.YtppnkkpjfjhfkaaDoor.SadR1

/- The document's Find: the first association of a number and a direction. -/
set_option linter.unusedVariables false
namespace Go.Proofs.YtppnkkpjfjhfkaaDoor.SadR2
open Go.RowKit Go.Proofs.YtppnkkpjfjhfkaaDoor.Mem Go.Proofs.YtppnkkpjfjhfkaaDoor.Blk Go.Proofs.YtppnkkpjfjhfkaaDoor.ArgT Go.Proofs.YtppnkkpjfjhfkaaDoor.Longs Go.Proofs.YtppnkkpjfjhfkaaDoor.WinR Go.Proofs.YtppnkkpjfjhfkaaDoor.SadM

def hitE (spi : Int) (out : Bool) (e : Ent) : Bool := (e.life.x0 == spi) && (e.life.x7 == out)
def findI (spi : Int) (out : Bool) (es : List Ent) : Option Nat := es.findIdx? (hitE spi out)
def ptrAt (ls : List Spot) : Option Nat → Value
  | none => .pointer none
  | some i => match ls[i]? with
    | some l => ptr l.g
    | none => .pointer none
theorem findI_some {spi : Int} {out : Bool} {es : List Ent} {i : Nat} {e : Ent} (h1 : es[i]? = some e) (h2 : hitE spi out e = true) (h3 : ∀ (k : Nat) e', k < i → es[k]? = some e' → hitE spi out e' = false) : findI spi out es = some i := by
  unfold findI
  obtain ⟨hlt, rfl⟩ := List.getElem?_eq_some_iff.1 h1
  rw [List.findIdx?_eq_some_iff_getElem]
  refine ⟨hlt, h2, fun j hj => ?_⟩
  have := h3 j (es[j]'(by omega)) hj (List.getElem?_eq_getElem _)
  simp [this]
theorem findI_none {spi : Int} {out : Bool} {es : List Ent} (h3 : ∀ (k : Nat) e', k < es.length → es[k]? = some e' → hitE spi out e' = false) : findI spi out es = none := by
  unfold findI
  rw [List.findIdx?_eq_none_iff]
  intro x hx
  obtain ⟨k, hk⟩ := List.mem_iff_getElem?.1 hx
  obtain ⟨hlt, _⟩ := List.getElem?_eq_some_iff.1 hk
  exact h3 k x hlt hk
theorem findI_is {spi : Int} {out : Bool} {es : List Ent} {i : Nat} (h : findI spi out es = some i) : ∃ e, es[i]? = some e ∧ hitE spi out e = true := by
  unfold findI at h
  rw [List.findIdx?_eq_some_iff_getElem] at h
  obtain ⟨hlt, h2, _⟩ := h
  exact ⟨_, List.getElem?_eq_getElem hlt, h2⟩

set_option maxHeartbeats 2000000 in
theorem find_ref (base gs : Nat) (vl : Value) (ls : List Spot) (es : List Ent) (spi : Int) (out : Bool) (w : World) (h : SadAt w base gs vl ls es) (hn : es.length ≤ 1048576) :
    Calls Tryd.prog 46 #[.pointer (some ⟨gs, 0, none⟩), .int .i64 spi, .bool out] w fun er w' => er = .returned (ptrAt ls (findI spi out es)) ∧ Below w.heap.size w w' := by
  obtain ⟨A, c, rfl, hA⟩ := h.own.shape
  obtain ⟨n, hn0⟩ : ∃ n, n = es.length := ⟨_, rfl⟩
  have hl : (ls.map (·.g)).length = n := by rw [List.length_map, h.len, hn0]
  rw [hl] at h hA
  rw [← hn0] at hn
  have H := Lib.hid h
  have HN := Lib.hid hn0
  have c0 : w.cell? ⟨gs, 0, none⟩ = some (.slice A n c) := h.blk.cell 0
  obtain ⟨r, hr⟩ : ∃ r, r = findI spi out es := ⟨_, rfl⟩
  have AE := Lib.hid hr
  rw [← hr]
  clear h hA hl hn0 hr
  go_enter Tryd.func46, Tryd.ntmps46
  go_wp2_with fail
  go_loopw [7] (fun iv wr => ∃ i : Nat, iv = .int .i64 (i : Int) ∧ i ≤ n ∧ Hid (∀ (k : Nat) e', k < i → es[k]? = some e' → hitE spi out e' = false) ∧ Hid (Below w.heap.size w wr)) (fun iv _ => n - (intOf iv).toNat)
  case atStart => exact ⟨0, rfl, by omega, Lib.hid fun k _ hk => absurd hk (by omega), Lib.hid (Below.refl _ _)⟩
  case round =>
    obtain ⟨i, rfl, hi, HS, HB⟩ := hrel
    have H2 := H.out.up HB.out
    have c0 : wr.cell? ⟨gs, 0, none⟩ = some (.slice A n c) := H2.blk.cell 0
    by_cases hlt : i < n
    · have he : es[i]? = some (es[i]'(by rw [← HN.out]; exact hlt)) := List.getElem?_eq_getElem _
      have hl : ls[i]? = some (ls[i]'(by rw [H2.len, ← HN.out]; exact hlt)) := List.getElem?_eq_getElem _
      generalize es[i]'(by rw [← HN.out]; exact hlt) = e at he
      generalize ls[i]'(by rw [H2.len, ← HN.out]; exact hlt) = l at hl
      obtain ⟨A', c', hv, hA'⟩ := H2.own.shape
      have hlen : (ls.map (·.g)).length = n := by rw [List.length_map, H2.len, ← HN.out]
      rw [hlen] at hv hA'
      cases hv
      obtain ⟨b, rfl, hc⟩ := hA' (by omega)
      have cp : wr.cell? ⟨b, i, none⟩ = some (.pointer (some ⟨l.g, 0, none⟩)) := hc i l.g (by rw [List.getElem?_map, hl]; rfl)
      have hE := (H2.ent i l e hl he).1
      have ce0 : wr.cell? ⟨l.g, 0, none⟩ = some (.int .i64 e.life.x0) := hE.cell 0
      have ce7 : wr.cell? ⟨l.g, 7, none⟩ = some (.bool e.life.x7) := hE.cell 7
      have HE := Lib.hid he
      have P : Hid (ptrAt ls (some i) = .pointer (some ⟨l.g, 0, none⟩)) := Lib.hid (by simp only [ptrAt, hl]; rfl)
      have HT : Hid (hitE spi out e = ((e.life.x0 == spi) && (e.life.x7 == out))) := Lib.hid rfl
      generalize l.g = g at *
      generalize hx0 : e.life.x0 = z0 at *
      generalize hx7 : e.life.x7 = z7 at *
      clear hE hc hA' hlen H2 hl hx0 hx7 he
      by_cases q1 : z0 = spi
      · have g1 : (z0 == spi) = true := by simp [q1]
        by_cases q2 : z7 = out
        · have g2 : (z7 == out) = true := by simp [q2]
          have E : Hid (r = some i) := Lib.hid (by rw [AE.out]; exact findI_some HE.out (by rw [HT.out, g1, g2]; rfl) HS.out)
          clear HT HE HS AE q1 q2
          go_wp2_with fail
          go_ret
          exact ⟨by rw [E.out, P.out]; rfl, by first | exact HB.out | exact below_drewN HB.out _⟩
        · have g2 : (z7 == out) = false := by simp [q2]
          have N : Hid (∀ (k : Nat) e', k < i + 1 → es[k]? = some e' → hitE spi out e' = false) := Lib.hid (fun k e' hk hk' => by
            rcases Nat.lt_or_ge k i with q | q
            · exact HS.out k e' q hk'
            · obtain rfl : k = i := by omega
              rw [HE.out] at hk'; cases hk'; rw [HT.out, g1, g2]; rfl)
          clear HT HE HS q1 q2 P
          go_wp2_with fail
          go_roundw
          case rel => exact ⟨i + 1, by go_num, by omega, N, Lib.hid (by first | exact HB.out | exact below_drewN HB.out _)⟩
          case measure => simp [intOf]; omega
      · have g1 : (z0 == spi) = false := by simp [q1]
        have N : Hid (∀ (k : Nat) e', k < i + 1 → es[k]? = some e' → hitE spi out e' = false) := Lib.hid (fun k e' hk hk' => by
          rcases Nat.lt_or_ge k i with q | q
          · exact HS.out k e' q hk'
          · obtain rfl : k = i := by omega
            rw [HE.out] at hk'; cases hk'; rw [HT.out, g1]; rfl)
        clear HT HE HS q1 P
        go_wp2_with fail
        go_roundw
        case rel => exact ⟨i + 1, by go_num, by omega, N, Lib.hid (by first | exact HB.out | exact below_drewN HB.out _)⟩
        case measure => simp [intOf]; omega
    · have E : Hid (r = none) := Lib.hid (by rw [AE.out]; exact findI_none fun k e' hk => HS.out k e' (by have := HN.out; omega))
      clear H2 HS AE
      go_wp2_with fail
      go_ret
      exact ⟨by rw [E.out]; rfl, HB.out⟩
end Go.Proofs.YtppnkkpjfjhfkaaDoor.SadR2

/- The document's Age, Look. -/
set_option linter.unusedVariables false
namespace Go.Proofs.YtppnkkpjfjhfkaaDoor.SadR3
open Go.RowKit Go.Proofs.YtppnkkpjfjhfkaaDoor.Mem Go.Proofs.YtppnkkpjfjhfkaaDoor.Blk Go.Proofs.YtppnkkpjfjhfkaaDoor.ArgT Go.Proofs.YtppnkkpjfjhfkaaDoor.Longs Go.Proofs.YtppnkkpjfjhfkaaDoor.WinR Go.Proofs.YtppnkkpjfjhfkaaDoor.SadM Go.Proofs.YtppnkkpjfjhfkaaDoor.SadR1 Go.Proofs.YtppnkkpjfjhfkaaDoor.SadR2

/-- An association that is found, and where it lies. -/
theorem found {w : World} {base gs : Nat} {vl : Value} {ls : List Spot} {es : List Ent} {spi : Int} {out : Bool} {i : Nat} (h : SadAt w base gs vl ls es) (hf : findI spi out es = some i) : ∃ l e, ls[i]? = some l ∧ es[i]? = some e ∧ e ∈ es ∧ ptrAt ls (some i) = .pointer (some ⟨l.g, 0, none⟩) := by
  obtain ⟨e, he, _⟩ := findI_is hf
  obtain ⟨hlt, rfl⟩ := List.getElem?_eq_some_iff.1 he
  have hl : ls[i]? = some (ls[i]'(by rw [h.len]; exact hlt)) := List.getElem?_eq_getElem _
  exact ⟨_, _, hl, he, List.getElem_mem _, by simp only [ptrAt, hl]; rfl⟩
def NowOk (now : Int) (es : List Ent) : Prop := ∀ e ∈ es, -9223372036854775808 ≤ now - e.born ∧ now - e.born ≤ 9223372036854775807
def ageS (now spi : Int) (out : Bool) (es : List Ent) : Nat × Nat := match findI spi out es with
  | none => (0, 6)
  | some i => match es[i]? with
    | none => (0, 6)
    | some e => (ageN e now, 0)

set_option maxHeartbeats 1000000 in
theorem age_ref (base gs : Nat) (vl : Value) (ls : List Spot) (es : List Ent) (now spi : Int) (out : Bool) (w : World) (h : SadAt w base gs vl ls es) (hn : es.length ≤ 1048576) (hc : NowOk now es) :
    Calls Tryd.prog 25 #[.pointer (some ⟨gs, 0, none⟩), .int .i64 now, .int .i64 spi, .bool out] w fun er w' => er = .returned (.tuple #[.int .i64 ((ageS now spi out es).1 : Int), .int .i64 ((ageS now spi out es).2 : Int)]) ∧ Below w.heap.size w w' := by
  have C := Lib.hid (find_ref base gs vl ls es spi out w h hn)
  obtain ⟨r, hr⟩ : ∃ r, r = ageS now spi out es := ⟨_, rfl⟩
  rw [← hr]
  cases hf : findI spi out es with
  | none =>
    have E : Hid (r = (0, 6)) := Lib.hid (by rw [hr, ageS, hf])
    rw [hf] at C
    clear h hc hr hf
    go_enter Tryd.func25, Tryd.ntmps25
    go_wp2_with fail
    refine C.out.mono ?_
    rintro e w1 ⟨rfl, hb⟩
    have HB := Lib.hid hb
    clear hb C
    simp only [ptrAt]
    go_wp2_with fail
    go_ret2
    exact ⟨by rw [E.out]; rfl, HB.out⟩
  | some i =>
    obtain ⟨l, e, hl, he, hm, hp⟩ := found h hf
    have E : Hid (r = (ageN e now, 0)) := Lib.hid (by rw [hr, ageS, hf]; simp only [he])
    rw [hf, hp] at C
    have H := Lib.hid h
    have D := Lib.hid (And.intro hl he)
    have CB := Lib.hid (hc e hm)
    generalize l.g = g at hp
    clear h hc hr hf hl he hm hp
    go_enter Tryd.func25, Tryd.ntmps25
    go_wp2_with fail
    refine C.out.mono ?_
    rintro er w1 ⟨rfl, hb⟩
    have H2 := Lib.hid (H.out.up hb)
    have HB := Lib.hid hb
    have C2 := Lib.hid (age1_ref e l.g l.gw now w1 ((H.out.up hb).ent i l e D.out.1 D.out.2).1 CB.out)
    clear hb C H
    go_wp2_with fail
    refine C2.out.mono ?_
    rintro er w2 ⟨rfl, hb⟩
    have HB2 := Lib.hid (HB.out.trans (hb.mono HB.out.size))
    clear hb C2 H2 HB
    go_wp2_with fail
    go_ret2
    exact ⟨by rw [E.out]; rfl, HB2.out⟩
end Go.Proofs.YtppnkkpjfjhfkaaDoor.SadR3

