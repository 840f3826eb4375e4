/- The code's reached, age, end. -/
import Derived.Test.YtppnkkpjfjhfkaaDoorM28
import Derived.Lib.MinMax
import Derived.BigQuiet
import Derived.LoopTactic
set_option linter.unusedVariables false
namespace Go.Proofs.YtppnkkpjfjhfkaaDoor.Cad1
open Go.RowKit Go.Proofs.YtppnkkpjfjhfkaaDoor.Mem Go.Proofs.YtppnkkpjfjhfkaaDoor.Blk Go.Proofs.YtppnkkpjfjhfkaaDoor.ArgT Go.Proofs.YtppnkkpjfjhfkaaDoor.Longs Go.Proofs.YtppnkkpjfjhfkaaDoor.SadM Go.Proofs.YtppnkkpjfjhfkaaDoor.SadR1 Go.Proofs.YtppnkkpjfjhfkaaDoor.CadM

def rB (a l : Int) : Bool := (l != 0) && decide (l ≤ a)
theorem reached_c (a l : Int) (w : World) : Calls Tryd.prog 57 #[.int .i64 a, .int .i64 l] w fun e w' => e = .returned (.bool (rB a l)) ∧ ∃ m, w' = w.drewN m := by
  obtain ⟨r, hr⟩ : ∃ r, r = rB a l := ⟨_, rfl⟩
  rw [← hr]
  unfold rB at hr
  by_cases a1 : l = 0
  · have g1 : (l != 0) = false := by simp [a1]
    have E : Hid (r = false) := Lib.hid (by rw [hr, g1]; rfl)
    clear hr a1
    go_enter Tryd.func57, Tryd.ntmps57
    go_wp2_with fail
    go_ret
    exact ⟨by rw [E.out]; rfl, 0, rfl⟩
  · have g1 : (l != 0) = true := by simp [a1]
    by_cases a2 : l ≤ a
    · have g2 : decide (l ≤ a) = true := decide_eq_true a2
      have E : Hid (r = true) := Lib.hid (by rw [hr, g1, g2]; rfl)
      clear hr a1 a2
      go_enter Tryd.func57, Tryd.ntmps57
      go_wp2_with fail
      go_ret
      exact ⟨by rw [E.out]; rfl, 0, rfl⟩
    · have g2 : decide (l ≤ a) = false := decide_eq_false a2
      have E : Hid (r = false) := Lib.hid (by rw [hr, g1, g2]; rfl)
      clear hr a1 a2
      go_enter Tryd.func57, Tryd.ntmps57
      go_wp2_with fail
      go_ret
      exact ⟨by rw [E.out]; rfl, 0, rfl⟩
theorem over_r {b most now born long : Int} (h1 : 0 ≤ most) (h2 : 0 ≤ long) : overB b most (now - born) long = (rB b most || rB (max now born - born) long) := by
  unfold overB rB
  have e1 : decide (0 < most) = (most != 0) := by
    by_cases q : most = 0
    · simp [q]
    · rw [decide_eq_true (by omega)]; simp [q]
  rw [e1]
  congr 1
  by_cases q : long = 0
  · simp [q]
  · rw [decide_eq_true (show 0 < long by omega), show (long != 0) = true by simp [q]]
    rw [Bool.true_and, Bool.true_and]
    by_cases p : long ≤ now - born
    · rw [decide_eq_true p, decide_eq_true (by omega)]
    · rw [decide_eq_false p, decide_eq_false (by omega)]

set_option maxHeartbeats 1000000 in
theorem age1_c (e : Ent) (g : Nat) (v : Value) (now : Int) (w : World) (h : Blk w g 65 (acells e v)) (hf : Fits e) (hc : -9223372036854775808 ≤ now - e.born ∧ now - e.born ≤ 9223372036854775807) :
    Calls Tryd.prog 42 #[.pointer (some ⟨g, 0, none⟩), .int .i64 now] w fun er w' => er = .returned (.int .i64 (ageN e now : Int)) ∧ Below w.heap.size w w' := by
  have c8 : w.cell? ⟨g, 8, none⟩ = some (.int .i64 e.life.x8) := h.cell 8
  have c9 : w.cell? ⟨g, 9, none⟩ = some (.int .i64 e.life.x9) := h.cell 9
  have c10 : w.cell? ⟨g, 10, none⟩ = some (.int .i64 e.life.x10) := h.cell 10
  have c11 : w.cell? ⟨g, 11, none⟩ = some (.int .i64 e.life.x11) := h.cell 11
  have c12 : w.cell? ⟨g, 12, none⟩ = some (.int .i64 e.born) := h.cell 12
  have c13 : w.cell? ⟨g, 13, none⟩ = some (.int .i64 e.bytes) := h.cell 13
  have HH := Lib.hid h
  have V8 : Hid ((acells e v)[8]? = some (.int .i64 e.life.x8)) := Lib.hid rfl
  have V9 : Hid ((acells e v)[9]? = some (.int .i64 e.life.x9)) := Lib.hid rfl
  have V10 : Hid ((acells e v)[10]? = some (.int .i64 e.life.x10)) := Lib.hid rfl
  have V11 : Hid ((acells e v)[11]? = some (.int .i64 e.life.x11)) := Lib.hid rfl
  have V13 : Hid ((acells e v)[13]? = some (.int .i64 e.bytes)) := Lib.hid rfl
  generalize acells e v = CS at *
  obtain ⟨lim6, lim8, lim9, lim10, lim11⟩ := hf.lim
  have b0 := hf.born
  obtain ⟨p, hp⟩ : ∃ p, p = max now e.born - e.born := ⟨_, rfl⟩
  have f1 : IntKind.i64.wrap (max now e.born - e.born) = p := by rw [hp]; exact IntWalk.i64_in _ (by omega)
  have AE : Hid (ageN e now = if (rB e.bytes e.life.x9 || rB p e.life.x11) = true then 2 else if (rB e.bytes e.life.x8 || rB p e.life.x10) = true then 1 else 0) := Lib.hid (by
    unfold ageN
    rw [over_r lim9 lim11, over_r lim8 lim10, ← hp])
  obtain ⟨r, hr⟩ : ∃ r, r = ageN e now := ⟨_, rfl⟩
  rw [← hr] at AE ⊢
  have O1 := Lib.hid (fun (W : World) k => reached_c e.bytes e.life.x9 (W.drewN k))
  have O2 := Lib.hid (fun (W : World) => reached_c p e.life.x11 W)
  have O3 := Lib.hid (fun (W : World) k => reached_c e.bytes e.life.x8 (W.drewN k))
  have O4 := Lib.hid (fun (W : World) => reached_c p e.life.x10 W)
  generalize rB e.bytes e.life.x9 = b1 at *
  generalize rB p e.life.x11 = b2 at *
  generalize rB e.bytes e.life.x8 = b3 at *
  generalize rB p e.life.x10 = b4 at *
  clear hr h hp lim6 lim8 lim9 lim10 lim11 hf hc b0
  generalize e.bytes = by_ at *
  generalize e.born = bo at *
  generalize e.life.x8 = z8 at *
  generalize e.life.x9 = z9 at *
  generalize e.life.x10 = z10 at *
  generalize e.life.x11 = z11 at *
  go_enter Tryd.func42, Tryd.ntmps42
  go_wp2_with fail
  go_quiet (fail)
  have BN1 := Lib.hid (below_drewN (Below.refl w.heap.size w) nq)
  have HN1 := Lib.hid (HH.out.drewN nq)
  generalize w.drewN nq = w2 at *
  have c9 : w2.cell? ⟨g, 9, none⟩ = some (.int .i64 z9) := (HN1.out.cell 9).trans V9.out
  have c11 : w2.cell? ⟨g, 11, none⟩ = some (.int .i64 z11) := (HN1.out.cell 11).trans V11.out
  have c13 : w2.cell? ⟨g, 13, none⟩ = some (.int .i64 by_) := (HN1.out.cell 13).trans V13.out
  clear HH f1
  go_wp2_with fail
  go_quiet (with_reducible exact Calls.quiet_of (O1.out w2 _))
  have BN2 := Lib.hid (below_drewN BN1.out nq)
  have HN2 := Lib.hid (HN1.out.drewN nq)
  generalize w2.drewN nq = w3 at *
  clear BN1 HN1 O1 c9 c11 c13
  cases b1
  · have c11 : w3.cell? ⟨g, 11, none⟩ = some (.int .i64 z11) := (HN2.out.cell 11).trans V11.out
    go_wp2_with fail
    refine (O2.out w3).mono ?_
    rintro er w4 ⟨rfl, m2, rfl⟩
    clear O2 c11
    cases b2
    · have BNX := Lib.hid (below_drewN BN2.out m2)
      have HNX := Lib.hid (HN2.out.drewN m2)
      generalize w3.drewN m2 = w4 at *
      clear BN2 HN2
      have c8 : w4.cell? ⟨g, 8, none⟩ = some (.int .i64 z8) := (HNX.out.cell 8).trans V8.out
      have c10 : w4.cell? ⟨g, 10, none⟩ = some (.int .i64 z10) := (HNX.out.cell 10).trans V10.out
      have c13 : w4.cell? ⟨g, 13, none⟩ = some (.int .i64 by_) := (HNX.out.cell 13).trans V13.out
      go_wp2_with fail
      go_quiet (with_reducible exact Calls.quiet_of (O3.out w4 _))
      have BN4 := Lib.hid (below_drewN BNX.out nq)
      have HN4 := Lib.hid (HNX.out.drewN nq)
      generalize w4.drewN nq = w5 at *
      clear BNX HNX O3 c8 c10 c13
      cases b3
      · have c10 : w5.cell? ⟨g, 10, none⟩ = some (.int .i64 z10) := (HN4.out.cell 10).trans V10.out
        go_wp2_with fail
        refine (O4.out w5).mono ?_
        rintro er w6 ⟨rfl, m4, rfl⟩
        clear O4
        cases b4
        · have E : Hid (r = 0) := Lib.hid (by rw [AE.out]; rfl)
          clear AE
          go_wp2_with fail
          go_ret
          exact ⟨by rw [E.out]; rfl, below_drewN BN4.out _⟩
        · have E : Hid (r = 1) := Lib.hid (by rw [AE.out]; rfl)
          clear AE
          go_wp2_with fail
          go_ret
          exact ⟨by rw [E.out]; rfl, below_drewN BN4.out _⟩
      · have E : Hid (r = 1) := Lib.hid (by rw [AE.out]; rfl)
        clear AE
        go_wp2_with fail
        go_ret
        exact ⟨by rw [E.out]; rfl, BN4.out⟩
    · have E : Hid (r = 2) := Lib.hid (by rw [AE.out]; rfl)
      clear AE
      go_wp2_with fail
      go_ret
      exact ⟨by rw [E.out]; rfl, below_drewN BN2.out _⟩
  · have E : Hid (r = 2) := Lib.hid (by rw [AE.out]; rfl)
    clear AE
    go_wp2_with fail
    go_ret
    exact ⟨by rw [E.out]; rfl, BN2.out⟩
theorem end_c (e : Ent) (g : Nat) (v : Value) (w : World) (h : Blk w g 65 (acells e v)) :
    Calls Tryd.prog 36 #[.pointer (some ⟨g, 0, none⟩)] w fun er w' => er = .returned (.int .u64 (if e.life.x4 then 18446744073709551615 else 4294967295)) ∧ w = w' := by
  have c4 : w.cell? ⟨g, 4, none⟩ = some (.bool e.life.x4) := h.cell 4
  clear h
  generalize e.life.x4 = b at *
  cases b
  · go_enter Tryd.func36, Tryd.ntmps36
    go_wp2_with fail
    go_ret
    exact ⟨rfl, rfl⟩
  · go_enter Tryd.func36, Tryd.ntmps36
    go_wp2_with fail
    go_ret
    exact ⟨rfl, rfl⟩
def endN (r : LifeR) : Nat := if r.x4 then 18446744073709551615 else 4294967295
theorem end_q (e : Ent) (g : Nat) (v : Value) (w : World) (h : Blk w g 65 (acells e v)) :
    Calls Tryd.prog 36 #[.pointer (some ⟨g, 0, none⟩)] w fun er w' => er = .returned (.int .u64 (endN e.life : Int)) ∧ ∃ m, w' = w.drewN m :=
  (end_c e g v w h).mono fun er w' ⟨h1, h2⟩ => ⟨h1.trans (by unfold endN; cases e.life.x4 <;> rfl), 0, h2 ▸ rfl⟩
end Go.Proofs.YtppnkkpjfjhfkaaDoor.Cad1

/- The code's find, usable. -/
set_option linter.unusedVariables false
namespace Go.Proofs.YtppnkkpjfjhfkaaDoor.Cad2
open Go.RowKit Go.Proofs.YtppnkkpjfjhfkaaDoor.Mem Go.Proofs.YtppnkkpjfjhfkaaDoor.Blk Go.Proofs.YtppnkkpjfjhfkaaDoor.ArgT Go.Proofs.YtppnkkpjfjhfkaaDoor.Longs Go.Proofs.YtppnkkpjfjhfkaaDoor.SadM Go.Proofs.YtppnkkpjfjhfkaaDoor.SadR1 Go.Proofs.YtppnkkpjfjhfkaaDoor.SadR2 Go.Proofs.YtppnkkpjfjhfkaaDoor.CadM Go.Proofs.YtppnkkpjfjhfkaaDoor.Cad1 Go.Proofs.YtppnkkpjfjhfkaaDoor.RowN Go.Proofs.YtppnkkpjfjhfkaaDoor.RowA

/-- A failure, as a value. -/
def failV (spi : Int) (out : Bool) (k : Nat) : Value := .iface 92 (.agg #[.int .i64 spi, .bool out, .iface 42 (.int .i64 (k : Int))])
def foundV (ls : List CSpot) : Option Nat → Value
  | none => .pointer none
  | some i => match ls[i]? with
    | none => .pointer none
    | some l => ptr l.g
def foundE (spi : Int) (out : Bool) : Option Nat → Value
  | none => failV spi out 6
  | some _ => .nilIface
theorem find_nil (spi : Int) (out : Bool) (w : World) : Calls Tryd.prog 32 #[.pointer none, .int .i64 spi, .bool out] w fun er w' => er = .returned (.tuple #[.pointer none, failV spi out 3]) ∧ w = w' := by
  go_enter Tryd.func32, Tryd.ntmps32
  go_wp2_with fail
  go_ret2
  exact ⟨rfl, rfl⟩
set_option maxHeartbeats 2000000 in
theorem find_c (gs : Nat) (A : Option Addr) (n c : Nat) (ls : List CSpot) (es : List Ent) (spi : Int) (out : Bool) (w : World) (h : CadAt w gs A n c ls es) (hn : es.length ≤ 1048576) :
    Calls Tryd.prog 32 #[.pointer (some ⟨gs, 0, none⟩), .int .i64 spi, .bool out] w fun er w' => er = .returned (.tuple #[foundV ls (findI spi out es), foundE spi out (findI spi out es)]) ∧ Below w.heap.size w w' := by
  have hn0 := h.num
  rw [← hn0] at hn
  have H := Lib.hid h
  have HN := Lib.hid hn0
  have c0 : w.cell? ⟨gs, 0, none⟩ = some (.slice A n c) := h.blk.cell 0
  obtain ⟨r, hr⟩ : ∃ r, r = findI spi out es := ⟨_, rfl⟩
  have AE := Lib.hid hr
  rw [← hr]
  clear h hn0 hr
  go_enter Tryd.func32, Tryd.ntmps32
  go_wp2_with fail
  go_loopw [22] (fun iv wr => ∃ i : Nat, iv = .int .i64 (i : Int) ∧ i ≤ n ∧ Hid (∀ (k : Nat) e', k < i → es[k]? = some e' → hitE spi out e' = false) ∧ Hid (Below w.heap.size w wr)) (fun iv _ => n - (intOf iv).toNat)
  case atStart => exact ⟨0, rfl, by omega, Lib.hid fun k _ hk => absurd hk (by omega), Lib.hid (Below.refl _ _)⟩
  case round =>
    obtain ⟨i, rfl, hi, HS, HB⟩ := hrel
    have H2 := H.out.up HB.out
    by_cases hlt : i < n
    · have he : es[i]? = some (es[i]'(by rw [← HN.out]; exact hlt)) := List.getElem?_eq_getElem _
      have hl : ls[i]? = some (ls[i]'(by rw [H2.len, ← HN.out]; exact hlt)) := List.getElem?_eq_getElem _
      generalize es[i]'(by rw [← HN.out]; exact hlt) = e at he
      generalize ls[i]'(by rw [H2.len, ← HN.out]; exact hlt) = l at hl
      obtain ⟨b, X, rfl, -⟩ := H2.row.row.some (by omega)
      have cp : wr.cell? ⟨b, i, none⟩ = some (.pointer (some ⟨l.g, 0, none⟩)) := H2.row.row.cell rfl (by rw [List.getElem?_map, hl]; rfl)
      have hE := (H2.ent i l e hl he).1
      have ce0 : wr.cell? ⟨l.g, 0, none⟩ = some (.int .i64 e.life.x0) := hE.cell 0
      have ce7 : wr.cell? ⟨l.g, 7, none⟩ = some (.bool e.life.x7) := hE.cell 7
      have HE := Lib.hid he
      have P : Hid (foundV ls (some i) = .pointer (some ⟨l.g, 0, none⟩)) := Lib.hid (by simp only [foundV, hl]; rfl)
      have HT : Hid (hitE spi out e = ((e.life.x0 == spi) && (e.life.x7 == out))) := Lib.hid rfl
      generalize l.g = g at *
      generalize hx0 : e.life.x0 = z0 at *
      generalize hx7 : e.life.x7 = z7 at *
      clear hE H2 hl hx0 hx7 he
      by_cases q1 : z0 = spi
      · have g1 : (z0 == spi) = true := by simp [q1]
        by_cases q2 : z7 = out
        · have g2 : (z7 == out) = true := by simp [q2]
          have E : Hid (r = some i) := Lib.hid (by rw [AE.out]; exact findI_some HE.out (by rw [HT.out, g1, g2]; rfl) HS.out)
          clear HT HE HS AE q1 q2
          go_wp2_with fail
          go_ret2
          exact ⟨by rw [E.out, P.out]; rfl, by first | exact HB.out | exact below_drewN HB.out _⟩
        · have g2 : (z7 == out) = false := by simp [q2]
          have N : Hid (∀ (k : Nat) e', k < i + 1 → es[k]? = some e' → hitE spi out e' = false) := Lib.hid (fun k e' hk hk' => by
            rcases Nat.lt_or_ge k i with q | q
            · exact HS.out k e' q hk'
            · obtain rfl : k = i := by omega
              rw [HE.out] at hk'; cases hk'; rw [HT.out, g1, g2]; rfl)
          clear HT HE HS q1 q2 P
          go_wp2_with fail
          go_roundw
          case rel => exact ⟨i + 1, by go_num, by omega, N, Lib.hid (by first | exact HB.out | exact below_drewN HB.out _)⟩
          case measure => simp [intOf]; omega
      · have g1 : (z0 == spi) = false := by simp [q1]
        have N : Hid (∀ (k : Nat) e', k < i + 1 → es[k]? = some e' → hitE spi out e' = false) := Lib.hid (fun k e' hk hk' => by
          rcases Nat.lt_or_ge k i with q | q
          · exact HS.out k e' q hk'
          · obtain rfl : k = i := by omega
            rw [HE.out] at hk'; cases hk'; rw [HT.out, g1]; rfl)
        clear HT HE HS q1 P
        go_wp2_with fail
        go_roundw
        case rel => exact ⟨i + 1, by go_num, by omega, N, Lib.hid (by first | exact HB.out | exact below_drewN HB.out _)⟩
        case measure => simp [intOf]; omega
    · have E : Hid (r = none) := Lib.hid (by rw [AE.out]; exact findI_none fun k e' hk => HS.out k e' (by have := HN.out; omega))
      clear H2 HS AE
      go_wp2_with fail
      go_ret2
      exact ⟨by rw [E.out]; rfl, HB.out⟩
/-- Which association may be used: its place; or why none. -/
def useI (now spi : Int) (out : Bool) (n : Int) (es : List Ent) : Option Nat × Nat := if n < 0 then (none, 1) else match findI spi out es with
  | none => (none, 6)
  | some i => match es[i]? with
    | none => (none, 6)
    | some e => if ageN e now = 2 then (none, 171) else (some i, 0)
def useE (spi : Int) (out : Bool) (u : Option Nat × Nat) : Value := match u.1 with
  | none => failV spi out u.2
  | some _ => .nilIface
theorem use_some {now spi : Int} {out : Bool} {n : Int} {es : List Ent} {i k : Nat} (h : useI now spi out n es = (some i, k)) : ¬ n < 0 ∧ findI spi out es = some i ∧ ∃ e, es[i]? = some e ∧ e.life.x7 = out ∧ ¬ ageN e now = 2 := by
  unfold useI at h
  by_cases q : n < 0
  · rw [if_pos q] at h; cases h
  · rw [if_neg q] at h
    cases hf : findI spi out es with
    | none => rw [hf] at h; cases h
    | some j =>
      obtain ⟨e, he, hh⟩ := findI_is hf
      rw [hf] at h
      simp only [he] at h
      by_cases a : ageN e now = 2
      · rw [if_pos a] at h; cases h
      · rw [if_neg a] at h
        cases h
        simp only [hitE, Bool.and_eq_true, beq_iff_eq] at hh
        exact ⟨q, rfl, e, he, hh.2, a⟩
theorem usable_nil (now spi : Int) (out : Bool) (n : Int) (w : World) : Calls Tryd.prog 34 #[.pointer none, .int .i64 now, .int .i64 spi, .bool out, .int .i64 n] w fun er w' => er = .returned (.tuple #[.pointer none, failV spi out 3]) ∧ w = w' := by
  go_enter Tryd.func34, Tryd.ntmps34
  go_wp2_with fail
  refine (find_nil spi out w).mono ?_
  rintro er w1 ⟨rfl, rfl⟩
  unfold failV
  go_wp2_with fail
  go_ret2
  exact ⟨rfl, rfl⟩
set_option maxHeartbeats 2000000 in
theorem usable_c (gs : Nat) (A : Option Addr) (m c : Nat) (ls : List CSpot) (es : List Ent) (now spi : Int) (out : Bool) (n : Int) (w : World) (h : CadAt w gs A m c ls es) (hn : es.length ≤ 1048576) (hc : SadR3.NowOk now es) :
    Calls Tryd.prog 34 #[.pointer (some ⟨gs, 0, none⟩), .int .i64 now, .int .i64 spi, .bool out, .int .i64 n] w fun er w' => er = .returned (.tuple #[foundV ls (useI now spi out n es).1, useE spi out (useI now spi out n es)]) ∧ Below w.heap.size w w' := by
  obtain ⟨u, hu⟩ : ∃ u, u = useI now spi out n es := ⟨_, rfl⟩
  rw [← hu]
  unfold useI at hu
  by_cases n0 : n < 0
  · have g1 : decide (n < 0) = true := decide_eq_true n0
    rw [if_pos n0] at hu
    have E : Hid (u = (none, 1)) := Lib.hid hu
    clear hu h hc n0
    go_enter Tryd.func34, Tryd.ntmps34
    go_wp2_with fail
    go_ret2
    exact ⟨by rw [E.out]; rfl, Below.refl _ _⟩
  · have g1 : decide (n < 0) = false := decide_eq_false n0
    rw [if_neg n0] at hu
    have FC := Lib.hid (find_c gs A m c ls es spi out w h hn)
    have HU := Lib.hid hu
    have HH := Lib.hid h
    have HC := Lib.hid hc
    clear hu h hc n0
    go_enter Tryd.func34, Tryd.ntmps34
    go_wp2_with fail
    refine FC.out.mono ?_
    rintro er w1 ⟨rfl, hb⟩
    cases hf : findI spi out es with
    | none =>
      have E : Hid (u = (none, 6)) := Lib.hid (by rw [HU.out, hf])
      have HB := Lib.hid hb
      clear FC HU HH HC hf hb
      unfold foundV foundE failV
      go_wp2_with fail
      go_ret2
      exact ⟨by rw [E.out]; rfl, HB.out⟩
    | some i =>
      obtain ⟨e, he, _⟩ := findI_is hf
      obtain ⟨l, hl⟩ : ∃ l, ls[i]? = some l := ⟨_, List.getElem?_eq_getElem (by rw [HH.out.len]; exact (List.getElem?_eq_some_iff.1 he).1)⟩
      have AG := Lib.hid (fun (k : Nat) => age1_c e l.g (wptr l) now w1 (((HH.out.up hb).ent i l e hl he).1) ((HH.out.up hb).ent i l e hl he).2.2.2 (HC.out e (List.mem_of_getElem? he)))
      have P : Hid (foundV ls (some i) = ptr l.g) := Lib.hid (by simp only [foundV, hl])
      have HU2 : Hid (u = if ageN e now = 2 then (none, 171) else (some i, 0)) := Lib.hid (by rw [HU.out, hf]; simp only [he])
      have HB := Lib.hid hb
      rw [P.out]
      clear FC HU HH HC hf he hl hb
      generalize l.g = g at *
      generalize ageN e now = a at *
      unfold foundE ptr
      go_wp2_with fail
      refine (AG.out 0).mono ?_
      rintro er w2 ⟨rfl, hb2⟩
      have HB2 := Lib.hid (HB.out.trans (hb2.mono HB.out.size))
      clear HB AG hb2
      by_cases a2 : a = 2
      · have E : Hid (u = (none, 171)) := Lib.hid (by rw [HU2.out, if_pos a2])
        have g2 : ((a : Int) == 2) = true := by rw [beq_iff_eq]; omega
        clear HU2 a2
        go_wp2_with fail
        go_ret2
        exact ⟨by rw [E.out]; rfl, HB2.out⟩
      · have E : Hid (u = (some i, 0)) := Lib.hid (by rw [HU2.out, if_neg a2])
        have g2 : ((a : Int) == 2) = false := by rw [beq_eq_false_iff_ne]; omega
        clear HU2 a2
        go_wp2_with fail
        go_ret2
        exact ⟨by rw [E.out]; show _ = Ending.returned (.tuple #[foundV ls (some i), _]); rw [P.out]; rfl, HB2.out⟩
end Go.Proofs.YtppnkkpjfjhfkaaDoor.Cad2

