/- SplitAgain's walk, given Split's contract. -/
import Derived.Test.YtibfdacgdffpiaaDoorLawMany19
import Derived.Test.YtibfdacgdffpiaaDoorFew19
import Derived.Test.YtibfdacgdffpiaaDoorSame
import Derived.BigQuiet
import Derived.Deep.QuietTactic
import Derived.Lib.QuietBelow
set_option linter.unusedVariables false
namespace Go.Proofs.YtibfdacgdffpiaaDoor.LawAgain19
open Go.RowKit Go.Sort Go.Proofs.YtibfdacgdffpiaaDoor.Sums Go.Proofs.YtibfdacgdffpiaaDoor.Mem Go.Proofs.YtibfdacgdffpiaaDoor.Blk Go.Proofs.YtibfdacgdffpiaaDoor.Pkt Go.Proofs.YtibfdacgdffpiaaDoor.Check Go.Proofs.YtibfdacgdffpiaaDoor.SplD Go.Proofs.YtibfdacgdffpiaaDoor.SplM Go.Proofs.YtibfdacgdffpiaaDoor.SplN Go.Proofs.YtibfdacgdffpiaaDoor.SplP Go.Proofs.YtibfdacgdffpiaaDoor.Errno Go.Proofs.YtibfdacgdffpiaaDoor.Few19 Go.Proofs.YtibfdacgdffpiaaDoor.LawMany19 Go.Proofs.YtibfdacgdffpiaaDoor.Same

theorem blk_pkt {W : World} {g : Nat} {p : Pkt} {D : Value} (h : Blk W g 24 (pcCells p D).toArray) : (loadVar 24 ⟨g, 0, none⟩).run Tryd.prog W = .ok (.agg (pcCells p D).toArray) W :=
  Part.run_part W g 0 24 (pcCells p D) _ Tryd.underlying24 rfl (by kernel_rfl) fun j v hj => by
    rw [Nat.zero_add, h.cell, List.getElem?_toArray]
    exact hj
attribute [local irreducible] wpList wpQuiet
set_option maxRecDepth 100000 in
set_option maxHeartbeats 4000000 in
theorem again_any (HS : SplitSpec) (AW : AwakeSpec) (p : Pkt) (A : Option Addr) (n c B : Nat) (l : List Int) (x y : Int) (w : World) (hg : Handle w) (h : Holds w B A n c l) (hB : B ≤ w.heap.size) (h1 : p.src.size ≤ 140737488355328) (h2 : p.dst.size ≤ 140737488355328) (h3 : p.opt.size ≤ 140737488355328) (h4 : n ≤ 140737488355328) (hx : -9223372036854775808 ≤ x) (hx2 : x ≤ 9223372036854775807) :
    Calls Tryd.prog 4 #[val p (.slice A n c), .int .i64 x, .int .i64 y] w fun e w' => e = .returned (.bool true) ∧ Below w.heap.size w w' := by
  have B0 := Lib.hid ((Below.refl w.heap.size w).alloc (Nat.le_refl _) (.cells (pcCells p (.slice A n c)).toArray 24))
  have K0 := Lib.hid (Blk.new w 24 (pcCells p (.slice A n c)).toArray)
  have GH : Hid (∀ W, Below w.heap.size w W → Handle W) := Lib.hid fun W hW => hg.keep hW
  have HH : Hid (∀ W, Below w.heap.size w W → Holds W B A n c l) := Lib.hid fun W hW => h.below (hW.mono hB)
  have LN : Hid (l.length = n) := Lib.hid h.1
  obtain ⟨w0, hw0⟩ : ∃ w0, w0 = w.alloc (.cells (pcCells p (.slice A n c)).toArray 24) := ⟨_, rfl⟩
  have W0 := Lib.hid hw0.symm
  rw [← hw0] at B0 K0
  have FC := Lib.hid (few_any p A n c w0 h1 h2 h3 h4)
  have KP : Hid (∀ W, Below w0.heap.size w0 W → (loadVar 24 ⟨w.heap.size, 0, none⟩).run Tryd.prog W = .ok (.agg (pcCells p (.slice A n c)).toArray) W) := Lib.hid fun W hW => blk_pkt (K0.out.below hW K0.out.lt)
  have KC : Hid (∀ W, Below w0.heap.size w0 W → W.cell? ⟨w.heap.size, 6, none⟩ = some (.int .i64 p.off)) := Lib.hid fun W hW => (K0.out.below hW K0.out.lt).cell 6
  have RP := KP.out w0 (Below.refl _ _)
  obtain ⟨fb, hfb⟩ : ∃ fb, fewB p n = fb := ⟨_, rfl⟩
  rw [hfb] at FC
  have FB := Lib.hid hfb
  unfold val at FC ⊢
  clear hw0 h hg hfb K0
  go_enter Tryd.func4, Tryd.ntmps4
  go_wp2_with (refine Part.wpList_load_part rfl 24 (.tmp 3) rfl w.heap.size 0 [.int .i64 p.tos, .int .i64 p.id, .int .i64 p.ttl, .int .i64 p.proto, .bool p.df, .bool p.mf, .int .i64 p.off, .string p.src, .string p.dst, .string p.opt, .slice A n c] rfl (by rw [W0.out]; exact RP) ?_)
  have FC' := FC.out
  rw [← W0.out] at FC'
  refine FC'.mono ?_
  rintro e w1 ⟨rfl, hb⟩
  rw [W0.out] at hb
  have C1 := Lib.hid hb
  have B1 := Lib.hid (B0.out.trans (hb.mono B0.out.size))
  clear FC FC' hb RP
  cases fb with
  | false =>
    clear HS AW
    go_wp2_with fail
    go_ret
    exact ⟨rfl, B1.out⟩
  | true =>
  have few : p.src.size + p.dst.size + p.opt.size ≤ 300 ∧ n ≤ 3000 := by
    have := FB.out
    unfold fewB at this
    simpa using this
  by_cases y0 : y < 0
  · have a0 : decide (y < 0) = true := decide_eq_true y0
    clear HS AW y0 few
    go_wp2_with fail
    go_ret
    exact ⟨rfl, B1.out⟩
  have a0 : decide (y < 0) = false := decide_eq_false y0
  by_cases y1 : 70000 < y
  · have a1 : decide (70000 < y) = true := decide_eq_true y1
    clear HS AW y0 y1 few
    go_wp2_with fail
    go_ret
    exact ⟨rfl, B1.out⟩
  have a1 : decide (70000 < y) = false := decide_eq_false y1
  by_cases x1 : 70000 < x
  · have a2 : decide (70000 < x) = true := decide_eq_true x1
    clear HS AW y0 y1 x1 few
    go_wp2_with fail
    go_ret
    exact ⟨rfl, B1.out⟩
  have a2 : decide (70000 < x) = false := decide_eq_false x1
  have RP := KP.out w1 C1.out
  obtain ⟨⟨e1, ps⟩, hR1⟩ : ∃ R, splitR p l x = R := ⟨_, rfl⟩
  obtain ⟨⟨e2, qs⟩, hR2⟩ : ∃ R, splitR p l (x + y) = R := ⟨_, rfl⟩
  have SC1 := Lib.hid (HS p A n c B l x w1 (GH.out w1 B1.out) (HH.out w1 B1.out) (Nat.le_trans hB B1.out.size) (by omega) (by omega) hx hx2)
  have SC2 : Hid (∀ W, Below w.heap.size w W → Calls Tryd.prog 7 #[val p (.slice A n c), .int .i64 (x + y)] W fun e w' => (∃ v, e = .returned (.tuple #[v, .int .i64 (splitR p l (x + y)).1]) ∧ PcsAt w' v (splitR p l (x + y)).2) ∧ Below W.heap.size W w') := Lib.hid fun W hW => HS p A n c B l (x + y) W (GH.out W hW) (HH.out W hW) (Nat.le_trans hB hW.size) (by omega) (by omega) (by omega) (by omega)
  rw [hR1] at SC1
  rw [hR2] at SC2
  have HR1 := Lib.hid hR1
  have HR2 := Lib.hid hR2
  have hadd : IntKind.i64.wrap (x + y) = x + y := IntWalk.i64_in _ (by omega)
  unfold val at SC1 SC2
  have lim := Lib.hid (And.intro few (And.intro y0 (And.intro y1 x1)))
  clear hR1 hR2 few y1 x1 h1 h2 h3 h4
  go_wp2_with (refine Part.wpList_load_part rfl 24 (.tmp 3) rfl w.heap.size 0 [.int .i64 p.tos, .int .i64 p.id, .int .i64 p.ttl, .int .i64 p.proto, .bool p.df, .bool p.mf, .int .i64 p.off, .string p.src, .string p.dst, .string p.opt, .slice A n c] rfl RP ?_)
  refine SC1.out.mono ?_
  rintro e w2 ⟨⟨v, rfl, hp⟩, hb⟩
  have P2 := Lib.hid hp
  obtain ⟨A2, c2, rfl, -⟩ := hp
  have C2 := Lib.hid (C1.out.trans (hb.mono C1.out.size))
  have B2 := Lib.hid (B1.out.trans (hb.mono B1.out.size))
  have RP := KP.out w2 C2.out
  clear hb SC1 C1 B1 a0 a1 a2
  go_wp2_with (refine Part.wpList_load_part rfl 24 (.tmp 3) rfl w.heap.size 0 [.int .i64 p.tos, .int .i64 p.id, .int .i64 p.ttl, .int .i64 p.proto, .bool p.df, .bool p.mf, .int .i64 p.off, .string p.src, .string p.dst, .string p.opt, .slice A n c] rfl RP ?_)
  refine (SC2.out _ B2.out).mono ?_
  rintro e w3 ⟨⟨v, rfl, hp⟩, hb⟩
  have P3 := Lib.hid (P2.out.below hb)
  obtain ⟨A3, c3, rfl, -⟩ := hp
  have C3 := Lib.hid (C2.out.trans (hb.mono C2.out.size))
  have B3 := Lib.hid (B2.out.trans (hb.mono B2.out.size))
  clear hb SC2 C2 B2 hadd P2 RP
  by_cases z : e1 = 0
  · subst z
    obtain ⟨k, hk⟩ : ∃ k, ps.length = k := ⟨_, rfl⟩
    have HK := Lib.hid hk
    have KL : k ≤ 5000 := by
      have h0 : (splitR p l x).1 = 0 := by rw [HR1.out]
      obtain ⟨_, _, _, lat, _, _, e, _⟩ := split_zero h0
      rw [HR1.out] at e
      simp only at e
      have := cuts_len (m := x.toNat) (o := p.opt.size) (lat := lat.size) (n := l.length) (l.length + 1) 0
      have e' : ps.length = _ := congrArg List.length e
      rw [List.length_map] at e'
      have := LN.out
      have := lim.out.1.2
      omega
    rw [hk]
    clear hk
    go_wp2_with fail
    go_loopw [11] (fun iv wr => ∃ i : Nat, iv = .int .i64 (i : Int) ∧ i ≤ k ∧ Hid (PcsAt wr (.slice A2 ps.length c2) ps) ∧ Hid (Below w0.heap.size w0 wr)) (fun iv _ => k - (intOf iv).toNat)
    case atStart => exact ⟨0, rfl, Nat.zero_le _, P3, C3⟩
    case round =>
      clear P3 B3 C3
      obtain ⟨i, rfl, hi, HP, HC⟩ := hrel
      have HB := Lib.hid (B0.out.trans (HC.out.mono B0.out.size))
      by_cases lt : i < k
      · have hz : ps[i]? = some (ps[i]'(by rw [HK.out]; exact lt)) := List.getElem?_eq_getElem _
        generalize ps[i]'(by rw [HK.out]; exact lt) = z at hz
        have h0 : (splitR p l x).1 = 0 := by rw [HR1.out]
        have ag := split_again h0 (i := i) (x := z) (by rw [HR1.out]; exact hz)
        obtain ⟨zv, zn, -⟩ := split_zero (p := z.1) (l := z.2) (mtu := x) (by rw [ag])
        obtain ⟨A8, c8, e2, hat⟩ := HP.out
        obtain ⟨b, o, A7, c7, e3, hbl, hcl, hol⟩ := hat i z hz
        injection e2 with e4 e5 e6
        subst e4
        subst e3
        have RP : (loadVar 24 ⟨b, o + i * 11, none⟩).run Tryd.prog wr = .ok (.agg (pcCells z.1 (.slice A7 z.2.length c7)).toArray) wr := Part.run_part wr b (o + i * 11) 24 (pcCells z.1 (.slice A7 z.2.length c7)) _ Tryd.underlying24 rfl (by kernel_rfl) hcl
        have SC := Lib.hid (HS z.1 A7 z.2.length c7 wr.heap.size z.2 x wr (GH.out wr HB.out) hol (Nat.le_refl _) (by have := zv.z; omega) (by omega) hx hx2)
        rw [ag] at SC
        unfold val at SC
        have HCL := Lib.hid hcl
        have HOL := Lib.hid hol
        have HBL := Lib.hid hbl
        have ik : i < k := lt
        clear h0 ag zv zn hat e5 e6 hz hcl hol
        go_wp2_with (refine Part.wpList_load_part rfl 24 (.tmp 68) rfl b (o + i * 11) [.int .i64 z.1.tos, .int .i64 z.1.id, .int .i64 z.1.ttl, .int .i64 z.1.proto, .bool z.1.df, .bool z.1.mf, .int .i64 z.1.off, .string z.1.src, .string z.1.dst, .string z.1.opt, .slice A7 z.2.length c7] rfl RP ?_)
        refine SC.out.mono ?_
        rintro e w5 ⟨⟨v, rfl, hp⟩, hb⟩
        obtain ⟨A5, c5, rfl, hat5⟩ := hp
        obtain ⟨b5, o5, A6, c6, e3, hbl5, hc5, hol5⟩ := hat5 0 z rfl
        subst e3
        rw [Nat.zero_mul, Nat.add_zero] at hc5
        have hc7 := HCL.out.below hb HBL.out
        have SM := Lib.hid (fun d os => same_yes z.1 A6 A7 z.2.length c6 z.2.length c7 w5.heap.size z.2 (grow (redrawn w5 d) os) (hol5.below (below_regrown w5 d os)) (((HOL.out.below hb).more hb.size).below (below_regrown w5 d os)) (below_regrown w5 d os).size)
        unfold val at SM
        have B5 := Lib.hid (HB.out.trans (hb.mono HB.out.size))
        have P5 := Lib.hid (HP.out.below hb)
        have C5 := Lib.hid (HC.out.trans (hb.mono HC.out.size))
        have pa0 : ∀ d os, (grow (redrawn w5 d) os).cell? ⟨b5, o5, none⟩ = some (.int .i64 z.1.tos) := fun d os => cell_regrown (by simpa using hc5 0 _ rfl) d os
        have pa1 : ∀ d os, (grow (redrawn w5 d) os).cell? ⟨b5, o5 + 1, none⟩ = some (.int .i64 z.1.id) := fun d os => cell_regrown (by simpa using hc5 1 _ rfl) d os
        have pa2 : ∀ d os, (grow (redrawn w5 d) os).cell? ⟨b5, o5 + 2, none⟩ = some (.int .i64 z.1.ttl) := fun d os => cell_regrown (by simpa using hc5 2 _ rfl) d os
        have pa3 : ∀ d os, (grow (redrawn w5 d) os).cell? ⟨b5, o5 + 3, none⟩ = some (.int .i64 z.1.proto) := fun d os => cell_regrown (by simpa using hc5 3 _ rfl) d os
        have pa4 : ∀ d os, (grow (redrawn w5 d) os).cell? ⟨b5, o5 + 4, none⟩ = some (.bool z.1.df) := fun d os => cell_regrown (by simpa using hc5 4 _ rfl) d os
        have pa5 : ∀ d os, (grow (redrawn w5 d) os).cell? ⟨b5, o5 + 5, none⟩ = some (.bool z.1.mf) := fun d os => cell_regrown (by simpa using hc5 5 _ rfl) d os
        have pa6 : ∀ d os, (grow (redrawn w5 d) os).cell? ⟨b5, o5 + 6, none⟩ = some (.int .i64 z.1.off) := fun d os => cell_regrown (by simpa using hc5 6 _ rfl) d os
        have pa7 : ∀ d os, (grow (redrawn w5 d) os).cell? ⟨b5, o5 + 7, none⟩ = some (.string z.1.src) := fun d os => cell_regrown (by simpa using hc5 7 _ rfl) d os
        have pa8 : ∀ d os, (grow (redrawn w5 d) os).cell? ⟨b5, o5 + 8, none⟩ = some (.string z.1.dst) := fun d os => cell_regrown (by simpa using hc5 8 _ rfl) d os
        have pa9 : ∀ d os, (grow (redrawn w5 d) os).cell? ⟨b5, o5 + 9, none⟩ = some (.string z.1.opt) := fun d os => cell_regrown (by simpa using hc5 9 _ rfl) d os
        have pa10 : ∀ d os, (grow (redrawn w5 d) os).cell? ⟨b5, o5 + 10, none⟩ = some (.slice A6 z.2.length c6) := fun d os => cell_regrown (by simpa using hc5 10 _ rfl) d os
        have pb0 : ∀ d os, (grow (redrawn w5 d) os).cell? ⟨b, o + i * 11, none⟩ = some (.int .i64 z.1.tos) := fun d os => cell_regrown (by simpa using hc7 0 _ rfl) d os
        have pb1 : ∀ d os, (grow (redrawn w5 d) os).cell? ⟨b, o + i * 11 + 1, none⟩ = some (.int .i64 z.1.id) := fun d os => cell_regrown (by simpa using hc7 1 _ rfl) d os
        have pb2 : ∀ d os, (grow (redrawn w5 d) os).cell? ⟨b, o + i * 11 + 2, none⟩ = some (.int .i64 z.1.ttl) := fun d os => cell_regrown (by simpa using hc7 2 _ rfl) d os
        have pb3 : ∀ d os, (grow (redrawn w5 d) os).cell? ⟨b, o + i * 11 + 3, none⟩ = some (.int .i64 z.1.proto) := fun d os => cell_regrown (by simpa using hc7 3 _ rfl) d os
        have pb4 : ∀ d os, (grow (redrawn w5 d) os).cell? ⟨b, o + i * 11 + 4, none⟩ = some (.bool z.1.df) := fun d os => cell_regrown (by simpa using hc7 4 _ rfl) d os
        have pb5 : ∀ d os, (grow (redrawn w5 d) os).cell? ⟨b, o + i * 11 + 5, none⟩ = some (.bool z.1.mf) := fun d os => cell_regrown (by simpa using hc7 5 _ rfl) d os
        have pb6 : ∀ d os, (grow (redrawn w5 d) os).cell? ⟨b, o + i * 11 + 6, none⟩ = some (.int .i64 z.1.off) := fun d os => cell_regrown (by simpa using hc7 6 _ rfl) d os
        have pb7 : ∀ d os, (grow (redrawn w5 d) os).cell? ⟨b, o + i * 11 + 7, none⟩ = some (.string z.1.src) := fun d os => cell_regrown (by simpa using hc7 7 _ rfl) d os
        have pb8 : ∀ d os, (grow (redrawn w5 d) os).cell? ⟨b, o + i * 11 + 8, none⟩ = some (.string z.1.dst) := fun d os => cell_regrown (by simpa using hc7 8 _ rfl) d os
        have pb9 : ∀ d os, (grow (redrawn w5 d) os).cell? ⟨b, o + i * 11 + 9, none⟩ = some (.string z.1.opt) := fun d os => cell_regrown (by simpa using hc7 9 _ rfl) d os
        have pb10 : ∀ d os, (grow (redrawn w5 d) os).cell? ⟨b, o + i * 11 + 10, none⟩ = some (.slice A7 z.2.length c7) := fun d os => cell_regrown (by simpa using hc7 10 _ rfl) d os
        clear hat5 hc5 hc7 hol5 hbl5 hb SC RP HCL HOL HP HB HC
        go_wp2_with fail
        refine wp_region_quiet_below (by kernel_rfl) (by kernel_rfl) ?_
        repeat (go_big_quiet_step (with_reducible exact Calls.regrown_of (SM.out _ _)))
        refine wpQuiet_nil ?_
        intro _ hw'
        obtain ⟨⟨dq, osq⟩, hw''⟩ := hw'
        subst hw''
        have BQ := Lib.hid (below_regrown w5 dq osq)
        have P6 := Lib.hid (P5.out.below BQ.out)
        have C6 := Lib.hid (C5.out.trans (BQ.out.mono C5.out.size))
        clear pa0 pa1 pa2 pa3 pa4 pa5 pa6 pa7 pa8 pa9 pa10 pb0 pb1 pb2 pb3 pb4 pb5 pb6 pb7 pb8 pb9 pb10 SM P5 B5 C5 BQ
        generalize grow (redrawn w5 dq) osq = w6 at *
        go_wp2_with fail
        go_roundw
        case rel => exact ⟨i + 1, by go_num, by omega, P6, C6⟩
        case measure => simp [intOf]; omega
      · have AQ := Lib.hid (AW wr (GH.out wr HB.out))
        have way := split_more (p := p) (l := l) (m := x) (m' := x + y) (by rw [HR1.out]) (by have := lim.out.2.1; omega) (by have := LN.out; have := lim.out.1.2; omega)
        rw [HR1.out, HR2.out, HK.out] at way
        simp only at way
        rcases way with ⟨rfl, hle⟩ | ⟨rfl, hoff⟩
        · obtain ⟨kq, hkq⟩ : ∃ kq, qs.length = kq := ⟨_, rfl⟩
          rw [hkq] at hle
          have k1 : decide ((kq : Int) ≤ (k : Int)) = true := decide_eq_true (by omega)
          have k2 : decide (kq ≤ k) = true := decide_eq_true hle
          rw [hkq]
          clear HS AW HP hkq
          go_wp2_with fail
          refine AQ.out.mono ?_
          rintro e w7 ⟨rfl, hb7⟩
          have B7 := Lib.hid (HB.out.trans (hb7.mono HB.out.size))
          clear hb7 AQ
          go_wp2_with fail
          go_ret
          exact ⟨rfl, B7.out⟩
        · have k1 : decide ((60000 : Int) < p.off) = true := decide_eq_true hoff
          clear HS AW HP hoff
          go_wp2_with fail
          refine AQ.out.mono ?_
          rintro e w7 ⟨rfl, hb7⟩
          have B7 := Lib.hid (HB.out.trans (hb7.mono HB.out.size))
          have c6 := KC.out w7 (HC.out.trans (hb7.mono HC.out.size))
          clear hb7 AQ
          go_wp2_with fail
          go_ret
          exact ⟨rfl, B7.out⟩
  · have g0 : (e1 != 0) = true := by rw [bne_iff_ne]; exact z
    have AQ := Lib.hid (AW w3 (GH.out w3 B3.out))
    have way : e2 = e1 ∨ e2 = 0 ∨ x < 68 := by
      have := split_bad (p := p) (l := l) (m := x) (m' := x + y) (by rw [HR1.out]; exact z) (by have := lim.out.2.1; omega)
      rwa [HR1.out, HR2.out] at this
    clear HS AW P3
    by_cases q1 : e2 = e1
    · have k1 : (e2 == e1) = true := by rw [beq_iff_eq]; exact q1
      clear way z q1
      go_wp2_with fail
      refine AQ.out.mono ?_
      rintro e w4 ⟨rfl, hb4⟩
      have B4 := Lib.hid (B3.out.trans (hb4.mono B3.out.size))
      clear hb4 AQ
      go_wp2_with fail
      go_ret
      exact ⟨rfl, B4.out⟩
    have k1 : (e2 == e1) = false := by rw [beq_eq_false_iff_ne]; exact q1
    by_cases q2 : e2 = 0
    · have k2 : (e2 == 0) = true := by rw [beq_iff_eq]; exact q2
      clear way z q1 q2
      go_wp2_with fail
      refine AQ.out.mono ?_
      rintro e w4 ⟨rfl, hb4⟩
      have B4 := Lib.hid (B3.out.trans (hb4.mono B3.out.size))
      clear hb4 AQ
      go_wp2_with fail
      go_ret
      exact ⟨rfl, B4.out⟩
    have k2 : (e2 == 0) = false := by rw [beq_eq_false_iff_ne]; exact q2
    have k3 : decide (x < 68) = true := decide_eq_true ((way.resolve_left q1).resolve_left q2)
    clear way z q1 q2
    go_wp2_with fail
    refine AQ.out.mono ?_
    rintro e w4 ⟨rfl, hb4⟩
    have B4 := Lib.hid (B3.out.trans (hb4.mono B3.out.size))
    clear hb4 AQ
    go_wp2_with fail
    go_ret
    exact ⟨rfl, B4.out⟩
end Go.Proofs.YtibfdacgdffpiaaDoor.LawAgain19
