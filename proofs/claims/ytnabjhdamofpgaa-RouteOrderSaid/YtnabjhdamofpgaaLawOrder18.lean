/- RouteOrder's walk. -/
import Derived.Test.YtnabjhdamofpgaaLawOrdD
import Derived.Test.YtnabjhdamofpgaaLawGone18
import Derived.Test.YtnabjhdamofpgaaSame18
import Derived.BigQuiet
import Derived.Deep.QuietTactic
import Derived.Deep.AppendSrc
import Derived.Lib.QuietBelow
set_option linter.unusedVariables false
namespace Go.Proofs.Ytnabjhdamofpgaa.LawOrder18
open Go.RowKit Go.Sort Go.PlainAid Go.Proofs.Ytnabjhdamofpgaa.Sums Go.Proofs.Ytnabjhdamofpgaa.Mem Go.Proofs.Ytnabjhdamofpgaa.Blk Go.Proofs.Ytnabjhdamofpgaa.Grp Go.Proofs.Ytnabjhdamofpgaa.AdrD Go.Proofs.Ytnabjhdamofpgaa.AdrR Go.Proofs.Ytnabjhdamofpgaa.Steps Go.Proofs.Ytnabjhdamofpgaa.Com Go.Proofs.Ytnabjhdamofpgaa.RowN Go.Proofs.Ytnabjhdamofpgaa.RowA Go.Proofs.Ytnabjhdamofpgaa.ArgT Go.Proofs.Ytnabjhdamofpgaa.TabD Go.Proofs.Ytnabjhdamofpgaa.TabOps Go.Proofs.Ytnabjhdamofpgaa.TabM Go.Proofs.Ytnabjhdamofpgaa.Free Go.Proofs.Ytnabjhdamofpgaa.RtD Go.Proofs.Ytnabjhdamofpgaa.Rt4 Go.Proofs.Ytnabjhdamofpgaa.Rt7 Go.Proofs.Ytnabjhdamofpgaa.Rt9 Go.Proofs.Ytnabjhdamofpgaa.RtA Go.Proofs.Ytnabjhdamofpgaa.LawS18 Go.Proofs.Ytnabjhdamofpgaa.TabR3 Go.Proofs.Ytnabjhdamofpgaa.LawLong18 Go.Proofs.Ytnabjhdamofpgaa.LawGoneD Go.Proofs.Ytnabjhdamofpgaa.LawOrdD Go.Proofs.Ytnabjhdamofpgaa.Mask Go.Proofs.Ytnabjhdamofpgaa.Same18

attribute [local irreducible] wpList wpQuiet
theorem mask_all (a : ByteArray) (n : Int) (hs : a.size ≤ maxLen) (w : World) : Calls Try.prog 20 #[.string a, .int .i64 n] w fun e w' => e = .returned (.tuple #[.string (pfx a n), .int .i64 (if fitB a.size n then 0 else 1)]) ∧ Below w.heap.size w w' := by
  cases h : fitB a.size n with
  | false =>
    have e : pfx a n = ⟨#[]⟩ := by unfold pfx; rw [h]; rfl
    rw [e]
    exact (mask_no a n hs h w).mono fun e w' q => ⟨q.1, q.2 ▸ Below.refl _ _⟩
  | true =>
    have e : pfx a n = maskS a n.toNat := by unfold pfx; rw [h]; rfl
    rw [e]
    exact mask_yes a n h w
theorem list_rows {w : World} {A : Option Addr} {rs : List RouteR} (h : ListAt w A rs) (ok : ∀ r ∈ rs, GoodR r) : RouteRows w A rs.length rs := by
  obtain ⟨g, rfl, hlt, hat⟩ := h.at
  refine ⟨rfl, fun _ => ⟨g, 0, rfl, hlt, fun k r hr => ⟨?_, fun j v hj => hat k r hr j v hj⟩⟩⟩
  have := good_size (ok r (List.mem_of_getElem? hr))
  exact ⟨by omega, by omega⟩
theorem two_add {Y : (Nat → Prop) → World → Prop} {P : Nat → Prop} {w : World} {g : Nat} {rs : List RouteR} (o' : IsObj Y) (r : RouteR) (h : Two (RtX g rs) Y P w) (ha : r.x0.size ≤ maxLen) (hv : r.x2.size ≤ maxLen) : Calls Try.prog 10 #[.pointer (some ⟨g, 0, none⟩), .agg (RA r)] w fun e w' => e = .returned (.int .i64 (addE rs r.x0 r.x1 r.x2 r.x3)) ∧ Two (RtX g (addL rs r.x0 r.x1 r.x2 r.x3)) Y P w' ∧ Keep P w w' :=
  Two.call (R := fun e _ => e = .returned (.int .i64 (addE rs r.x0 r.x1 r.x2 r.x3))) o' h fun F hx hF => (Rt6.add_c F g rs r w hx hF ha hv).mono fun e w' ⟨a, b, c⟩ => ⟨⟨a, b⟩, c⟩
set_option maxRecDepth 100000 in
set_option maxHeartbeats 8000000 in
theorem order_any (A : Option Addr) (n c : Nat) (rs : List RouteR) (y : Int) (w : World) (h : RouteRows w A n rs) (hm : n ≤ 9223372036854775807) : Calls Try.prog 5 #[.slice A n c, .int .i64 y] w fun e w' => e = .returned (.bool true) ∧ Below w.heap.size w w' := by
  have ROWS := Lib.hid h
  have RN := Lib.hid h.1
  have N0 := Lib.hid (solo_new w)
  clear h
  by_cases n60 : 60 < n
  · have q0 : decide ((60 : Int) < (n : Int)) = true := decide_eq_true (by omega)
    have q0' : decide (60 < n) = true := decide_eq_true n60
    clear n60 N0
    go_enter Try.func5, Try.ntmps5
    go_wp2_with fail
    go_ret
    exact ⟨rfl, Below.refl _ _⟩
  have q0 : decide ((60 : Int) < (n : Int)) = false := decide_eq_false (by omega)
  have q0' : decide (60 < n) = false := decide_eq_false n60
  by_cases y0 : y < 0
  · have z0 : decide (y < 0) = true := decide_eq_true y0
    clear n60 y0 N0
    go_enter Try.func5, Try.ntmps5
    go_wp2_with fail
    go_ret
    exact ⟨rfl, Below.refl _ _⟩
  have z0 : decide (y < 0) = false := decide_eq_false y0
  by_cases y1 : 1000 < y
  · have z1 : decide (1000 < y) = true := decide_eq_true y1
    clear n60 y0 y1 N0
    go_enter Try.func5, Try.ntmps5
    go_wp2_with fail
    go_ret
    exact ⟨rfl, Below.refl _ _⟩
  have z1 : decide (1000 < y) = false := decide_eq_false y1
  obtain ⟨t, rfl⟩ : ∃ t : Nat, y = (t : Int) := ⟨y.toNat, by omega⟩
  have z1' : decide (1000 < t) = false := decide_eq_false (by omega)
  have ht : t ≤ 1000 := by omega
  have hn : n ≤ 60 := by omega
  clear n60 y0 y1
  go_enter Try.func5, Try.ntmps5
  go_wp2_with fail
  refine N0.out.mono ?_
  rintro e w1 ⟨rfl, hb, hlt, hs⟩
  have N1 := Lib.hid (solo_new w1)
  have B1 := Lib.hid hb
  have S1 := Lib.hid hs
  clear hb hlt hs N0
  go_wp2_with fail
  have N1' := Lib.hid (Rt1.new_c w1)
  refine N1'.out.mono ?_
  rintro e w2 ⟨rfl, hb, hlt, hs⟩
  have B2 := Lib.hid (B1.out.trans (hb.mono B1.out.size))
  have S2 : Hid (Two (RtX w.heap.size []) (RtX w1.heap.size []) (fun k => k < w.heap.size) w2) := Lib.hid (Solo.two (rt_obj _ _) S1.out hb hs fun k hk => Nat.lt_of_lt_of_le hk B1.out.size)
  obtain ⟨g, hg⟩ : ∃ g, g = w.heap.size := ⟨_, rfl⟩
  obtain ⟨u, hu⟩ : ∃ u, u = w1.heap.size := ⟨_, rfl⟩
  clear hb hlt hs N1 N1' S1 B1
  go_wp2_with fail
  go_loopw [7] (fun iv wr => ∃ (i : Nat) (ts us : List RouteR), iv = .int .i64 (i : Int) ∧ i ≤ n ∧ Hid (ts = foldA (rs.take i)) ∧ Hid (us = foldA ((turnL rs t).take i)) ∧ Hid (Apart rs i) ∧ Hid (Two (RtX w.heap.size ts) (RtX w1.heap.size us) (fun k => k < w.heap.size) wr) ∧ Hid (Below w.heap.size w wr)) (fun iv _ => n - (intOf iv).toNat)
  case atStart => exact ⟨0, [], [], rfl, by omega, Lib.hid rfl, Lib.hid rfl, Lib.hid (fun i k r s h1 h2 => by omega), S2, B2⟩
  case round =>
    clear S2 B2 hg hu
    obtain ⟨i, ts, us, rfl, hi, HT, HU, HA, HS, HB⟩ := hrel
    by_cases hlt : i < n
    · skip
      have hr : rs[i]? = some (rs[i]'(by rw [RN.out]; exact hlt)) := List.getElem?_eq_getElem _
      generalize rs[i]'(by rw [RN.out]; exact hlt) = r at hr
      have HR := Lib.hid hr
      obtain ⟨s0, s2, b, o, rfl, hbl, AT⟩ := rows_at ROWS.out HB.out hr
      have AT0 := Lib.hid AT
      have p0 := AT 0 _ rfl
      have p2 := AT 2 _ rfl
      simp only [Nat.add_zero] at p0
      have hw : IntKind.i64.wrap ((r.x0.size : Int) + (r.x2.size : Int)) = (r.x0.size : Int) + (r.x2.size : Int) := IntWalk.i64_in _ (by omega)
      clear hr AT
      by_cases big : 300 < r.x0.size + r.x2.size
      · have q1 : decide ((300 : Int) < (r.x0.size : Int) + (r.x2.size : Int)) = true := decide_eq_true (by omega)
        have q1' : decide (300 < r.x0.size + r.x2.size) = true := decide_eq_true big
        clear big HS AT0
        go_wp2_with fail
        go_quiet (fail)
        go_wp2_with fail
        go_ret
        exact ⟨rfl, below_drewN HB.out _⟩
      · have q1 : decide ((300 : Int) < (r.x0.size : Int) + (r.x2.size : Int)) = false := decide_eq_false (by omega)
        have q1' : decide (300 < r.x0.size + r.x2.size) = false := decide_eq_false big
        have sz0 : r.x0.size ≤ maxLen := by unfold maxLen; omega
        have sz2 : r.x2.size ≤ maxLen := by unfold maxLen; omega
        have RM := Lib.hid (fun W => mask_all r.x0 r.x1 sz0 W)
        have AC := Lib.hid (fun W (H : Two (RtX w.heap.size ts) (RtX w1.heap.size us) (fun k => k < w.heap.size) W) => two_add (rt_obj _ _) r H sz0 sz2)
        clear big
        go_wp2_with fail
        go_quiet (fail)
        have S3 := Lib.hid (HS.out.up (rt_obj _ _) (rt_obj _ _) (below_drewN (Below.refl wr.heap.size wr) nq))
        have B3 := Lib.hid (below_drewN HB.out nq)
        have AT3 : Hid (∀ W, Below w.heap.size w W → Part.At W b (o + i * 4) r.cells) := Lib.hid fun W hW => by
          obtain ⟨_, _, b', o', e', _, q⟩ := rows_at ROWS.out hW HR.out
          cases e'
          exact q
        clear p0 p2 hw q1 q1' AT0 HS HB s0 s2
        generalize wr.drewN nq = w3 at *
        go_wp2_with fail
        go_loopw [8] (fun kv wk => ∃ k : Nat, kv = .int .i64 (k : Int) ∧ k ≤ i ∧ Hid (∀ j s, j < k → rs[j]? = some s → ¬ Key r s) ∧ Hid (Below w3.heap.size w3 wk)) (fun kv _ => i - (intOf kv).toNat)
        case atStart => exact ⟨0, rfl, by omega, Lib.hid (fun j s h => by omega), Lib.hid (Below.refl _ _)⟩
        case round =>
          obtain ⟨k, rfl, hk, HK, HW⟩ := hrel
          have BK := Lib.hid (B3.out.trans (HW.out.mono B3.out.size))
          by_cases hlt2 : k < i
          · have hs : rs[k]? = some (rs[k]'(by rw [RN.out]; omega)) := List.getElem?_eq_getElem _
            generalize rs[k]'(by rw [RN.out]; omega) = s at hs
            have HSK := Lib.hid hs
            obtain ⟨s0, s2, b', o', e', _, sAT⟩ := rows_at ROWS.out BK.out hs
            cases e'
            have SAT : Hid (∀ W, Below w.heap.size w W → Part.At W b (o + k * 4) s.cells) := Lib.hid fun W hW => by
              obtain ⟨_, _, b', o', e', _, q⟩ := rows_at ROWS.out hW HSK.out
              cases e'
              exact q
            have sM := Lib.hid (fun W => mask_all s.x0 s.x1 (by unfold maxLen; omega) W)
            have rM := RM
            have rAT := AT3.out wr BK.out
            have kn : k < n := by omega
            clear hs sAT s0 s2
            obtain ⟨pr, hpr⟩ : ∃ x, pfx r.x0 r.x1 = x := ⟨_, rfl⟩
            obtain ⟨ps, hps⟩ : ∃ x, pfx s.x0 s.x1 = x := ⟨_, rfl⟩
            obtain ⟨er, her⟩ : ∃ x, (if fitB r.x0.size r.x1 then (0 : Int) else 1) = x := ⟨_, rfl⟩
            obtain ⟨es, hes⟩ : ∃ x, (if fitB s.x0.size s.x1 then (0 : Int) else 1) = x := ⟨_, rfl⟩
            rw [hpr, her] at rM
            rw [hps, hes] at sM
            have HPR := Lib.hid hpr
            have HPS := Lib.hid hps
            clear hpr hps her hes
            have r0 : ∀ d os, (grow (redrawn wr d) os).cell? ⟨b, o + i * 4, none⟩ = some (.string r.x0) := fun d os => cell_regrown (by simpa using rAT 0 _ rfl) d os
            have r1 : ∀ d os, (grow (redrawn wr d) os).cell? ⟨b, o + i * 4 + 1, none⟩ = some (.int .i64 r.x1) := fun d os => cell_regrown (rAT 1 _ rfl) d os
            go_wp2_with fail
            refine wp_region_quiet_below (by kernel_rfl) (by kernel_rfl) ?_
            repeat (go_big_quiet_step (with_reducible exact Calls.regrown_of (rM.out _)))
            refine wpQuiet_nil ?_
            intro _ hw'
            obtain ⟨⟨dq, osq⟩, hw''⟩ := hw'
            subst hw''
            have rB := Lib.hid (below_regrown wr dq osq)
            clear r0 r1 rM
            generalize grow (redrawn wr dq) osq = w4 at *
            have B4 := Lib.hid (BK.out.trans (rB.out.mono BK.out.size))
            have sAT := SAT.out w4 B4.out
            have RTA := Lib.hid rAT
            clear rAT
            have s0 : ∀ d os, (grow (redrawn w4 d) os).cell? ⟨b, o + k * 4, none⟩ = some (.string s.x0) := fun d os => cell_regrown (by simpa using sAT 0 _ rfl) d os
            have s1 : ∀ d os, (grow (redrawn w4 d) os).cell? ⟨b, o + k * 4 + 1, none⟩ = some (.int .i64 s.x1) := fun d os => cell_regrown (sAT 1 _ rfl) d os
            go_wp2_with fail
            refine wp_region_quiet_below (by kernel_rfl) (by kernel_rfl) ?_
            repeat (go_big_quiet_step (with_reducible exact Calls.regrown_of (sM.out _)))
            refine wpQuiet_nil ?_
            intro _ hw'
            obtain ⟨⟨dq, osq⟩, hw''⟩ := hw'
            subst hw''
            have sB := Lib.hid (below_regrown w4 dq osq)
            clear s0 s1 sM
            generalize grow (redrawn w4 dq) osq = w5 at *
            have B5 := Lib.hid (B4.out.trans (sB.out.mono B4.out.size))
            have W5 := Lib.hid (HW.out.trans ((rB.out.trans (sB.out.mono rB.out.size)).mono HW.out.size))
            have r1 := AT3.out w5 B5.out 1 _ rfl
            have s1 := SAT.out w5 B5.out 1 _ rfl
            clear sAT RTA rB sB B4 BK HW
            by_cases e1 : pr = ps
            · have g1 : (pr.toList == ps.toList) = true := by rw [EqR.toList_eq]; exact decide_eq_true e1
              by_cases e2 : r.x1 = s.x1
              · have g2 : (r.x1 == s.x1) = true := by rw [beq_iff_eq]; exact e2
                clear e1 e2 HK
                go_wp2_with fail
                go_quiet (fail)
                go_wp2_with fail
                go_ret
                exact ⟨rfl, below_drewN B5.out _⟩
              · have g2 : (r.x1 == s.x1) = false := by rw [beq_eq_false_iff_ne]; exact e2
                have HKN : Hid (∀ j s', j < k + 1 → rs[j]? = some s' → ¬ Key r s') := Lib.hid fun j s' hj hs' => by
                  rcases Nat.lt_or_ge j k with q | q
                  · exact HK.out j s' q hs'
                  · obtain rfl : j = k := by omega
                    rw [← Option.some.inj (HSK.out.symm.trans hs')]
                    exact fun z => e2 z.2
                clear e1 e2 HK
                go_wp2_with fail
                go_quiet (fail)
                clear r1 s1 g1 g2
                go_wp2_with fail
                go_roundw
                case rel => exact ⟨k + 1, by go_num, by omega, HKN, Lib.hid (below_drewN W5.out _)⟩
                case measure => simp [intOf]; omega
            · have g1 : (pr.toList == ps.toList) = false := by rw [EqR.toList_eq]; exact decide_eq_false e1
              have HKN : Hid (∀ j s', j < k + 1 → rs[j]? = some s' → ¬ Key r s') := Lib.hid fun j s' hj hs' => by
                rcases Nat.lt_or_ge j k with q | q
                · exact HK.out j s' q hs'
                · obtain rfl : j = k := by omega
                  rw [← Option.some.inj (HSK.out.symm.trans hs')]
                  exact fun z => e1 (by rw [← HPR.out, ← HPS.out]; exact z.1)
              clear e1 HK
              go_wp2_with fail
              go_quiet (fail)
              clear r1 s1 g1
              go_wp2_with fail
              go_roundw
              case rel => exact ⟨k + 1, by go_num, by omega, HKN, Lib.hid (below_drewN W5.out _)⟩
              case measure => simp [intOf]; omega
          · obtain rfl : k = i := by omega
            have HAN : Hid (Apart rs (k + 1)) := Lib.hid fun p q r' s' hqp hp hr' hs' => by
              rcases Nat.lt_or_ge p k with z | z
              · exact HA.out p q r' s' hqp z hr' hs'
              · obtain rfl : p = k := by omega
                rw [← Option.some.inj (HR.out.symm.trans hr')]
                exact HK.out q s' hqp hs'
            have S6 := Lib.hid (S3.out.up (rt_obj _ _) (rt_obj _ _) HW.out)
            have RP : (loadVar 33 ⟨b, o + k * 4, none⟩).run Try.prog wr = .ok (.agg (RA r)) wr := Part.run_part _ b (o + k * 4) 33 r.cells _ Try.underlying33 rfl (by kernel_rfl) (AT3.out wr BK.out)
            obtain ⟨v, hv0, hv1⟩ := turn_at (y := t) (show k < rs.length by rw [RN.out]; exact hlt)
            rw [RN.out] at hv0
            obtain ⟨p, hp⟩ : ∃ p, p = (k + t) % n := ⟨_, rfl⟩
            rw [← hp] at hv0
            have vs0 := (rows_at ROWS.out BK.out hv0).1
            have vs2 := (rows_at ROWS.out BK.out hv0).2.1
            have TN : Hid (addL ts r.x0 r.x1 r.x2 r.x3 = foldA (rs.take (k + 1))) := Lib.hid (by rw [foldA_next HR.out, ← HT.out])
            have UN : Hid (addL us v.x0 v.x1 v.x2 v.x3 = foldA ((turnL rs t).take (k + 1))) := Lib.hid (by rw [foldA_next hv1, ← HU.out])
            have UC := Lib.hid (fun W (H : Two (RtX w1.heap.size us) (RtX w.heap.size (addL ts r.x0 r.x1 r.x2 r.x3)) (fun k => k < w.heap.size) W) => two_add (rt_obj _ _) v H (by unfold maxLen; omega) (by unfold maxLen; omega))
            have HV := Lib.hid hv0
            have hp1 : IntKind.i64.wrap ((k : Int) + (t : Int)) = (k : Int) + (t : Int) := IntWalk.i64_in _ (by omega)
            have hp2 : ((k : Int) + (t : Int)).tmod (n : Int) = ((p : Nat) : Int) := by
              rw [hp, Int.tmod_eq_emod_of_nonneg (by omega)]
              exact (Int.natCast_emod (k + t) n).symm
            have hp3 : p < n := by rw [hp]; exact Nat.mod_lt _ (by omega)
            have nz : ¬ ((n : Int) = 0) := by omega
            have nz' : ((n : Int) == 0) = false := by rw [beq_eq_false_iff_ne]; exact nz
            clear hv0 hv1 hp vs0 vs2 HK HA HT HU S3 RM
            go_wp2_with (refine Store.at_load 33 (.tmp 115) ?_ ?_; exact rfl; refine Part.wpList_load_part rfl 33 (.tmp 115) rfl b (o + k * 4) [.string r.x0, .int .i64 r.x1, .string r.x2, .int .i64 r.x3] rfl RP ?_)
            refine (AC.out _ S6.out).mono ?_
            rintro e w7 ⟨rfl, hs7, hk7⟩
            have S7 := Lib.hid hs7.swap
            have B7 := Lib.hid (BK.out.trans (hk7.below BK.out.size fun k hk => hk))
            obtain ⟨_, _, b', o', e', _, VAT⟩ := rows_at ROWS.out B7.out HV.out
            cases e'
            have RPV : (loadVar 33 ⟨b, o + p * 4, none⟩).run Try.prog w7 = .ok (.agg (RA v)) w7 := Part.run_part _ b (o + p * 4) 33 v.cells _ Try.underlying33 rfl (by kernel_rfl) VAT
            clear hs7 hk7 VAT RP S6 BK HW AC
            go_wp2_with (refine Store.at_load 33 (.tmp 126) ?_ ?_; exact rfl; refine Part.wpList_load_part rfl 33 (.tmp 126) rfl b (o + p * 4) [.string v.x0, .int .i64 v.x1, .string v.x2, .int .i64 v.x3] rfl RPV ?_)
            refine (UC.out _ S7.out).mono ?_
            rintro e w8 ⟨rfl, hs8, hk8⟩
            have S8 := Lib.hid hs8.swap
            have B8 := Lib.hid (B7.out.trans (hk8.below B7.out.size fun k hk => hk))
            clear hs8 hk8 RPV S7 UC hp1 hp2 nz nz'
            go_wp2_with fail
            go_roundw
            case rel => exact ⟨k + 1, _, _, by go_num, by omega, TN, UN, HAN, S8, B8⟩
            case measure => simp [intOf]; omega
    · obtain rfl : i = n := by omega
      have ap : Apart rs rs.length := by rw [RN.out]; exact HA.out
      have e1 : us = ts := by
        rw [HT.out, HU.out, List.take_of_length_le (l := rs) (by rw [RN.out]; exact Nat.le_refl _), List.take_of_length_le (l := turnL rs t) (by rw [turn_len, RN.out]; exact Nat.le_refl _)]
        exact (turn_same ap (by rw [RN.out]; exact hn) t).symm
      subst e1
      have TB := Lib.hid (solo_tab HS.out.fst).1
      have tl := (solo_tab HS.out.fst).2
      have L1C := Lib.hid (solo_list HS.out.fst)
      have L2C := Lib.hid (fun W (H : Solo (RtX w1.heap.size us) (fun k => k < w.heap.size) W) => solo_list H)
      obtain ⟨m, hmm⟩ : ∃ m, us.length = m := ⟨_, rfl⟩
      rw [hmm] at tl L1C L2C
      have ML := Lib.hid hmm
      clear hmm ap HT HU HA
      go_wp2_with fail
      refine L1C.out.mono ?_
      rintro e w2 ⟨⟨A2, rfl, hl2, ho2⟩, hb2⟩
      have S2 := Lib.hid (HS.out.swap.fst.up (rt_obj _ _) hb2)
      have B2 := Lib.hid (HB.out.trans (hb2.mono HB.out.size))
      obtain ⟨g2, rfl, hg2, -⟩ := hl2.at
      have L2 := Lib.hid hl2
      clear hl2 ho2 hb2 hg2 L1C HS HB
      go_wp2_with fail
      refine (L2C.out _ S2.out).mono ?_
      rintro e w3 ⟨⟨A3, rfl, hl3, ho3⟩, hb3⟩
      have B3 := Lib.hid (B2.out.trans (hb3.mono B2.out.size))
      obtain ⟨g3, rfl, hg3, -⟩ := hl3.at
      have L3 := Lib.hid hl3
      have L2' := Lib.hid (L2.out.below hb3)
      clear hl3 ho3 hb3 hg3 L2C S2 L2 B2
      go_wp2_with fail
      go_loopw [15] (fun iv wv => ∃ j : Nat, iv = .int .i64 (j : Int) ∧ 1 ≤ j ∧ Hid (Below w3.heap.size w3 wv)) (fun iv _ => m - (intOf iv).toNat)
      case atStart => exact ⟨1, rfl, by omega, Lib.hid (Below.refl _ _)⟩
      case round =>
        obtain ⟨j, rfl, hj, HW⟩ := hrel
        by_cases hlt3 : j < m
        · obtain ⟨q, hq⟩ : ∃ q, q = j - 1 := ⟨_, rfl⟩
          have hqj : q < j := by omega
          have HQJ := Lib.hid hqj
          have hj1 : IntKind.i64.wrap ((j : Int) - 1) = ((q : Nat) : Int) := by rw [IntWalk.i64_in _ (by omega)]; omega
          have hj2 : (j : Int) - 1 = ((q : Nat) : Int) := by omega
          have hqm : q < m := by omega
          have hs : us[j]? = some (us[j]'(by rw [ML.out]; exact hlt3)) := List.getElem?_eq_getElem _
          generalize us[j]'(by rw [ML.out]; exact hlt3) = s at hs
          have hr : us[q]? = some (us[q]'(by rw [ML.out]; exact hqm)) := List.getElem?_eq_getElem _
          generalize us[q]'(by rw [ML.out]; exact hqm) = r at hr
          have ah := srt_at TB.out.srt hr hs hqj
          have oi := ord_in r.x0 s.x0
          have gr := good_size (TB.out.good r (List.mem_of_getElem? hr))
          have gs := good_size (TB.out.good s (List.mem_of_getElem? hs))
          have CC := Lib.hid (fun W => Cmp.cmp_any r.x0 s.x0 W (by unfold maxLen; omega) (by unfold maxLen; omega))
          obtain ⟨z, hz⟩ : ∃ z, ordS r.x0 s.x0 = z := ⟨_, rfl⟩
          rw [hz] at CC oi
          have way : z = -1 ∨ (z = 0 ∧ r.x1 < s.x1) := by
            have := (ahead_iff _ _ _ _).1 ah
            rw [hz] at this
            omega
          have AT : Hid (∀ W, Below w3.heap.size w3 W → Part.At W g2 (q * 4) r.cells ∧ Part.At W g2 (j * 4) s.cells) := Lib.hid fun W hW => by
            obtain ⟨g', e', _, hat⟩ := (L2'.out.below hW).at
            cases e'
            have h1 := hat q r hr
            have h2 := hat j s hs
            rw [Nat.zero_add] at h1 h2
            exact ⟨h1, h2⟩
          have p0 : ∀ d os, (grow (redrawn wr d) os).cell? ⟨g2, q * 4, none⟩ = some (.string r.x0) := fun d os => cell_regrown (by simpa using (AT.out wr HW.out).1 0 _ rfl) d os
          have p0' : ∀ d os, (grow (redrawn wr d) os).cell? ⟨g2, j * 4, none⟩ = some (.string s.x0) := fun d os => cell_regrown (by simpa using (AT.out wr HW.out).2 0 _ rfl) d os
          clear hs hr ah oi gr gs hz hq hqj
          go_wp2_with fail
          refine wp_region_quiet_below (by kernel_rfl) (by kernel_rfl) ?_
          repeat (go_big_quiet_step (with_reducible exact Calls.regrown_of (CC.out _)))
          refine wpQuiet_nil ?_
          intro _ hw'
          obtain ⟨⟨dq, osq⟩, hw''⟩ := hw'
          subst hw''
          have W4 := Lib.hid (HW.out.trans ((below_regrown wr dq osq).mono HW.out.size))
          clear p0 p0' CC HW
          generalize grow (redrawn wr dq) osq = w4 at *
          have p1 := (AT.out w4 W4.out).1 1 _ rfl
          have p1' := (AT.out w4 W4.out).2 1 _ rfl
          rcases way with rfl | ⟨rfl, lt⟩
          · clear p1 p1'
            go_wp2_with fail
            go_quiet (fail)
            go_wp2_with fail
            go_roundw
            case rel => exact ⟨j + 1, by go_num, by omega, Lib.hid (below_drewN W4.out _)⟩
            case measure => simp [intOf]; omega
          · have g1 : decide (s.x1 ≤ r.x1) = false := decide_eq_false (by omega)
            have g1' : decide (r.x1 ≥ s.x1) = false := g1
            clear lt
            go_wp2_with fail
            go_quiet (fail)
            clear p1 p1' g1 g1'
            go_wp2_with fail
            go_roundw
            case rel => exact ⟨j + 1, by go_num, by omega, Lib.hid (below_drewN W4.out _)⟩
            case measure => simp [intOf]; omega
        · have BW := Lib.hid (B3.out.trans (HW.out.mono B3.out.size))
          have L2w := Lib.hid (L2'.out.below HW.out)
          have L3w := Lib.hid (L3.out.below HW.out)
          have jm : ¬ ((j : Int) < (m : Int)) := by omega
          clear HW L2' L3 B3
          go_wp2_with fail
          refine (awake_any _).mono ?_
          rintro e w6 ⟨rfl, hb6⟩
          have B6 := Lib.hid (BW.out.trans (hb6.mono BW.out.size))
          have R2 := list_rows (L2w.out.below hb6) TB.out.good
          have R3 := list_rows (L3w.out.below hb6) TB.out.good
          rw [ML.out] at R2 R3
          have SC := Lib.hid (same_routes (some ⟨g2, 0, none⟩) m m us (some ⟨g3, 0, none⟩) m m us w6 R2 R3 (by omega) (by omega))
          clear hb6 R2 R3 L2w L3w BW
          go_wp2_with fail
          refine SC.out.mono ?_
          rintro e w7 ⟨rv, rfl, hrv, hb7⟩
          have B7 := Lib.hid (B6.out.trans (hb7.mono B6.out.size))
          obtain rfl : rv = true := hrv.2 (by trivial)
          clear hrv hb7 SC B6
          go_wp2_with fail
          go_ret
          exact ⟨rfl, B7.out⟩
end Go.Proofs.Ytnabjhdamofpgaa.LawOrder18
