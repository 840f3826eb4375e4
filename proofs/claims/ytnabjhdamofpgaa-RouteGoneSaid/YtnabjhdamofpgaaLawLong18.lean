/- RouteLongest's walk. -/
import Derived.Test.YtnabjhdamofpgaaLawS18
import Derived.BigQuiet
import Derived.Deep.QuietTactic
import Derived.Deep.AppendSrc
set_option linter.unusedVariables false
namespace Go.Proofs.Ytnabjhdamofpgaa.LawLong18
open Go.RowKit Go.PlainAid Go.Proofs.Ytnabjhdamofpgaa.Sums Go.Proofs.Ytnabjhdamofpgaa.Mem Go.Proofs.Ytnabjhdamofpgaa.Blk Go.Proofs.Ytnabjhdamofpgaa.Grp Go.Proofs.Ytnabjhdamofpgaa.AdrD Go.Proofs.Ytnabjhdamofpgaa.AdrR Go.Proofs.Ytnabjhdamofpgaa.Steps Go.Proofs.Ytnabjhdamofpgaa.Com Go.Proofs.Ytnabjhdamofpgaa.RowN Go.Proofs.Ytnabjhdamofpgaa.RowA Go.Proofs.Ytnabjhdamofpgaa.ArgT Go.Proofs.Ytnabjhdamofpgaa.TabD Go.Proofs.Ytnabjhdamofpgaa.TabOps Go.Proofs.Ytnabjhdamofpgaa.TabM Go.Proofs.Ytnabjhdamofpgaa.Free Go.Proofs.Ytnabjhdamofpgaa.RtD Go.Proofs.Ytnabjhdamofpgaa.Rt4 Go.Proofs.Ytnabjhdamofpgaa.Rt7 Go.Proofs.Ytnabjhdamofpgaa.Rt9 Go.Proofs.Ytnabjhdamofpgaa.RtA Go.Proofs.Ytnabjhdamofpgaa.LawS18 Go.Proofs.Ytnabjhdamofpgaa.TabR3

/-- All routes of a row, added one after the other. -/
def foldA (l : List RouteR) : List RouteR := l.foldl (fun t r => addL t r.x0 r.x1 r.x2 r.x3) []
theorem foldA_next {rs : List RouteR} {i : Nat} {r : RouteR} (h : rs[i]? = some r) : foldA (rs.take (i + 1)) = addL (foldA (rs.take i)) r.x0 r.x1 r.x2 r.x3 := by
  unfold foldA
  rw [List.take_add_one, h, List.foldl_append]
  rfl
set_option maxRecDepth 100000 in
set_option maxHeartbeats 4000000 in
theorem longest_any (A : Option Addr) (n c : Nat) (rs : List RouteR) (d : ByteArray) (w : World) (h : RouteRows w A n rs) (hm : n ≤ 9223372036854775807) (hd : d.size ≤ 140737488355328) : Calls Try.prog 4 #[.slice A n c, .string d] w fun e w' => e = .returned (.bool true) ∧ Below w.heap.size w w' := by
  have ROWS := Lib.hid h
  have RN := Lib.hid h.1
  have N0 := Lib.hid (solo_new w)
  clear h
  by_cases n100 : 100 < n
  · have q0 : decide ((100 : Int) < (n : Int)) = true := decide_eq_true (by omega)
    have q0' : decide (100 < n) = true := decide_eq_true n100
    clear n100 N0
    go_enter Try.func4, Try.ntmps4
    go_wp2_with fail
    go_ret
    exact ⟨rfl, Below.refl _ _⟩
  have q0 : decide ((100 : Int) < (n : Int)) = false := decide_eq_false (by omega)
  have q0' : decide (100 < n) = false := decide_eq_false n100
  by_cases d300 : 300 < d.size
  · have z0 : decide ((300 : Int) < (d.size : Int)) = true := decide_eq_true (by omega)
    have z0' : decide (300 < d.size) = true := decide_eq_true d300
    clear n100 d300 N0
    go_enter Try.func4, Try.ntmps4
    go_wp2_with fail
    go_ret
    exact ⟨rfl, Below.refl _ _⟩
  have z0 : decide ((300 : Int) < (d.size : Int)) = false := decide_eq_false (by omega)
  have z0' : decide (300 < d.size) = false := decide_eq_false d300
  have hn : n ≤ 100 := by omega
  have dm : d.size ≤ 300 := by omega
  clear n100 d300
  go_enter Try.func4, Try.ntmps4
  go_wp2_with fail
  refine N0.out.mono ?_
  rintro e w1 ⟨rfl, hb, hlt, ht⟩
  have B1 := Lib.hid hb
  have S1 := Lib.hid ht
  clear hb hlt ht N0
  go_wp2_with fail
  go_loopw [6] (fun iv wr => ∃ (i : Nat) (ts : List RouteR), iv = .int .i64 (i : Int) ∧ i ≤ n ∧ Hid (ts = foldA (rs.take i)) ∧ Hid (Solo (RtX w.heap.size ts) (fun k => k < w.heap.size) wr) ∧ Hid (Below w.heap.size w wr)) (fun iv _ => n - (intOf iv).toNat)
  case atStart => exact ⟨0, [], rfl, by omega, Lib.hid rfl, S1, B1⟩
  case round =>
    clear S1 B1
    obtain ⟨i, ts, rfl, hi, HT, HS, HB⟩ := hrel
    by_cases hlt : i < n
    · skip
      have hr : rs[i]? = some (rs[i]'(by rw [RN.out]; exact hlt)) := List.getElem?_eq_getElem _
      generalize rs[i]'(by rw [RN.out]; exact hlt) = r at hr
      have HR := Lib.hid hr
      obtain ⟨s0, s2, b, o, rfl, hbl, AT⟩ := rows_at ROWS.out HB.out hr
      have AT0 := Lib.hid AT
      have p0 := AT 0 _ rfl
      have p2 := AT 2 _ rfl
      simp only [Nat.add_zero] at p0
      have hw : IntKind.i64.wrap ((r.x0.size : Int) + (r.x2.size : Int)) = (r.x0.size : Int) + (r.x2.size : Int) := IntWalk.i64_in _ (by omega)
      clear hr AT
      by_cases big : 300 < r.x0.size + r.x2.size
      · have q1 : decide ((300 : Int) < (r.x0.size : Int) + (r.x2.size : Int)) = true := decide_eq_true (by omega)
        have q1' : decide (300 < r.x0.size + r.x2.size) = true := decide_eq_true big
        clear big HS AT0
        go_wp2_with fail
        go_quiet (fail)
        go_wp2_with fail
        go_ret
        exact ⟨rfl, below_drewN HB.out _⟩
      · have q1 : decide ((300 : Int) < (r.x0.size : Int) + (r.x2.size : Int)) = false := decide_eq_false (by omega)
        have q1' : decide (300 < r.x0.size + r.x2.size) = false := decide_eq_false big
        have sz0 : r.x0.size ≤ maxLen := by unfold maxLen; omega
        have sz2 : r.x2.size ≤ maxLen := by unfold maxLen; omega
        have AC := Lib.hid (fun W (H : Solo (RtX w.heap.size ts) (fun k => k < w.heap.size) W) => solo_add r H sz0 sz2)
        clear big s0 s2 sz0 sz2
        go_wp2_with fail
        go_quiet (fail)
        have S2 := Lib.hid (HS.out.up (rt_obj _ _) (below_drewN (Below.refl wr.heap.size wr) nq))
        have B2 := Lib.hid (below_drewN HB.out nq)
        have RP : (loadVar 33 ⟨b, o + i * 4, none⟩).run Try.prog (wr.drewN nq) = .ok (.agg (RA r)) (wr.drewN nq) := Part.run_part _ b (o + i * 4) 33 r.cells _ Try.underlying33 rfl (by kernel_rfl) (show Part.At (wr.drewN nq) b (o + i * 4) r.cells from AT0.out)
        generalize wr.drewN nq = w2 at *
        clear p0 p2 hw q1 q1' AT0 HS HB
        go_wp2_with (refine Store.at_load 33 (.tmp 47) ?_ ?_; exact rfl; refine Part.wpList_load_part rfl 33 (.tmp 47) rfl b (o + i * 4) [.string r.x0, .int .i64 r.x1, .string r.x2, .int .i64 r.x3] rfl RP ?_)
        refine (AC.out _ S2.out).mono ?_
        rintro e w3 ⟨rfl, hs3, hk3⟩
        have S3 := Lib.hid hs3
        have B3 := Lib.hid (B2.out.trans (hk3.below B2.out.size fun k hk => hk))
        have TN : Hid (addL ts r.x0 r.x1 r.x2 r.x3 = foldA (rs.take (i + 1))) := Lib.hid (by rw [foldA_next HR.out, ← HT.out])
        clear hs3 hk3 AC S2 B2 RP
        go_wp2_with fail
        go_roundw
        case rel => exact ⟨i + 1, _, by go_num, by omega, TN, S3, B3⟩
        case measure => simp [intOf]; omega
    · obtain rfl : i = n := by omega
      have EQT : Hid (ts = foldA rs) := Lib.hid (by rw [HT.out, List.take_of_length_le (by rw [RN.out]; exact Nat.le_refl _)])
      have LC := Lib.hid (solo_list HS.out)
      obtain ⟨tb, tl⟩ := solo_tab HS.out
      have TB := Lib.hid tb
      obtain ⟨m, hmm⟩ : ∃ m, ts.length = m := ⟨_, rfl⟩
      have ML := Lib.hid hmm
      rw [hmm] at tl LC
      clear tb hmm HT EQT
      go_wp2_with fail
      refine LC.out.mono ?_
      rintro e w2 ⟨⟨A2, rfl, hl2, ho2⟩, hb2⟩
      have FC := Lib.hid (solo_find d (HS.out.up (rt_obj _ _) hb2) (by unfold maxLen; omega))
      obtain ⟨g2, rfl, hg2, hat2⟩ := hl2.at
      have L2 := Lib.hid hl2
      have B2 := Lib.hid (HB.out.trans (hb2.mono HB.out.size))
      obtain ⟨r, hr⟩ : ∃ r, findR ts d = r := ⟨_, rfl⟩
      obtain ⟨fe, hfe⟩ : ∃ fe, findE ts d = fe := ⟨_, rfl⟩
      rw [hr, hfe] at FC
      have FR := Lib.hid hr
      have FE := Lib.hid hfe
      clear hl2 ho2 hb2 LC HS HB hg2 hat2 hr hfe
      go_wp2_with fail
      refine FC.out.mono ?_
      rintro e w3 ⟨rfl, hb3⟩
      have L3 := Lib.hid ((L2.out.below hb3).below ((Below.refl w3.heap.size w3).alloc (Nat.le_refl _) (.cells (RA r) 33)))
      have B3 := Lib.hid ((B2.out.trans (hb3.mono B2.out.size)).alloc (B2.out.trans (hb3.mono B2.out.size)).size (.cells (RA r) 33))
      have K3 := Lib.hid (Blk.new w3 33 (RA r))
      have S3 : Hid ((w3.alloc (.cells (RA r) 33)).heap.size = w3.heap.size + 1) := Lib.hid (by simp)
      clear hb3 FC L2 B2
      go_wp2_with fail
      generalize w3.alloc (.cells (RA r) 33) = w4 at *
      go_loopw [10, 11] (fun fv iv wr => ∃ (j : Nat) (inn : Bool), fv = .bool inn ∧ iv = .int .i64 (j : Int) ∧ j ≤ m ∧ Hid (inn = (ts.take j).any fun s => inB d s.x0 s.x1 && EqR.eqbRoute s r) ∧ Hid (Below w4.heap.size w4 wr)) (fun _ iv _ => m - (intOf iv).toNat)
      case atStart => exact ⟨0, false, rfl, rfl, by omega, Lib.hid (by simp), Lib.hid (Below.refl _ _)⟩
      case round =>
        obtain ⟨j, inn, rfl, rfl, hj, HN, HW⟩ := hrel
        by_cases hlt2 : j < m
        · have hs : ts[j]? = some (ts[j]'(by rw [ML.out]; exact hlt2)) := List.getElem?_eq_getElem _
          generalize ts[j]'(by rw [ML.out]; exact hlt2) = s at hs
          have HSJ := Lib.hid hs
          have gs := good_size (TB.out.good s (List.mem_of_getElem? hs))
          obtain ⟨g2', e2, g2l, hat⟩ := (L3.out.below HW.out).at
          cases e2
          have AT := hat j s hs
          have AT0 := Lib.hid AT
          have KR := Lib.hid (K3.out.below HW.out K3.out.lt)
          have RPA : Part.At wr g2 (j * 4) [.string s.x0, .int .i64 s.x1] := by
            have q := AT.sub 0 2
            simpa [RouteR.cells] using q
          have RP : (loadVar 31 ⟨g2, j * 4, none⟩).run Try.prog wr = .ok (.agg #[.string s.x0, .int .i64 s.x1]) wr := Part.run_part _ g2 (j * 4) 31 [.string s.x0, .int .i64 s.x1] _ Try.underlying31 rfl (by kernel_rfl) RPA
          obtain ⟨z, hz⟩ : ∃ z, inB d s.x0 s.x1 = z := ⟨_, rfl⟩
          have IC := Lib.hid (fun W => In.in_any d s.x0 s.x1 (by unfold maxLen; omega) (by unfold maxLen; omega) W)
          rw [hz] at IC
          have HZ := Lib.hid hz
          have NX : Hid ((ts.take (j + 1)).any (fun s => inB d s.x0 s.x1 && EqR.eqbRoute s r) = (inn || (z && EqR.eqbRoute s r))) := Lib.hid (by
            rw [List.take_add_one, hs, List.any_append, ← HN.out]
            simp [hz])
          clear hs AT hat gs hz
          go_wp2_with (refine Store.at_load 31 (.tmp 68) ?_ ?_; exact rfl; refine Part.wpList_load_part rfl 31 (.tmp 68) rfl g2 (j * 4) [.string s.x0, .int .i64 s.x1] rfl RP ?_)
          refine (IC.out _).mono ?_
          rintro e w5 ⟨rfl, hb5⟩
          have W5 := Lib.hid (HW.out.trans (hb5.mono HW.out.size))
          have K5 := Lib.hid (KR.out.below hb5 KR.out.lt)
          have A5 := Lib.hid (AT0.out.below hb5 g2l)
          clear hb5 IC RP HW KR AT0
          cases z
          · have NY : Hid (inn = (ts.take (j + 1)).any fun s => inB d s.x0 s.x1 && EqR.eqbRoute s r) := Lib.hid (by rw [NX.out]; simp)
            clear NX K5 A5
            go_wp2_with fail
            go_roundw
            case rel => exact ⟨j + 1, inn, rfl, by go_num, by omega, NY, W5⟩
            case measure => simp [intOf]; omega
          · obtain ⟨hx, hx1⟩ : ∃ x, findC ts d = some x := by
              cases q : findC ts d with
              | some x => exact ⟨x, rfl⟩
              | none =>
                have := find_none.1 q s (List.mem_of_getElem? HSJ.out)
                rw [HZ.out] at this
                cases this
            have isa : isA d = true := by
              cases q : isA d with
              | true => rfl
              | false =>
                have := in_addr (p := s.x0) (b := s.x1) q
                rw [HZ.out] at this
                cases this
            have e0 : fe = 0 := by rw [← FE.out]; unfold findE; rw [isa, hx1]; rfl
            have e1 : r = hx := by rw [← FR.out]; unfold findR; rw [isa, hx1]; rfl
            have best := find_best TB.out hx1 (List.mem_of_getElem? HSJ.out) HZ.out
            rw [← e1] at best
            clear hx1 e1 isa
            subst e0
            have g1 : decide (r.x1 < s.x1) = false := decide_eq_false (by omega)
            have g1' : decide (s.x1 > r.x1) = false := g1
            have p0 := A5.out 0 _ rfl
            have p1 := A5.out 1 _ rfl
            have p2 := A5.out 2 _ rfl
            have p3 := A5.out 3 _ rfl
            simp only [Nat.add_zero, Nat.zero_add] at p0 p1 p2 p3
            have r0 := K5.out.cell 0
            have r1 := K5.out.cell 1
            have r2 := K5.out.cell 2
            have r3 := K5.out.cell 3
            have EQ : ∀ W, (binOp .eql 33 (.agg #[.string s.x0, .int .i64 s.x1, .string s.x2, .int .i64 s.x3]) (.agg #[.string r.x0, .int .i64 r.x1, .string r.x2, .int .i64 r.x3])).run Try.prog W = .ok (.bool (EqR.eqbRoute s r)) W := fun W => by
              rw [run_eql_struct, show (#[.string s.x0, .int .i64 s.x1, .string s.x2, .int .i64 s.x3] : Array Value) = s.cells.toArray from rfl, show (#[.string r.x0, .int .i64 r.x1, .string r.x2, .int .i64 r.x3] : Array Value) = r.cells.toArray from rfl, EqR.eq_RouteR s r W]
              rfl
            obtain ⟨b, hb⟩ : ∃ b, EqR.eqbRoute s r = b := ⟨_, rfl⟩
            rw [hb] at EQ NX
            have NY : Hid ((inn || b) = (ts.take (j + 1)).any fun s => inB d s.x0 s.x1 && EqR.eqbRoute s r) := Lib.hid (by rw [NX.out]; simp)
            clear NX K5 A5 best hb
            cases inn
            · have NZ : Hid (b = (ts.take (j + 1)).any fun s => inB d s.x0 s.x1 && EqR.eqbRoute s r) := Lib.hid (by simpa using NY.out)
              go_wp2_with fail
              go_quiet (fail)
              go_wp2_with fail
              go_quiet (fail)
              clear p0 p1 p2 p3 r0 r1 r2 r3 EQ NY
              go_wp2_with fail
              go_roundw
              case rel => exact ⟨j + 1, _, rfl, by go_num, by omega, NZ, Lib.hid (below_drewN W5.out _)⟩
              case measure => simp [intOf]; omega
            · have NZ : Hid (true = (ts.take (j + 1)).any fun s => inB d s.x0 s.x1 && EqR.eqbRoute s r) := Lib.hid (by simpa using NY.out)
              go_wp2_with fail
              go_quiet (fail)
              go_wp2_with fail
              go_quiet (fail)
              clear p0 p1 p2 p3 r0 r1 r2 r3 EQ NY
              go_wp2_with fail
              go_roundw
              case rel => exact ⟨j + 1, _, rfl, by go_num, by omega, NZ, Lib.hid (below_drewN W5.out _)⟩
              case measure => simp [intOf]; omega
        · obtain rfl : j = m := by omega
          have NA : Hid (inn = ts.any fun s => inB d s.x0 s.x1 && EqR.eqbRoute s r) := Lib.hid (by rw [HN.out, List.take_of_length_le (by rw [ML.out]; exact Nat.le_refl _)])
          have BW := Lib.hid (B3.out.trans (HW.out.mono B3.out.size))
          clear HN HW K3 L3 B3 S3
          cases isa : isA d with
          | false =>
            have e0 : fe = 1 := by rw [← FE.out]; unfold findE; rw [isa]; rfl
            subst e0
            unfold isA at isa
            simp only [Bool.or_eq_false_iff, beq_eq_false_iff_ne] at isa
            have g4 : ((d.size : Int) != 4) = true := by rw [bne_iff_ne]; omega
            have g16 : ((d.size : Int) != 16) = true := by rw [bne_iff_ne]; omega
            clear isa
            go_wp2_with fail
            refine (awake_any _).mono ?_
            rintro e w6 ⟨rfl, hb6⟩
            have B6 := Lib.hid (BW.out.trans (hb6.mono BW.out.size))
            clear hb6
            go_wp2_with fail
            go_ret
            exact ⟨rfl, B6.out⟩
          | true =>
            have gg : (((d.size : Int) != 4) = true ∧ ((d.size : Int) != 16) = false) ∨ (((d.size : Int) != 4) = false) := by
              unfold isA at isa
              simp only [Bool.or_eq_true, beq_iff_eq] at isa
              rcases isa with e | e
              · exact .inr (by rw [e]; rfl)
              · exact .inl ⟨by rw [e]; rfl, by rw [e]; rfl⟩
            have way : (fe = 0 ∧ inn = true) ∨ (fe = 182 ∧ inn = false) := by
              cases q : findC ts d with
              | some x =>
                have e1 : r = x := by rw [← FR.out]; unfold findR; rw [isa, q]; rfl
                refine .inl ⟨by rw [← FE.out]; unfold findE; rw [isa, q]; rfl, ?_⟩
                rw [NA.out, List.any_eq_true]
                obtain ⟨m1, m2⟩ := find_mem q
                exact ⟨x, m1, by rw [m2, e1, (EqR.eqb_Route x x).2 rfl]; rfl⟩
              | none =>
                refine .inr ⟨by rw [← FE.out]; unfold findE; rw [isa, q]; rfl, ?_⟩
                rw [NA.out, List.any_eq_false]
                intro x hx
                rw [find_none.1 q x hx]
                simp
            clear isa NA FE FR
            rcases gg with ⟨g4, g16⟩ | g4
            all_goals
              rcases way with ⟨rfl, rfl⟩ | ⟨rfl, rfl⟩
              all_goals
                go_wp2_with fail
                refine (awake_any _).mono ?_
                rintro e w6 ⟨rfl, hb6⟩
                have B6 := Lib.hid (BW.out.trans (hb6.mono BW.out.size))
                clear hb6
                go_wp2_with fail
                go_ret
                exact ⟨rfl, B6.out⟩
end Go.Proofs.Ytnabjhdamofpgaa.LawLong18
