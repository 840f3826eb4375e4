/- The reference: Print, sixteen bytes with a run of zeros. -/
import Derived.Test.YtggahoocgijdkaaDoorRefPrint6
set_option linter.unusedVariables false
namespace Go.Proofs.YtggahoocgijdkaaDoor.RefGap6
open Go.RowKit Go.PlainAid Go.Proofs.YtggahoocgijdkaaDoor.Std Go.Proofs.YtggahoocgijdkaaDoor.Grp Go.Proofs.YtggahoocgijdkaaDoor.Arr Go.Proofs.YtggahoocgijdkaaDoor.Mask Go.Proofs.YtggahoocgijdkaaDoor.Digits Go.Proofs.YtggahoocgijdkaaDoor.Run Go.Proofs.YtggahoocgijdkaaDoor.RefSmall Go.Proofs.YtggahoocgijdkaaDoor.RefRun Go.Proofs.YtggahoocgijdkaaDoor.Back Go.Proofs.YtggahoocgijdkaaDoor.RefPrint6

set_option maxRecDepth 100000 in
set_option maxHeartbeats 2000000 in
theorem print_gap (s : ByteArray) (h6 : s.size = 16) (hr : 2 ≤ (Run.runN (grp (bts s))).2) (w : World) :
    Calls Tryd.prog 13 #[.string s] w fun e w' => e = .returned (.tuple #[.string ⟨(sixT (grp (bts s))).toArray⟩, .int .i64 0]) ∧ Below w.heap.size w w' := by
  have C := Lib.hid (fun W => is_yes s (.inr h6) W)
  have g4 : ((s.size : Int) == 4) = false := by rw [beq_eq_false_iff_ne]; omega
  have hgb := get_bt s
  have hmk := make8
  have HL : Hid ((grp (bts s)).length = 8) := Lib.hid (by rw [grp_len, bts_len, h6])
  have HR := Lib.hid hr
  have HZ := Lib.hid h6
  clear hr
  have hN0 : Below w.heap.size w (w.alloc (.cells z8 3)) := (Below.refl _ _).alloc (Nat.le_refl _) _
  have hB0 : Blk (w.alloc (.cells z8 3)) w.heap.size 3 (intsA ((grp (bts s)).take 0 ++ List.replicate (8 - 0) 0)) := Blk.new _ _ _
  clear h6
  go_enter Tryd.func13, Tryd.ntmps13
  go_wp2_with fail
  refine (C.out _).mono ?_; rintro e w' ⟨rfl, rfl⟩
  go_wp2_with fail
  go_loopw [5] (fun i wr => ∃ k : Nat, i = .int .i64 k ∧ k ≤ 8 ∧ Blk wr w.heap.size 3 (intsA ((grp (bts s)).take k ++ List.replicate (8 - k) 0)) ∧ Below w.heap.size w wr) (fun i _ => 8 - (intOf i).toNat)
  case atStart => exact ⟨0, rfl, Nat.zero_le _, hB0, hN0⟩
  case round =>
    obtain ⟨k, rfl, hk, hB, hN⟩ := hrel
    clear hB0 hN0
    by_cases hlt : k < 8
    · have z1 : 2 * k < s.size := by rw [HZ.out]; omega
      have z2 : 2 * k + 1 < s.size := by rw [HZ.out]; omega
      have p0 := bt_nonneg s (2 * k)
      have p1 := bt_le s (2 * k)
      have q0 := bt_nonneg s (2 * k + 1)
      have q1 := bt_le s (2 * k + 1)
      have e2 : (2 * (k : Int)).toNat = 2 * k := by omega
      have e3 : (2 * (k : Int) + 1).toNat = 2 * k + 1 := by omega
      have e4 : IntKind.i64.wrap (2 * (k : Int)) = 2 * (k : Int) := IntWalk.i64_in _ (by omega)
      have e5 : IntKind.i64.wrap (2 * (k : Int) + 1) = 2 * (k : Int) + 1 := IntWalk.i64_in _ (by omega)
      have e7 : IntKind.i64.wrap (bt s (2 * k)) = bt s (2 * k) := IntWalk.i64_in _ (by omega)
      have e8 : IntKind.i64.wrap (bt s (2 * k + 1)) = bt s (2 * k + 1) := IntWalk.i64_in _ (by omega)
      have e9 : IntKind.i64.wrap (256 * bt s (2 * k)) = 256 * bt s (2 * k) := IntWalk.i64_in _ (by omega)
      have e10 : IntKind.i64.wrap (256 * bt s (2 * k) + bt s (2 * k + 1)) = 256 * bt s (2 * k) + bt s (2 * k + 1) := IntWalk.i64_in _ (by omega)
      have e6 : (grp (bts s))[k]? = some ((bt s (2 * k)).toNat * 256 + (bt s (2 * k + 1)).toNat) := grp_at _ _ _ _ (bts_at s _ z1) (bts_at s _ z2)
      have hcl : wr.cell? ⟨w.heap.size, k, none⟩ = some (.int .i64 0) := by
        rw [hB.cell, intsA_get, List.getElem?_append_right (by simp; omega)]
        rw [List.length_take, HL.out, Nat.min_eq_left hk, Nat.sub_self, List.getElem?_replicate, if_pos (by omega)]
        rfl
      have hfr := hB.frozen k
      have E6 := Lib.hid e6
      clear e6
      go_wp2_with fail
      go_region
      clear e2 e3 e4 e5 e7 e8 e9 e10 hcl hfr
      go_wp2_with fail
      go_roundw
      case rel =>
        refine ⟨k + 1, by go_num, hlt, ?_, ?_⟩
        · have := (hB.put k (.int .i64 (((bt s (2 * k)).toNat * 256 + (bt s (2 * k + 1)).toNat : Nat) : Int))).drew
          rw [intsA_put, put_next (by rw [HL.out]; exact hlt) (by omega) E6.out] at this
          have e : (((bt s (2 * k)).toNat * 256 + (bt s (2 * k + 1)).toNat : Nat) : Int) = 256 * bt s (2 * k) + bt s (2 * k + 1) := by omega
          rw [e] at this
          exact this
        · exact (hN.setCell (p := ⟨w.heap.size, k, none⟩) (by simp) _).drew
      case measure => simp [intOf]; omega
    · have e : k = 8 := by omega
      subst e
      rw [List.take_of_length_le (by rw [HL.out]; exact Nat.le_refl _), show List.replicate (8 - 8) 0 = ([] : List Nat) from rfl, List.append_nil] at hB
      have HCELL : Hid (∀ (k x : Nat), (grp (bts s))[k]? = some x → wr.cell? ⟨w.heap.size, k, none⟩ = some (.int .i64 (x : Int))) := Lib.hid (fun k x hx => by
        rw [hB.cell, intsA_get, hx]
        rfl)
      have HLE : Hid (∀ z ∈ grp (bts s), z ≤ 65535) := Lib.hid (grp_le _ (bts_le s))
      have RA := RefRun.run_any (grp (bts s)) HL.out w.heap.size wr HCELL.out
      have hle := Run.run_le (grp (bts s)) HL.out 8 (Nat.le_refl 8)
      rw [show runUpto (grp (bts s)) 8 = Run.runN (grp (bts s)) from rfl] at hle
      have SX0 : sixT (grp (bts s)) = digs ((grp (bts s)).take (Run.runN (grp (bts s))).1) ++ [58, 58] ++ digs ((grp (bts s)).drop ((Run.runN (grp (bts s))).1 + (Run.runN (grp (bts s))).2)) := by
        unfold sixT
        rw [if_neg (by have := HR.out; omega)]
      have HR2 := HR.out
      have RA2 : Calls Tryd.prog 32 #[.slice (some ⟨w.heap.size, 0, none⟩) 8 8] wr fun e w' => e = .returned (.tuple #[.int .i64 ((Run.runN (grp (bts s))).1 : Int), .int .i64 ((Run.runN (grp (bts s))).2 : Int)]) ∧ wr = w' := by
        unfold told at RA
        rw [if_pos HR2] at RA
        exact RA
      have hle1 := hle.1
      clear hle
      generalize (Run.runN (grp (bts s))).1 = p at RA2 SX0 hle1
      generalize (Run.runN (grp (bts s))).2 = n at RA2 SX0 hle1 HR2
      have RN := Lib.hid RA2
      have SX := Lib.hid SX0
      clear SX0 RA2 HR
      clear RA hB hlt hk hgb hmk
      generalize hGG : grp (bts s) = G at HL HCELL HLE RN SX
      have HG := Lib.hid hGG
      clear hGG
      go_wp2_with fail
      refine RN.out.mono ?_; rintro e w' ⟨rfl, rfl⟩
      go_wp2_with fail
      go_loop [8, 9] (fun t i => ∃ (k : Nat) (T : ByteArray), t = .string T ∧ i = .int .i64 k ∧ k ≤ 8 ∧ T.size ≤ 60 ∧ Hid ((k ≤ p ∧ T.data.toList = digs (G.take k)) ∨ (p + n ≤ k ∧ T.data.toList = digs (G.take p) ++ [58, 58] ++ digs ((G.drop (p + n)).take (k - (p + n)))))) (fun _ i => 8 - (intOf i).toNat)
      case atStart => exact ⟨0, ⟨#[]⟩, rfl, rfl, Nat.zero_le _, Nat.zero_le _, .inl ⟨Nat.zero_le _, by simp; rfl⟩⟩
      case round =>
        obtain ⟨k, T, rfl, rfl, hk, hT, hD⟩ := hrel
        by_cases hlt : k < 8
        · obtain ⟨x, hx⟩ : ∃ x, G[k]? = some x := ⟨_, List.getElem?_eq_getElem (by rw [HL.out]; exact hlt)⟩
          have hx1 := HLE.out x (List.mem_of_getElem? hx)
          have hcl := HCELL.out k x hx
          have HX := Lib.hid (fun W => RefSmall.hex_any 65536 x (by omega) hx1 W)
          have lH : (⟨(Fmt.hexs x).toArray⟩ : ByteArray).size ≤ 4 := by rw [Parse.bsz]; exact hexs_len x hx1
          have dH : Hid ((⟨(Fmt.hexs x).toArray⟩ : ByteArray).data.toList = Fmt.hexs x) := Lib.hid (by simp)
          have ek : Hid (G.take (k + 1) = G.take k ++ [x]) := Lib.hid (by rw [List.take_add_one, hx]; rfl)
          have ed : Hid (p + n ≤ k → (G.drop (p + n)).take (k + 1 - (p + n)) = (G.drop (p + n)).take (k - (p + n)) ++ [x]) := Lib.hid (fun h => by
            rw [show k + 1 - (p + n) = (k - (p + n)) + 1 by omega, List.take_add_one, List.getElem?_drop, show p + n + (k - (p + n)) = k by omega, hx]; rfl)
          have five : ∀ L : List Nat, (∀ z ∈ L, z ∈ G) → L.length ≤ 8 → (digs L).length ≤ 5 * L.length := fun L h1 h2 => by
            have := digs_len1 L (fun z hz => HLE.out z (h1 z hz))
            omega
          have FV := Lib.hid five
          clear hx five
          generalize (⟨(Fmt.hexs x).toArray⟩ : ByteArray) = H at HX lH dH
          have hTl : T.data.toList.length = T.size := by rw [Array.length_toList]; rfl
          by_cases hkp : k = p
          · subst hkp
            have gk : ((k : Int) == (k : Int)) = true := by simp
            have hD1 : T.data.toList = digs (G.take k) := by
              rcases hD.out with h | h
              · exact h.2
              · omega
            have ha : ∀ W, (Op.stringOp .add T ⟨#[58, 58]⟩).run Tryd.prog W = .ok (.string (T ++ ⟨#[58, 58]⟩)) W := fun W => run_string_add_sum W _ _ (by
              have : (⟨#[58, 58]⟩ : ByteArray).size = 2 := rfl
              omega)
            have ND : Hid ((T ++ ⟨#[58, 58]⟩ : ByteArray).data.toList = digs (G.take k) ++ [58, 58] ++ digs ((G.drop (k + n)).take (k + n - (k + n)))) := Lib.hid (by
              rw [Joins.data_append, hD1]
              simp
              rfl)
            have l5 := FV.out (G.take k) (fun z hz => List.mem_of_mem_take hz) (by rw [List.length_take]; omega)
            have NS : (T ++ ⟨#[58, 58]⟩ : ByteArray).size ≤ 60 := by
              rw [ByteArray.size_append, ← hTl, hD1]
              have : (⟨#[58, 58]⟩ : ByteArray).size = 2 := rfl
              rw [List.length_take] at l5
              omega
            have w1 : IntKind.i64.wrap ((k : Int) + (n : Int)) = (k : Int) + n := IntWalk.i64_in _ (by omega)
            have w2 : IntKind.i64.wrap ((k : Int) + (n : Int) - 1) = (k : Int) + n - 1 := IntWalk.i64_in _ (by omega)
            clear hD lH hD1 hTl l5
            go_wp2_with fail
            go_round
            case rel => exact ⟨k + n, T ++ ⟨#[58, 58]⟩, rfl, by go_num, hle1, NS, .inr ⟨Nat.le_refl _, ND.out⟩⟩
            case measure => simp [intOf]; omega
          · have gk : ((k : Int) == (p : Int)) = false := by rw [beq_eq_false_iff_ne]; omega
            have way : ∃ N : List UInt8, N.length ≤ 60 ∧ ((k + 1 ≤ p ∧ N = digs (G.take (k + 1))) ∨ (p + n ≤ k + 1 ∧ N = digs (G.take p) ++ [58, 58] ++ digs ((G.drop (p + n)).take (k + 1 - (p + n))))) ∧
                ((T = ⟨#[]⟩ ∧ N = Fmt.hexs x) ∨ (0 < T.size ∧ (bt T (T.size - 1) != 58) = true ∧ N = T.data.toList ++ 58 :: Fmt.hexs x) ∨ (0 < T.size ∧ (bt T (T.size - 1) != 58) = false ∧ N = T.data.toList ++ Fmt.hexs x)) := by
              have l1 := FV.out (G.take (k + 1)) (fun z hz => List.mem_of_mem_take hz) (by rw [List.length_take]; omega)
              have l2 := FV.out (G.take p) (fun z hz => List.mem_of_mem_take hz) (by rw [List.length_take]; omega)
              have l3 := FV.out ((G.drop (p + n)).take (k + 1 - (p + n))) (fun z hz => List.mem_of_mem_drop (List.mem_of_mem_take hz)) (by rw [List.length_take]; omega)
              rw [List.length_take] at l1 l2 l3
              have last : ∀ c : UInt8, 0 < T.size → T.data.toList[T.data.toList.length - 1]? = some c → bt T (T.size - 1) = (c.toNat : Int) := fun c h0 hc => by
                obtain ⟨d, hd, hb⟩ := RefNum.bt_char T (T.size - 1) (by omega)
                rw [hTl, hd] at hc
                injection hc with hc
                rw [hb, hc]
              have no58 : ∀ c : UInt8, c ≠ 58 → ((c.toNat : Int) != 58) = true := fun c hc => by
                simp only [bne_iff_ne, ne_eq]
                intro e
                exact hc (UInt8.toNat_inj.1 (by have : (58 : UInt8).toNat = 58 := rfl; omega))
              rcases hD.out with ⟨h1, h2⟩ | ⟨h1, h2⟩
              · refine ⟨digs (G.take (k + 1)), by omega, .inl ⟨by omega, rfl⟩, ?_⟩
                by_cases hk0 : k = 0
                · subst hk0
                  refine .inl ⟨ByteArray.ext (Array.toList_inj.1 (by rw [h2]; simp; rfl)), ?_⟩
                  rw [ek.out]
                  simp
                  exact digs_one x
                · have hne : G.take k ≠ [] := fun e => by
                    have := congrArg List.length e
                    rw [List.length_take, HL.out] at this
                    simp at this
                    omega
                  have hpos : 0 < T.size := by
                    rw [← hTl, h2]
                    exact List.length_pos_iff.2 (digs_ne _ hne)
                  refine .inr (.inl ⟨hpos, ?_, by rw [ek.out, h2, digs_snoc _ _ hne]⟩)
                  obtain ⟨c, hc⟩ : ∃ c, T.data.toList[T.data.toList.length - 1]? = some c := ⟨_, List.getElem?_eq_getElem (by omega)⟩
                  rw [last c hpos hc]
                  exact no58 c (fine_last T.data.toList (by rw [h2]; exact digs_fine _) c hc)
              · have hpos : 0 < T.size := by
                  rw [← hTl, h2]
                  simp
                  omega
                refine ⟨_, ?_, .inr ⟨by omega, rfl⟩, .inr ?_⟩
                · simp only [List.length_append, List.length_cons, List.length_nil]
                  omega
                · by_cases hM : k = p + n
                  · have e0 : (G.drop (p + n)).take (k - (p + n)) = [] := by rw [hM]; simp
                    rw [e0] at h2
                    right
                    refine ⟨hpos, ?_, ?_⟩
                    · have hc : T.data.toList[T.data.toList.length - 1]? = some 58 := by
                        rw [h2]
                        simp [digs, Lib.join_nil]
                      rw [last 58 hpos hc]
                      rfl
                    · rw [ed.out h1, e0, h2, List.nil_append, digs_one]
                      simp [digs, Lib.join_nil]
                  · have hne : (G.drop (p + n)).take (k - (p + n)) ≠ [] := fun e => by
                      have := congrArg List.length e
                      rw [List.length_take, List.length_drop, HL.out] at this
                      simp at this
                      omega
                    left
                    have hdl : 0 < (digs ((G.drop (p + n)).take (k - (p + n)))).length := List.length_pos_iff.2 (digs_ne _ hne)
                    refine ⟨hpos, ?_, by rw [ed.out h1, h2, digs_snoc _ _ hne]; simp⟩
                    obtain ⟨c, hc⟩ : ∃ c, T.data.toList[T.data.toList.length - 1]? = some c := ⟨_, List.getElem?_eq_getElem (by omega)⟩
                    rw [last c hpos hc]
                    refine no58 c (fine_last (digs ((G.drop (p + n)).take (k - (p + n)))) (digs_fine _) c ?_)
                    rw [← hc, h2, List.getElem?_append_right (by simp only [List.length_append]; omega)]
                    congr 1
                    simp only [List.length_append]
                    omega
            obtain ⟨N, hNl, hNr, hway⟩ := way
            have NR := Lib.hid hNr
            clear hNr hD FV
            have w1 : 0 < T.size → IntKind.i64.wrap ((T.size : Int) - 1) = (T.size : Int) - 1 := fun _ => IntWalk.i64_in _ (by omega)
            have w2 : ((T.size : Int) - 1).toNat = T.size - 1 := by omega
            rcases hway with ⟨rfl, hN1⟩ | ⟨hpos, g58, hN1⟩ | ⟨hpos, g58, hN1⟩
            · have ha : ∀ W, (Op.stringOp .add ⟨#[]⟩ H).run Tryd.prog W = .ok (.string (⟨#[]⟩ ++ H)) W := fun W => run_string_add_sum W _ _ (by
                have : (⟨#[]⟩ : ByteArray).size = 0 := rfl
                omega)
              have ND : Hid ((⟨#[]⟩ ++ H : ByteArray).data.toList = N) := Lib.hid (by
                rw [Joins.data_append, dH.out, hN1]
                simp)
              have NS : (⟨#[]⟩ ++ H : ByteArray).size ≤ 60 := by rw [Lib.size_eq, ND.out]; exact hNl
              clear lH hN1 hTl w1 w2
              go_wp2_with fail
              refine (HX.out _).mono ?_; rintro e w' ⟨rfl, rfl⟩
              go_wp2_with fail
              go_round
              case rel => exact ⟨k + 1, ⟨#[]⟩ ++ H, rfl, by go_num, by omega, NS, Lib.hid (by rw [ND.out]; exact NR.out)⟩
              case measure => simp [intOf]; omega
            all_goals
              have w1 := w1 hpos
              have hemp : T.toList.isEmpty = false := by
                rw [← decide_eq_emptyBytes]
                exact decide_eq_false (fun e => by rw [e] at hpos; exact absurd hpos (by decide))
              have hgbT := get_bt T
            · have ha1 : ∀ W, (Op.stringOp .add T ⟨#[58]⟩).run Tryd.prog W = .ok (.string (T ++ ⟨#[58]⟩)) W := fun W => run_string_add_sum W _ _ (by
                have : (⟨#[58]⟩ : ByteArray).size = 1 := rfl
                omega)
              have ha2 : ∀ W, (Op.stringOp .add (T ++ ⟨#[58]⟩) H).run Tryd.prog W = .ok (.string (T ++ ⟨#[58]⟩ ++ H)) W := fun W => run_string_add_sum W _ _ (by
                have : (⟨#[58]⟩ : ByteArray).size = 1 := rfl
                rw [ByteArray.size_append]
                omega)
              have ND : Hid ((T ++ ⟨#[58]⟩ ++ H : ByteArray).data.toList = N) := Lib.hid (by
                rw [Joins.data_append, Joins.data_append, dH.out, hN1]
                simp)
              have NS : (T ++ ⟨#[58]⟩ ++ H : ByteArray).size ≤ 60 := by rw [Lib.size_eq, ND.out]; exact hNl
              clear lH hN1 hTl
              go_wp2_with fail
              refine (HX.out _).mono ?_; rintro e w' ⟨rfl, rfl⟩
              go_wp2_with fail
              go_round
              case rel => exact ⟨k + 1, T ++ ⟨#[58]⟩ ++ H, rfl, by go_num, by omega, NS, Lib.hid (by rw [ND.out]; exact NR.out)⟩
              case measure => simp [intOf]; omega
            · have ha : ∀ W, (Op.stringOp .add T H).run Tryd.prog W = .ok (.string (T ++ H)) W := fun W => run_string_add_sum W _ _ (by omega)
              have ND : Hid ((T ++ H : ByteArray).data.toList = N) := Lib.hid (by rw [Joins.data_append, dH.out, hN1])
              have NS : (T ++ H : ByteArray).size ≤ 60 := by rw [Lib.size_eq, ND.out]; exact hNl
              clear lH hN1 hTl
              go_wp2_with fail
              refine (HX.out _).mono ?_; rintro e w' ⟨rfl, rfl⟩
              go_wp2_with fail
              go_round
              case rel => exact ⟨k + 1, T ++ H, rfl, by go_num, by omega, NS, Lib.hid (by rw [ND.out]; exact NR.out)⟩
              case measure => simp [intOf]; omega
        · have e : k = 8 := by omega
          subst e
          have F : Hid (T = ⟨(sixT G).toArray⟩) := Lib.hid (ByteArray.ext (Array.toList_inj.1 (by
            rcases hD.out with h | h
            · omega
            · have e8 : (G.drop (p + n)).take (8 - (p + n)) = G.drop (p + n) := List.take_of_length_le (by rw [List.length_drop, HL.out]; exact Nat.le_refl _)
              rw [h.2, e8, SX.out])))
          clear hD
          go_wp2_with fail
          go_ret2
          have F2 := F.out
          rw [← HG.out] at F2
          subst F2
          exact ⟨rfl, hN⟩

end Go.Proofs.YtggahoocgijdkaaDoor.RefGap6
