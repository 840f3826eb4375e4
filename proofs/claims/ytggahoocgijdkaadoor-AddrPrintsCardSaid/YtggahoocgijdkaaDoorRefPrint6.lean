/- The reference: Print, sixteen bytes. -/
import Derived.Test.YtggahoocgijdkaaDoorRefRun
import Derived.Test.YtggahoocgijdkaaDoorRefGap
import Derived.Test.YtggahoocgijdkaaDoorRefSmall
import Derived.Lib.SmallJoins
set_option linter.unusedVariables false
namespace Go.Proofs.YtggahoocgijdkaaDoor.RefPrint6
open Go.RowKit Go.PlainAid Go.Proofs.YtggahoocgijdkaaDoor.Std Go.Proofs.YtggahoocgijdkaaDoor.Grp Go.Proofs.YtggahoocgijdkaaDoor.Arr Go.Proofs.YtggahoocgijdkaaDoor.Mask Go.Proofs.YtggahoocgijdkaaDoor.Digits Go.Proofs.YtggahoocgijdkaaDoor.Run Go.Proofs.YtggahoocgijdkaaDoor.RefSmall Go.Proofs.YtggahoocgijdkaaDoor.RefRun Go.Proofs.YtggahoocgijdkaaDoor.Back

def intsA (l : List Nat) : Array Value := (l.map fun z : Nat => Value.int .i64 (z : Int)).toArray
theorem intsA_get (l : List Nat) (j : Nat) : (intsA l)[j]? = l[j]?.map fun z : Nat => Value.int .i64 (z : Int) := by simp [intsA]
theorem intsA_put (l : List Nat) (j z : Nat) : (intsA l).setIfInBounds j (.int .i64 (z : Int)) = intsA (l.set j z) := by
  simp [intsA, List.map_set]
theorem int_info : (Tryd.prog.info? 3).map (fun i => (i.zero, i.size, i.bytes)) = some (some (.int .i64 0), 1, 8) := by kernel_rfl
/-- Eight zeros. -/
def z8 : Array Value := intsA (List.replicate 8 0)
theorem made8 : madeCells (Value.int .i64 0).cells (8 * 1) = z8 := by
  have e : ∀ n : Nat, intsA (List.replicate n 0) = (List.replicate n (Value.int .i64 0)).toArray := fun n => by simp [intsA, List.map_replicate]
  unfold z8
  rw [e, ← RefGap.made_cells]
  rfl
theorem make8 (w : World) :
    (Instr.makeSlice 52 (.int .i64 8) (.int .i64 8)).run Tryd.prog w = .ok (.slice (some ⟨w.heap.size, 0, none⟩) 8 8) (w.alloc (.cells z8 3)) := by
  obtain ⟨i, hi, hz, hsz, hby⟩ := info_parts int_info
  have hr := run_make (P := Tryd.prog) w 52 3 i (.int .i64 0) Tryd.underlying52 hi hz .i64 .i64 8 8 (by omega) (by omega) (by rw [hby]; omega) (by omega)
  rw [hsz] at hr
  rw [show (8 : Int).toNat = 8 from rfl, made8] at hr
  exact hr

theorem digs_snoc : ∀ (l : List Nat) (x : Nat), l ≠ [] → digs (l ++ [x]) = digs l ++ 58 :: Fmt.hexs x
  | [], _, h => absurd rfl h
  | [a], x, _ => by rw [List.cons_append, List.nil_append, digs_two, digs_one, digs_one]
  | a :: b :: r, x, _ => by
    have ih := digs_snoc (b :: r) x (by simp)
    rw [List.cons_append, List.cons_append, digs_two, digs_two]
    rw [List.cons_append] at ih
    rw [ih]
    simp
theorem fine_last : ∀ (l : List UInt8), Fine l → ∀ c, l[l.length - 1]? = some c → c ≠ 58
  | [], _, c, h => by simp at h
  | [x], hf, c, h => by simp at h; subst h; exact hf
  | x :: y :: r, hf, c, h => fine_last (y :: r) hf.2 c (by simpa using h)

set_option maxRecDepth 100000 in
set_option maxHeartbeats 1000000 in
theorem print_plain (s : ByteArray) (h6 : s.size = 16) (hr : (Run.runN (grp (bts s))).2 < 2) (w : World) :
    Calls Tryd.prog 13 #[.string s] w fun e w' => e = .returned (.tuple #[.string ⟨(sixT (grp (bts s))).toArray⟩, .int .i64 0]) ∧ Below w.heap.size w w' := by
  have C := Lib.hid (fun W => is_yes s (.inr h6) W)
  have g4 : ((s.size : Int) == 4) = false := by rw [beq_eq_false_iff_ne]; omega
  have hgb := get_bt s
  have hmk := make8
  have HL : Hid ((grp (bts s)).length = 8) := Lib.hid (by rw [grp_len, bts_len, h6])
  have HR := Lib.hid hr
  have HZ := Lib.hid h6
  clear hr
  have hN0 : Below w.heap.size w (w.alloc (.cells z8 3)) := (Below.refl _ _).alloc (Nat.le_refl _) _
  have hB0 : Blk (w.alloc (.cells z8 3)) w.heap.size 3 (intsA ((grp (bts s)).take 0 ++ List.replicate (8 - 0) 0)) := Blk.new _ _ _
  clear h6
  go_enter Tryd.func13, Tryd.ntmps13
  go_wp2_with fail
  refine (C.out _).mono ?_; rintro e w' ⟨rfl, rfl⟩
  go_wp2_with fail
  go_loopw [5] (fun i wr => ∃ k : Nat, i = .int .i64 k ∧ k ≤ 8 ∧ Blk wr w.heap.size 3 (intsA ((grp (bts s)).take k ++ List.replicate (8 - k) 0)) ∧ Below w.heap.size w wr) (fun i _ => 8 - (intOf i).toNat)
  case atStart => exact ⟨0, rfl, Nat.zero_le _, hB0, hN0⟩
  case round =>
    obtain ⟨k, rfl, hk, hB, hN⟩ := hrel
    clear hB0 hN0
    by_cases hlt : k < 8
    · have z1 : 2 * k < s.size := by rw [HZ.out]; omega
      have z2 : 2 * k + 1 < s.size := by rw [HZ.out]; omega
      have p0 := bt_nonneg s (2 * k)
      have p1 := bt_le s (2 * k)
      have q0 := bt_nonneg s (2 * k + 1)
      have q1 := bt_le s (2 * k + 1)
      have e2 : (2 * (k : Int)).toNat = 2 * k := by omega
      have e3 : (2 * (k : Int) + 1).toNat = 2 * k + 1 := by omega
      have e4 : IntKind.i64.wrap (2 * (k : Int)) = 2 * (k : Int) := IntWalk.i64_in _ (by omega)
      have e5 : IntKind.i64.wrap (2 * (k : Int) + 1) = 2 * (k : Int) + 1 := IntWalk.i64_in _ (by omega)
      have e7 : IntKind.i64.wrap (bt s (2 * k)) = bt s (2 * k) := IntWalk.i64_in _ (by omega)
      have e8 : IntKind.i64.wrap (bt s (2 * k + 1)) = bt s (2 * k + 1) := IntWalk.i64_in _ (by omega)
      have e9 : IntKind.i64.wrap (256 * bt s (2 * k)) = 256 * bt s (2 * k) := IntWalk.i64_in _ (by omega)
      have e10 : IntKind.i64.wrap (256 * bt s (2 * k) + bt s (2 * k + 1)) = 256 * bt s (2 * k) + bt s (2 * k + 1) := IntWalk.i64_in _ (by omega)
      have e6 : (grp (bts s))[k]? = some ((bt s (2 * k)).toNat * 256 + (bt s (2 * k + 1)).toNat) := grp_at _ _ _ _ (bts_at s _ z1) (bts_at s _ z2)
      have hcl : wr.cell? ⟨w.heap.size, k, none⟩ = some (.int .i64 0) := by
        rw [hB.cell, intsA_get, List.getElem?_append_right (by simp; omega)]
        rw [List.length_take, HL.out, Nat.min_eq_left hk, Nat.sub_self, List.getElem?_replicate, if_pos (by omega)]
        rfl
      have hfr := hB.frozen k
      have E6 := Lib.hid e6
      clear e6
      go_wp2_with fail
      go_region
      clear e2 e3 e4 e5 e7 e8 e9 e10 hcl hfr
      go_wp2_with fail
      go_roundw
      case rel =>
        refine ⟨k + 1, by go_num, hlt, ?_, ?_⟩
        · have := (hB.put k (.int .i64 (((bt s (2 * k)).toNat * 256 + (bt s (2 * k + 1)).toNat : Nat) : Int))).drew
          rw [intsA_put, put_next (by rw [HL.out]; exact hlt) (by omega) E6.out] at this
          have e : (((bt s (2 * k)).toNat * 256 + (bt s (2 * k + 1)).toNat : Nat) : Int) = 256 * bt s (2 * k) + bt s (2 * k + 1) := by omega
          rw [e] at this
          exact this
        · exact (hN.setCell (p := ⟨w.heap.size, k, none⟩) (by simp) _).drew
      case measure => simp [intOf]; omega
    · have e : k = 8 := by omega
      subst e
      rw [List.take_of_length_le (by rw [HL.out]; exact Nat.le_refl _), show List.replicate (8 - 8) 0 = ([] : List Nat) from rfl, List.append_nil] at hB
      have HCELL : Hid (∀ (k x : Nat), (grp (bts s))[k]? = some x → wr.cell? ⟨w.heap.size, k, none⟩ = some (.int .i64 (x : Int))) := Lib.hid (fun k x hx => by
        rw [hB.cell, intsA_get, hx]
        rfl)
      have HLE : Hid (∀ z ∈ grp (bts s), z ≤ 65535) := Lib.hid (grp_le _ (bts_le s))
      have RA := RefRun.run_any (grp (bts s)) HL.out w.heap.size wr HCELL.out
      have ht : told (Run.runN (grp (bts s))) = (-1, 1) := by unfold told; rw [if_neg (by have := HR.out; omega)]
      rw [ht] at RA
      have RN := Lib.hid RA
      have SX : Hid (sixT (grp (bts s)) = digs (grp (bts s))) := Lib.hid (by unfold sixT; rw [if_pos HR.out])
      clear RA ht hB hlt hk hgb hmk
      generalize hGG : grp (bts s) = G at HL HCELL HLE RN SX
      have HG := Lib.hid hGG
      clear hGG
      go_wp2_with fail
      refine RN.out.mono ?_; rintro e w' ⟨rfl, rfl⟩
      go_wp2_with fail
      go_loop [8, 9] (fun t i => ∃ (k : Nat) (T : ByteArray), t = .string T ∧ i = .int .i64 k ∧ k ≤ 8 ∧ T.size ≤ 40 ∧ Hid (T.data.toList = digs (G.take k))) (fun _ i => 8 - (intOf i).toNat)
      case atStart => exact ⟨0, ⟨#[]⟩, rfl, rfl, Nat.zero_le _, Nat.zero_le _, by show _ = digs (G.take 0); simp; rfl⟩
      case round =>
        obtain ⟨k, T, rfl, rfl, hk, hT, hD⟩ := hrel
        by_cases hlt : k < 8
        · obtain ⟨x, hx⟩ : ∃ x, G[k]? = some x := ⟨_, List.getElem?_eq_getElem (by rw [HL.out]; exact hlt)⟩
          have hx1 := HLE.out x (List.mem_of_getElem? hx)
          have hcl := HCELL.out k x hx
          have HX := Lib.hid (fun W => RefSmall.hex_any 65536 x (by omega) hx1 W)
          have lH : (⟨(Fmt.hexs x).toArray⟩ : ByteArray).size ≤ 4 := by rw [Parse.bsz]; exact hexs_len x hx1
          have dH : Hid ((⟨(Fmt.hexs x).toArray⟩ : ByteArray).data.toList = Fmt.hexs x) := Lib.hid (by simp)
          have ek : Hid (G.take (k + 1) = G.take k ++ [x]) := Lib.hid (by rw [List.take_add_one, hx]; rfl)
          have hl5 : Hid ((digs (G.take (k + 1))).length ≤ 40) := Lib.hid (by
            have := digs_len1 (G.take (k + 1)) (fun z hz => HLE.out z (List.mem_of_mem_take hz))
            rw [List.length_take] at this
            omega)
          clear hx
          generalize (⟨(Fmt.hexs x).toArray⟩ : ByteArray) = H at HX lH dH
          have gk : ((k : Int) == -1) = false := by rw [beq_eq_false_iff_ne]; omega
          by_cases hk0 : k = 0
          · subst hk0
            have hTe : T = ⟨#[]⟩ := ByteArray.ext (Array.toList_inj.1 (by rw [hD.out]; simp; rfl))
            subst hTe
            have ha : ∀ W, (Op.stringOp .add ⟨#[]⟩ H).run Tryd.prog W = .ok (.string (⟨#[]⟩ ++ H)) W := fun W => run_string_add_sum W _ _ (by
              have : (⟨#[]⟩ : ByteArray).size = 0 := rfl
              omega)
            have ND : Hid ((⟨#[]⟩ ++ H : ByteArray).data.toList = digs (G.take (0 + 1))) := Lib.hid (by
              rw [Joins.data_append, dH.out, ek.out]
              simp
              exact (digs_one x).symm)
            have NS : (⟨#[]⟩ ++ H : ByteArray).size ≤ 40 := by rw [Lib.size_eq, ND.out]; exact hl5.out
            clear hD lH
            go_wp2_with fail
            refine (HX.out _).mono ?_; rintro e w' ⟨rfl, rfl⟩
            go_wp2_with fail
            go_round
            case rel => exact ⟨0 + 1, ⟨#[]⟩ ++ H, rfl, by go_num, by omega, NS, ND⟩
            case measure => simp [intOf]
          · have hne : G.take k ≠ [] := fun e => by
              have := congrArg List.length e
              rw [List.length_take, HL.out] at this
              simp at this
              omega
            have hTl : T.data.toList.length = T.size := by rw [Array.length_toList]; rfl
            have hpos : 0 < T.size := by
              rw [← hTl, hD.out]
              exact List.length_pos_iff.2 (digs_ne _ hne)
            have hemp : T.toList.isEmpty = false := by
              rw [← decide_eq_emptyBytes]
              exact decide_eq_false (fun e => by rw [e] at hpos; exact absurd hpos (by decide))
            have hgbT := get_bt T
            obtain ⟨c, hc, hbt⟩ := RefNum.bt_char T (T.size - 1) (by omega)
            have hc58 : c ≠ 58 := fine_last T.data.toList (by rw [hD.out]; exact digs_fine _) c (by rw [hTl]; exact hc)
            have g58 : (bt T (T.size - 1) != 58) = true := by
              rw [hbt]
              simp only [bne_iff_ne, ne_eq]
              intro e
              exact hc58 (UInt8.toNat_inj.1 (by have : (58 : UInt8).toNat = 58 := rfl; omega))
            have w1 : IntKind.i64.wrap ((T.size : Int) - 1) = (T.size : Int) - 1 := IntWalk.i64_in _ (by omega)
            have w2 : ((T.size : Int) - 1).toNat = T.size - 1 := by omega
            have ha1 : ∀ W, (Op.stringOp .add T ⟨#[58]⟩).run Tryd.prog W = .ok (.string (T ++ ⟨#[58]⟩)) W := fun W => run_string_add_sum W _ _ (by
              have : (⟨#[58]⟩ : ByteArray).size = 1 := rfl
              omega)
            have ha2 : ∀ W, (Op.stringOp .add (T ++ ⟨#[58]⟩) H).run Tryd.prog W = .ok (.string (T ++ ⟨#[58]⟩ ++ H)) W := fun W => run_string_add_sum W _ _ (by
              have : (⟨#[58]⟩ : ByteArray).size = 1 := rfl
              rw [ByteArray.size_append]
              omega)
            have ND : Hid ((T ++ ⟨#[58]⟩ ++ H : ByteArray).data.toList = digs (G.take (k + 1))) := Lib.hid (by
              rw [Joins.data_append, Joins.data_append, dH.out, ek.out, hD.out, digs_snoc _ _ hne]
              simp)
            have NS : (T ++ ⟨#[58]⟩ ++ H : ByteArray).size ≤ 40 := by rw [Lib.size_eq, ND.out]; exact hl5.out
            clear hD lH hc hbt hc58 hne hTl
            go_wp2_with fail
            refine (HX.out _).mono ?_; rintro e w' ⟨rfl, rfl⟩
            go_wp2_with fail
            go_round
            case rel => exact ⟨k + 1, T ++ ⟨#[58]⟩ ++ H, rfl, by go_num, by omega, NS, ND⟩
            case measure => simp [intOf]; omega
        · have e : k = 8 := by omega
          subst e
          have F : Hid (T = ⟨(sixT G).toArray⟩) := Lib.hid (ByteArray.ext (Array.toList_inj.1 (by
            rw [hD.out, SX.out, List.take_of_length_le (by rw [HL.out]; exact Nat.le_refl _)])))
          clear hD
          go_wp2_with fail
          go_ret2
          have F2 := F.out
          rw [← HG.out] at F2
          subst F2
          exact ⟨rfl, hN⟩

end Go.Proofs.YtggahoocgijdkaaDoor.RefPrint6
