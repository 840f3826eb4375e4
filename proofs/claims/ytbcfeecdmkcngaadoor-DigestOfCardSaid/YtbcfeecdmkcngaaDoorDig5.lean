/- The contract of the code's Round. -/
import Derived.Test.YtbcfeecdmkcngaaDoorDig4
import Derived.Test.YtbcfeecdmkcngaaDoorShaQ
set_option linter.unusedVariables false
namespace Go.Proofs.YtbcfeecdmkcngaaDoor.Dig5
open Go.RowKit Go.PlainAid Go.Proofs.YtbcfeecdmkcngaaDoor.Sums Go.Proofs.YtbcfeecdmkcngaaDoor.Mem Go.Proofs.YtbcfeecdmkcngaaDoor.Blk Go.Proofs.YtbcfeecdmkcngaaDoor.Bits Go.Proofs.YtbcfeecdmkcngaaDoor.Bits3 Go.Proofs.YtbcfeecdmkcngaaDoor.Ints Go.Proofs.YtbcfeecdmkcngaaDoor.IntsO Go.Proofs.YtbcfeecdmkcngaaDoor.ShaD Go.Proofs.YtbcfeecdmkcngaaDoor.ShaC Go.Proofs.YtbcfeecdmkcngaaDoor.ShaQ Go.Proofs.YtbcfeecdmkcngaaDoor.Dig1 Go.Proofs.YtbcfeecdmkcngaaDoor.OpsU Go.Proofs.YtbcfeecdmkcngaaDoor.Dig2 Go.Proofs.YtbcfeecdmkcngaaDoor.Dig3 Go.Proofs.YtbcfeecdmkcngaaDoor.Dig4

/-- What Round answers, refusing or not. -/
def Ans (ok : Bool) (w : World) (F : List Nat) (e : Ending) (w' : World) : Prop :=
  (ok = true → ∃ v, e = .returned (.tuple #[v, .int .i64 0]) ∧ IOwn w' w.heap.size v F) ∧ (ok = false → e = .returned (.tuple #[.slice none 0 0, .int .i64 1])) ∧ Below w.heap.size w w'
theorem all_getD {L : List Nat} {n : Nat} (h : L.length = n) : (List.range n).map (fun i => L.getD i 0) = L := by
  subst h
  apply List.ext_getElem
  · simp
  · intro i h1 h2
    simp only [List.getElem_map, List.getElem_range]
    rw [List.getD_eq_getElem?_getD, List.getElem?_eq_getElem h2]
    rfl
theorem nats_at (l : List Int) (i : Nat) : (nats l).getD i 0 = (l.getD i 0).toNat := by
  unfold nats
  rw [List.getD_eq_getElem?_getD, List.getD_eq_getElem?_getD, List.getElem?_map]
  cases l[i]? <;> rfl
theorem getD_some {l : List Int} {i : Nat} (h : i < l.length) : l[i]? = some (l.getD i 0) := by
  rw [List.getD_eq_getElem?_getD, List.getElem?_eq_getElem h]; rfl

set_option maxHeartbeats 2000000 in
set_option maxRecDepth 100000 in
theorem round_no (A : Option Addr) (n c : Nat) (l : List Int) (A2 : Option Addr) (m c2 : Nat) (bs : List Int) (w : World) (B : Nat) (h1 : HoldsI w B A n c l) (h2 : Holds w B A2 m c2 bs) (hB : B ≤ w.heap.size) (hT : Tab w) :
    Calls Tryd.prog 10 #[.slice A n c, .slice A2 m c2] w (Ans (stI l && decide (m = 64)) w (round (nats l) (nats bs))) := by
  by_cases hn : n = 8
  · by_cases hm : m = 64
    · subst hn hm
      have OK : (stI l && decide (64 = 64)) = okI l := by rw [stI, h1.1]; simp
      rw [OK]
      have hz : ∀ v : World, (zeroValue 45).run Tryd.prog v = .ok (.agg (ucells (List.replicate 8 0))) v := zero_8
      obtain ⟨L, hL⟩ : ∃ L, L = nats l := ⟨_, rfl⟩
      have LL : Hid (L.length = 8) := Lib.hid (by rw [hL, nats_len, h1.1])
      have LA : Hid (∀ i, L.getD i 0 = (l.getD i 0).toNat) := Lib.hid fun i => by rw [hL, nats_at]
      have LM : Hid (okI l = true → W32 L) := Lib.hid fun q => by
        rw [hL]
        exact (stI_nats (show stI l = true by rw [stI, q, h1.1]; rfl)).2.1
      obtain ⟨f, hf⟩ : ∃ f : Nat → Nat, f = fun i => L.getD i 0 := ⟨_, rfl⟩
      have FI := Lib.hid (fun i => congrFun hf i)
      have FA : Hid ((List.range 8).map f = L) := Lib.hid (by rw [hf]; exact all_getD LL.out)
      have R0 : Hid (URow (w.alloc (.cells (ucells (List.replicate 8 0)) 45)) w.heap.size 45 (fil f 8 0)) := Lib.hid (by rw [fil_zero]; exact URow.new w _ _)
      obtain ⟨Z, hZ⟩ : ∃ Z, Z = ucells (List.replicate 8 0) := ⟨_, rfl⟩
      rw [← hZ] at hz R0
      have ZS : (Z = #[]) = False := by rw [hZ]; exact ucells_ne (by simp)
      have B0 := Lib.hid ((Below.refl w.heap.size w).alloc (Nat.le_refl _) (.cells Z 45))
      have H1 := Lib.hid h1
      have H2 := Lib.hid h2
      have HT := Lib.hid hT
      rw [← hL]
      clear hL hf hZ OK h1 h2 hT
      go_enter Tryd.func10, Tryd.ntmps10
      go_wp2_with fail
      clear hz ZS
      generalize w.alloc (.cells Z 45) = w1 at *
      go_loopw [22] (fun kv wr => ∃ j : Nat, kv = .int .i64 (j : Int) ∧ j ≤ 8 ∧ Hid (okI (l.take j) = true) ∧ Hid (URow wr w.heap.size 45 (fil f 8 j)) ∧ Hid (Below w.heap.size w wr)) (fun kv _ => 8 - (intOf kv).toNat)
      case atStart => exact ⟨0, rfl, by omega, Lib.hid rfl, R0, B0⟩
      case round =>
        obtain ⟨j, rfl, hj, HO, HR, HB⟩ := hrel
        clear R0 B0
        by_cases hlt : j < 8
        · obtain ⟨b, o, rfl, _, hc⟩ := (H1.out.below (HB.out.mono hB)).2.2.2 (by omega)
          have c1 := hc j hlt
          have TK : Hid (okI (l.take (j + 1)) = (okI (l.take j) && (decide (0 ≤ l.getD j 0) && decide (l.getD j 0 < 4294967296)))) := Lib.hid (by
            rw [List.take_add_one, getD_some (by rw [H1.out.1]; exact hlt)]
            simp [okI])
          have BAD : Hid ((decide (0 ≤ l.getD j 0) && decide (l.getD j 0 < 4294967296)) = false → okI l = false) := Lib.hid fun q => by
            rw [okI, List.all_eq_false]
            exact ⟨l.getD j 0, List.mem_of_getElem? (getD_some (by rw [H1.out.1]; exact hlt)), by rw [q]; decide⟩
          have FJ := FI.out j
          rw [LA.out] at FJ
          generalize l.getD j 0 = z at *
          clear hc
          by_cases q1 : z < 0
          · have F := Lib.hid (BAD.out (by rw [decide_eq_false (show ¬ (0 ≤ z) by omega)]; rfl))
            have g1 : decide (z < 0) = true := decide_eq_true q1
            clear FJ
            go_wp2_with fail
            go_ret2
            exact ⟨(fun q => by rw [F.out] at q; cases q), fun _ => rfl, HB.out⟩
          · have g1 : decide (z < 0) = false := decide_eq_false q1
            by_cases q2 : 4294967295 < z
            · have F := Lib.hid (BAD.out (by rw [decide_eq_false (show ¬ (z < 4294967296) by omega), Bool.and_false]))
              have g2 : decide (4294967295 < z) = true := decide_eq_true q2
              clear FJ
              go_wp2_with fail
              go_ret2
              exact ⟨(fun q => by rw [F.out] at q; cases q), fun _ => rfl, HB.out⟩
            · have g2 : decide (4294967295 < z) = false := decide_eq_false q2
              have TN : Hid (okI (l.take (j + 1)) = true) := Lib.hid (by rw [TK.out, HO.out, decide_eq_true (show 0 ≤ z by omega), decide_eq_true (show z < 4294967296 by omega)]; rfl)
              have k0 := HR.out.cell j (by rw [fil_len]; exact hlt)
              have f0 := HR.out.free j
              have R2 : Hid (URow (wr.setCell ⟨w.heap.size, j, none⟩ (.int .u32 ((f j : Nat) : Int))) w.heap.size 45 (fil f 8 (j + 1))) := Lib.hid (by have := HR.out.put j (f j); rwa [fil_set] at this)
              have B2 := Lib.hid (HB.out.setCell (p := ⟨w.heap.size, j, none⟩) (Nat.le_refl _) (.int .u32 ((f j : Nat) : Int)))
              generalize f j = y at *
              generalize (fil f 8 j).getD j 0 = old at *
              have f1 : IntKind.u32.wrap z = (y : Int) := by rw [IntKind.wrap_u32]; omega
              clear TK BAD HO FJ HR HB
              go_wp2_with fail
              go_roundw
              case rel => exact ⟨j + 1, by go_num, by omega, TN, R2, B2⟩
              case measure => simp [intOf]; omega
        · obtain rfl : j = 8 := by omega
          have OKL : okI l = true := by rw [← HO.out, List.take_of_length_le (by rw [H1.out.1]; exact Nat.le_refl _)]
          rw [show ((8 : Nat) : Int) = 8 from rfl]
          have OKH := Lib.hid OKL
          have LW := Lib.hid (LM.out OKL)
          have RF : Hid (URow wr w.heap.size 45 L) := Lib.hid (by have := HR.out; rwa [fil_full, FA.out] at this)
          generalize wr = wo at *
          have mk : ∀ W : World, (Instr.makeSlice 22 (.int .i64 8) (.int .i64 8)).run Tryd.prog W = .ok (.slice (some ⟨W.heap.size, 0, none⟩) 8 8) (W.alloc (.cells (icells (List.replicate 8 0)) 3)) := fun W => make_i 8 (by decide) W
          obtain ⟨FF, hFF⟩ : ∃ FF, FF = round L (nats bs) := ⟨_, rfl⟩
          have FEH := Lib.hid hFF
          have FL : Hid (FF.length = 8 ∧ W32 FF) := Lib.hid ⟨by rw [hFF, round_len], by rw [hFF]; exact round_lt _ _⟩
          obtain ⟨rf, hrf⟩ : ∃ rf : Nat → Nat, rf = fun i => FF.getD i 0 := ⟨_, rfl⟩
          have RI := Lib.hid (fun i => congrFun hrf i)
          have RA : Hid ((List.range 8).map rf = FF) := Lib.hid (by rw [hrf]; exact all_getD FL.out.1)
          have I0 : Hid (IRow (wo.alloc (.cells (icells (List.replicate 8 0)) 3)) wo.heap.size (fil rf 8 0)) := Lib.hid (by rw [fil_zero]; exact IRow.new wo _)
          obtain ⟨Y, hY⟩ : ∃ Y, Y = icells (List.replicate 8 0) := ⟨_, rfl⟩
          rw [← hY] at mk I0
          have R1 := RF.out.alloc (.cells Y 3)
          have B1 := Lib.hid (HB.out.alloc HB.out.size (.cells Y 3))
          have T1 : Hid (Tab (wo.alloc (.cells Y 3))) := Lib.hid (HT.out.up B1.out)
          have WS := HB.out.size
          have H2' := Lib.hid (H2.out.below (B1.out.mono hB))
          have sz : (ucells L).size = 8 := by rw [ucells_size, LL.out]
          have gs : (wo.alloc (.cells Y 3)).heap.size = wo.heap.size + 1 := by simp
          obtain ⟨gi, hgi⟩ : ∃ gi, gi = wo.heap.size := ⟨_, rfl⟩
          rw [← hgi] at I0 WS
          have GW := Lib.hid WS
          have C := Lib.hid (after_no L LL.out LW.out A2 c2 bs (wo.alloc (.cells Y 3)) B H2'.out (Nat.le_trans hB B1.out.size) T1.out)
          rw [← hFF] at C
          have GI := Lib.hid hgi
          clear HO HR HB hlt hj OKL hFF hrf hY RF FI FA LA LM hgi
          unfold URow at R1
          go_wp2_with (first
            | (refine wpList_load_row rfl _ _ rfl w.heap.size rfl 45 (ucells L) (0, 0) _ R1 (Tryd.underlying45) rfl (by rw [sz]; kernel_rfl) ?_))
          rw [← GI.out]
          refine C.out.mono ?_
          rintro e w3 ⟨rfl, hb⟩
          have I1 := Lib.hid (I0.out.up hb)
          have B3 := Lib.hid (B1.out.trans (hb.mono B1.out.size))
          have IX := Lib.hid (fun (j : Nat) (hj : j < 8) (W : World) => run_index_u (ty := 45) Tryd.underlying45 FL.out.1 hj W)
          generalize ucells FF = cF at *
          clear hb I0 B1 mk R1 sz T1 H2' C gs
          go_wp2_with fail
          go_loopw [42] (fun kv wr => ∃ j : Nat, kv = .int .i64 (j : Int) ∧ j ≤ 8 ∧ Hid (IRow wr gi (fil rf 8 j)) ∧ Hid (Below w.heap.size w wr)) (fun kv _ => 8 - (intOf kv).toNat)
          case atStart => exact ⟨0, rfl, by omega, I1, B3⟩
          case round =>
            obtain ⟨j, rfl, hj, HR, HB⟩ := hrel
            clear I1 B3
            by_cases hlt : j < 8
            · have ix := IX.out j hlt wr
              have c0 := HR.out.cell j (by rw [fil_len]; exact hlt)
              have f0 := HR.out.free j
              have R2 : Hid (IRow (wr.setCell ⟨gi, j, none⟩ (.int .i64 ((rf j : Nat) : Int))) gi (fil rf 8 (j + 1))) := Lib.hid (by have := HR.out.put j (rf j); rwa [fil_set] at this)
              have B2 := Lib.hid (HB.out.setCell (p := ⟨gi, j, none⟩) GW.out (.int .i64 ((rf j : Nat) : Int)))
              have M1 := FL.out.2.get j
              have FJ := RI.out j
              rw [← FJ] at ix M1
              unfold M at M1
              generalize (fil rf 8 j).getD j 0 = old at *
              generalize rf j = y at *
              have f1 : IntKind.i64.wrap (y : Int) = (y : Int) := IntWalk.i64_in _ (by omega)
              clear FJ HR HB
              go_wp2_with fail
              go_roundw
              case rel => exact ⟨j + 1, by go_num, by omega, R2, B2⟩
              case measure => simp [intOf]; omega
            · obtain rfl : j = 8 := by omega
              have OF : Hid (IOwn wr w.heap.size (.slice (some ⟨gi, 0, none⟩) 8 8) FF) := Lib.hid (by
                have := IOwn.of_row HR.out GW.out (by rw [fil_len]; decide)
                rw [fil_len, fil_full, RA.out] at this
                exact this)
              have BF := HB
              clear HR HB
              go_wp2_with fail
              go_ret2
              exact ⟨fun _ => ⟨_, rfl, by rw [← FEH.out]; exact OF.out⟩, (fun q => by rw [OKH.out] at q; cases q), BF.out⟩
    · subst hn
      have g : ((m : Int) != 64) = true := by rw [bne_iff_ne]; omega
      have F : Hid ((stI l && decide (m = 64)) = false) := Lib.hid (by rw [decide_eq_false hm, Bool.and_false])
      clear hm
      go_enter Tryd.func10, Tryd.ntmps10
      go_wp2_with fail
      go_ret2
      exact ⟨(fun q => by rw [F.out] at q; cases q), fun _ => rfl, Below.refl _ _⟩
  · have g : ((n : Int) != 8) = true := by rw [bne_iff_ne]; omega
    have F : Hid ((stI l && decide (m = 64)) = false) := Lib.hid (by rw [stI, h1.1, decide_eq_false hn, Bool.and_false, Bool.false_and])
    have nb := h1.2.1
    clear hn h1 h2
    go_enter Tryd.func10, Tryd.ntmps10
    go_wp2_with fail
    go_ret2
    exact ⟨(fun q => by rw [F.out] at q; cases q), fun _ => rfl, Below.refl _ _⟩
end Go.Proofs.YtbcfeecdmkcngaaDoor.Dig5
