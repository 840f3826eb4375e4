/- The contract of the document's Make. -/
import Derived.Test.YthmleabmklnmcaaDoorMake
import Derived.Test.YthmleabmklnmcaaDoorIcmR
set_option linter.unusedVariables false
namespace Go.Proofs.YthmleabmklnmcaaDoor.MakeR
open Go.RowKit Go.Sort Go.Proofs.YthmleabmklnmcaaDoor.Sums Go.Proofs.YthmleabmklnmcaaDoor.Words Go.Proofs.YthmleabmklnmcaaDoor.Mem Go.Proofs.YthmleabmklnmcaaDoor.Ahead Go.Proofs.YthmleabmklnmcaaDoor.IcmD Go.Proofs.YthmleabmklnmcaaDoor.Blk Go.Proofs.YthmleabmklnmcaaDoor.Bits Go.Proofs.YthmleabmklnmcaaDoor.InetSum Go.Proofs.YthmleabmklnmcaaDoor.Steps Go.Proofs.YthmleabmklnmcaaDoor.Free Go.Proofs.YthmleabmklnmcaaDoor.Cut
open Go.Proofs.YthmleabmklnmcaaDoor.Com Go.Proofs.YthmleabmklnmcaaDoor.IcmP Go.Proofs.YthmleabmklnmcaaDoor.Make Go.Proofs.YthmleabmklnmcaaDoor.IcmR

theorem owns_setCell {w : World} {base n q : Nat} {v : Value} {l : List Int} (h : Owns w base v n l) (hq : some q ≠ v.ownBlock) (o : Nat) (u : Value) : Owns (w.setCell ⟨q, o, none⟩ u) base v n l :=
  h.kept (row := some q) ⟨rfl, rfl, rfl, by simp, fun k _ hk => Below.heap_setCell w ⟨q, o, none⟩ u k (fun e => hk (by rw [e]))⟩ (.inr fun e => hq e.symm)
/-- What stands while the Types and Codes are looked through. -/
structure Mid (w : World) (g : Nat) (rest : Int) (A2 : Option Addr) (n c2 : Nat) (l : List Int) (m : Int × Int) (wr : World) : Prop where
  row : Blk wr g 24 #[.int .i64 m.1, .int .i64 m.2, .int .i64 rest, .slice A2 n c2]
  own : Owns wr w.heap.size (.slice A2 n c2) n l
  res : Blk wr w.heap.size 24 #[.int .i64 0, .int .i64 0, .int .i64 0, .slice none 0 0]
  bel : Below w.heap.size w wr
theorem Mid.below {w wr wr' : World} {g : Nat} {rest : Int} {A2 : Option Addr} {n c2 : Nat} {l : List Int} {m : Int × Int} (h : Mid w g rest A2 n c2 l m wr) (k : Below wr.heap.size wr wr') : Mid w g rest A2 n c2 l m wr' :=
  ⟨h.row.below k h.row.lt, h.own.below k (Nat.le_refl _), h.res.below k h.res.lt, h.bel.trans (k.mono h.bel.size)⟩
theorem Mid.put {w wr : World} {g : Nat} {rest : Int} {A2 : Option Addr} {n c2 : Nat} {l : List Int} {m : Int × Int} (h : Mid w g rest A2 n c2 l m wr) (hg : w.heap.size < g) (a b : Int) : Mid w g rest A2 n c2 l (a, b) ((wr.setCell ⟨g, 0, none⟩ (.int .i64 a)).setCell ⟨g, 1, none⟩ (.int .i64 b)) := by
  have hne : some g ≠ (Value.slice A2 n c2).ownBlock := fun e => own_other h.own h.row (by decide) e.symm
  exact ⟨(h.row.put 0 _).put 1 _, owns_setCell (owns_setCell h.own hne 0 _) hne 1 _, (h.res.far (by show w.heap.size ≠ g; omega) _).far (by show w.heap.size ≠ g; omega) _, (h.bel.setCell (by show w.heap.size ≤ g; omega) _).setCell (by show w.heap.size ≤ g; omega) _⟩
theorem Mid.put1 {w wr : World} {g : Nat} {rest : Int} {A2 : Option Addr} {n c2 : Nat} {l : List Int} {m : Int × Int} (h : Mid w g rest A2 n c2 l m wr) (hg : w.heap.size < g) (b : Int) : Mid w g rest A2 n c2 l (m.1, b) (wr.setCell ⟨g, 1, none⟩ (.int .i64 b)) := by
  have hne : some g ≠ (Value.slice A2 n c2).ownBlock := fun e => own_other h.own h.row (by decide) e.symm
  exact ⟨h.row.put 1 _, owns_setCell h.own hne 1 _, h.res.far (by show w.heap.size ≠ g; omega) _, h.bel.setCell (by show w.heap.size ≤ g; omega) _⟩

set_option maxHeartbeats 4000000 in
set_option maxRecDepth 100000 in
theorem make_ref (k : Int) (wide : Bool) (rest : Int) (A : Option Addr) (n c : Nat) (l : List Int) (w : World) (B : Nat) (h : Holds w B A n c l) (hB : B ≤ w.heap.size) (hn : n ≤ 1048576) :
    Calls Tryd.prog 18 #[.int .i64 k, .bool wide, .int .i64 rest, .slice A n c] w (Gm k wide rest n l w) := by
  have B0 := Lib.hid ((Below.refl w.heap.size w).alloc (Nat.le_refl _) (.cells #[.int .i64 0, .int .i64 0, .int .i64 0, .slice none 0 0] 24))
  have R0 := Lib.hid (Blk.new w 24 #[.int .i64 0, .int .i64 0, .int .i64 0, .slice none 0 0])
  have H0 := Lib.hid ((h.below (B0.out.mono hB)).more (Nat.le_trans hB B0.out.size))
  clear h
  by_cases q0 : k < 1
  · have PE : Hid (mkErr k rest = 1) := Lib.hid (mk_one fun q => by have := q.1; omega)
    have g0 : decide (k < 1) = true := decide_eq_true q0
    clear q0
    go_enter Tryd.func18, Tryd.ntmps18
    go_wp2_with (refine wpList_store_row rfl 24 (.tmp 8) (.tmp 27) rfl w.heap.size #[.int .i64 0, .int .i64 0, .int .i64 0, .slice none 0 0] rfl rfl 24 _ R0.out (by kernel_rfl) rfl (oneI Ic.zero _ _ _) ?_)
    exact bodyPost_ret (results_pair rfl _ _ w.heap.size 24 _ (0, 0) _ _ rfl rfl (setRow_heap _ _ _ _ _ _ R0.out) Tryd.underlying24 rfl (by kernel_rfl)) rfl ⟨.inr ⟨by rw [PE.out]; decide, rfl⟩, setRow_bel B0.out (Nat.le_refl _) _⟩
  have g0 : decide (k < 1) = false := decide_eq_false q0
  by_cases q1 : 6 < k
  · have PE : Hid (mkErr k rest = 1) := Lib.hid (mk_one fun q => by have := q.2.1; omega)
    have g1 : decide (6 < k) = true := decide_eq_true q1
    clear q1
    go_enter Tryd.func18, Tryd.ntmps18
    go_wp2_with (refine wpList_store_row rfl 24 (.tmp 8) (.tmp 27) rfl w.heap.size #[.int .i64 0, .int .i64 0, .int .i64 0, .slice none 0 0] rfl rfl 24 _ R0.out (by kernel_rfl) rfl (oneI Ic.zero _ _ _) ?_)
    exact bodyPost_ret (results_pair rfl _ _ w.heap.size 24 _ (0, 0) _ _ rfl rfl (setRow_heap _ _ _ _ _ _ R0.out) Tryd.underlying24 rfl (by kernel_rfl)) rfl ⟨.inr ⟨by rw [PE.out]; decide, rfl⟩, setRow_bel B0.out (Nat.le_refl _) _⟩
  have g1 : decide (6 < k) = false := decide_eq_false q1
  by_cases q2 : rest < 0
  · have PE : Hid (mkErr k rest = 1) := Lib.hid (mk_one fun q => by have := q.2.2.1; omega)
    have g2 : decide (rest < 0) = true := decide_eq_true q2
    clear q2
    go_enter Tryd.func18, Tryd.ntmps18
    go_wp2_with (refine wpList_store_row rfl 24 (.tmp 8) (.tmp 27) rfl w.heap.size #[.int .i64 0, .int .i64 0, .int .i64 0, .slice none 0 0] rfl rfl 24 _ R0.out (by kernel_rfl) rfl (oneI Ic.zero _ _ _) ?_)
    exact bodyPost_ret (results_pair rfl _ _ w.heap.size 24 _ (0, 0) _ _ rfl rfl (setRow_heap _ _ _ _ _ _ R0.out) Tryd.underlying24 rfl (by kernel_rfl)) rfl ⟨.inr ⟨by rw [PE.out]; decide, rfl⟩, setRow_bel B0.out (Nat.le_refl _) _⟩
  have g2 : decide (rest < 0) = false := decide_eq_false q2
  by_cases q3 : 4294967295 < rest
  · have PE : Hid (mkErr k rest = 1) := Lib.hid (mk_one fun q => by have := q.2.2.2; omega)
    have g3 : decide (4294967295 < rest) = true := decide_eq_true q3
    clear q3
    go_enter Tryd.func18, Tryd.ntmps18
    go_wp2_with (refine wpList_store_row rfl 24 (.tmp 8) (.tmp 27) rfl w.heap.size #[.int .i64 0, .int .i64 0, .int .i64 0, .slice none 0 0] rfl rfl 24 _ R0.out (by kernel_rfl) rfl (oneI Ic.zero _ _ _) ?_)
    exact bodyPost_ret (results_pair rfl _ _ w.heap.size 24 _ (0, 0) _ _ rfl rfl (setRow_heap _ _ _ _ _ _ R0.out) Tryd.underlying24 rfl (by kernel_rfl)) rfl ⟨.inr ⟨by rw [PE.out]; decide, rfl⟩, setRow_bel B0.out (Nat.le_refl _) _⟩
  have g3 : decide (4294967295 < rest) = false := decide_eq_false q3
  have PE : Hid (mkErr k rest = 0) := Lib.hid (by unfold mkErr; rw [if_pos ⟨by omega, by omega, by omega, by omega⟩])
  have OA := Lib.hid (outer_all (k := k) (by omega) (by omega) wide)
  have hz2 : (w.alloc (.cells #[.int .i64 0, .int .i64 0, .int .i64 0, .slice none 0 0] 24)).heap.size = w.heap.size + 1 := by simp
  go_enter Tryd.func18, Tryd.ntmps18
  go_wp2_with fail
  clear g0 g1 g2 g3 q0 q1 q2 q3
  generalize w.alloc (.cells #[.int .i64 0, .int .i64 0, .int .i64 0, .slice none 0 0] 24) = w2 at *
  refine (Both.both_lit (B := w2.heap.size) (Nat.le_refl _) [⟨A, n, c, l⟩] _ _ rfl (Both.mem1 (H0.out.more (by omega))) _ 1 hz2 rfl (by decide) (by show n + 0 ≤ 1048576; omega)).mono ?_
  rintro e w3 ⟨A2, c2, rfl, h3, o3, hb⟩
  have e1 : Both.flat [⟨A, n, c, l⟩] = l := by simp [Both.flat]
  have e0 : Both.total [⟨A, n, c, l⟩] = n := rfl
  rw [e1, e0] at o3
  rw [e0]
  have M3 : Hid (Mid w w3.heap.size rest A2 n c2 l (0, 0) (w3.alloc (.cells #[.int .i64 0, .int .i64 0, .int .i64 rest, .slice A2 n c2] 24))) := Lib.hid
    ⟨Blk.new w3 _ _, (o3.mono (by omega)).alloc _, (R0.out.below hb R0.out.lt).alloc _, (B0.out.trans (hb.mono B0.out.size)).alloc (Nat.le_trans B0.out.size hb.size) _⟩
  obtain ⟨g, hg⟩ : ∃ g, g = w3.heap.size := ⟨_, rfl⟩
  have hgw : w.heap.size < g := by have := hb.size; omega
  clear hb o3 h3 e1 e0 hz2 H0 R0 B0
  go_wp2_with fail
  rw [← hg] at M3 ⊢
  clear hg
  generalize w3.alloc (.cells #[.int .i64 0, .int .i64 0, .int .i64 rest, .slice A2 n c2] 24) = w4 at *
  go_loopw [11, 12] (fun tv cv wr => ∃ (T : Nat) (z : Int) (m : Int × Int), tv = .int .i64 z ∧ z = (T : Int) - 1 ∧ T ≤ 256 ∧ Hid (outer k wide T m = found k wide) ∧ Hid (Mid w g rest A2 n c2 l m wr)) (fun tv _ _ => (intOf tv + 1).toNat)
  case atStart => exact ⟨256, 255, (0, 0), rfl, by decide, by omega, OA, M3⟩
  case round =>
    obtain ⟨T, z, m, rfl, hz, hT, HO, HM⟩ := hrel
    clear OA M3
    cases T with
    | zero =>
      obtain rfl : z = -1 := by omega
      have MF : Hid (m = found k wide) := Lib.hid HO.out
      clear hz hT HO
      obtain ⟨m1, m2⟩ := m
      by_cases h3 : k = 3
      · subst h3
        cases wide with
        | false =>
          have M1 := Lib.hid (HM.out.put1 hgw 1)
          have c1 := HM.out.row.cell 1
          have f1 := HM.out.row.frozen 1
          have EM : Hid (m1 = 3) := Lib.hid (congrArg Prod.fst MF.out)
          clear HM MF
          go_wp2_with (first
            | (refine Loads.wpList_load_w rfl 24 (.tmp 10) rfl g rfl 24 #[.int .i64 m1, .int .i64 1, .int .i64 rest, .slice A2 n c2] (0, 0) _ M1.out.row (Tryd.underlying24) rfl (by kernel_rfl) ?_)
            | (refine wpList_store_row rfl 24 (.tmp 8) (.tmp 59) rfl w.heap.size #[.int .i64 m1, .int .i64 1, .int .i64 rest, .slice A2 n c2] rfl rfl 24 _ M1.out.res (by kernel_rfl) rfl (oneI ⟨_, _, _⟩ _ _ _) ?_))
          have OO := M1.out.own.kept (row := some w.heap.size) (grown_row _ _ #[.int .i64 m1, .int .i64 1, .int .i64 rest, .slice A2 n c2]) (.inr (own_other M1.out.own M1.out.res (by decide)))
          exact bodyPost_ret (results_pair rfl _ _ w.heap.size 24 _ (0, 0) _ _ rfl rfl (setRow_heap _ _ _ _ _ _ M1.out.res) Tryd.underlying24 rfl (by kernel_rfl)) rfl ⟨.inl ⟨PE.out, A2, c2, by rw [EM.out]; rfl, OO⟩, setRow_bel M1.out.bel (Nat.le_refl _) _⟩
        | true =>
          have EM : Hid (m1 = 1 ∧ m2 = 0) := Lib.hid ⟨congrArg Prod.fst MF.out, congrArg Prod.snd MF.out⟩
          clear MF
          go_wp2_with (first
            | (refine Loads.wpList_load_w rfl 24 (.tmp 10) rfl g rfl 24 #[.int .i64 m1, .int .i64 m2, .int .i64 rest, .slice A2 n c2] (0, 0) _ HM.out.row (Tryd.underlying24) rfl (by kernel_rfl) ?_)
            | (refine wpList_store_row rfl 24 (.tmp 8) (.tmp 59) rfl w.heap.size #[.int .i64 m1, .int .i64 m2, .int .i64 rest, .slice A2 n c2] rfl rfl 24 _ HM.out.res (by kernel_rfl) rfl (oneI ⟨_, _, _⟩ _ _ _) ?_))
          have OO := HM.out.own.kept (row := some w.heap.size) (grown_row _ _ #[.int .i64 m1, .int .i64 m2, .int .i64 rest, .slice A2 n c2]) (.inr (own_other HM.out.own HM.out.res (by decide)))
          exact bodyPost_ret (results_pair rfl _ _ w.heap.size 24 _ (0, 0) _ _ rfl rfl (setRow_heap _ _ _ _ _ _ HM.out.res) Tryd.underlying24 rfl (by kernel_rfl)) rfl ⟨.inl ⟨PE.out, A2, c2, by rw [EM.out.1, EM.out.2]; rfl, OO⟩, setRow_bel HM.out.bel (Nat.le_refl _) _⟩
      · have g3 : (k == 3) = false := beq_eq_false_iff_ne.2 h3
        have EM : Hid (m1 = (made k wide).1 ∧ m2 = (made k wide).2) := Lib.hid (by
          have := MF.out
          unfold found at this
          rw [if_neg fun q => h3 q.1] at this
          rw [← this]; exact ⟨rfl, rfl⟩)
        clear MF h3
        go_wp2_with (first
          | (refine Loads.wpList_load_w rfl 24 (.tmp 10) rfl g rfl 24 #[.int .i64 m1, .int .i64 m2, .int .i64 rest, .slice A2 n c2] (0, 0) _ HM.out.row (Tryd.underlying24) rfl (by kernel_rfl) ?_)
          | (refine wpList_store_row rfl 24 (.tmp 8) (.tmp 59) rfl w.heap.size #[.int .i64 m1, .int .i64 m2, .int .i64 rest, .slice A2 n c2] rfl rfl 24 _ HM.out.res (by kernel_rfl) rfl (oneI ⟨_, _, _⟩ _ _ _) ?_))
        have OO := HM.out.own.kept (row := some w.heap.size) (grown_row _ _ #[.int .i64 m1, .int .i64 m2, .int .i64 rest, .slice A2 n c2]) (.inr (own_other HM.out.own HM.out.res (by decide)))
        exact bodyPost_ret (results_pair rfl _ _ w.heap.size 24 _ (0, 0) _ _ rfl rfl (setRow_heap _ _ _ _ _ _ HM.out.res) Tryd.underlying24 rfl (by kernel_rfl)) rfl ⟨.inl ⟨PE.out, A2, c2, by rw [EM.out.1, EM.out.2]; rfl, OO⟩, setRow_bel HM.out.bel (Nat.le_refl _) _⟩
    | succ T =>
      obtain rfl : z = (T : Int) := by omega
      have ZT := Lib.hid hT
      clear hz hT
      go_wp2_with fail
      go_loopw [12] (fun cv wr => ∃ (C : Nat) (y : Int) (m' : Int × Int), cv = .int .i64 y ∧ Hid (y = (C : Int) - 1) ∧ Hid (C ≤ 5) ∧ Hid (outer k wide T (inner k wide T C m') = found k wide) ∧ Hid (Mid w g rest A2 n c2 l m' wr)) (fun cv _ => (intOf cv + 1).toNat)
      case atStart => exact ⟨5, 4, m, rfl, Lib.hid (by decide), Lib.hid (by omega), HO, HM⟩
      case round =>
        obtain ⟨C, y, m', rfl, HY, HC, HO, HM⟩ := hrel
        have hy := HY.out
        have hc := HC.out
        cases C with
        | zero =>
          obtain rfl : y = -1 := by omega
          have ew : IntKind.i64.wrap ((T : Int) - 1) = (T : Int) - 1 := IntWalk.i64_in _ (by have := ZT.out; omega)
          clear hy hc HY HC
          go_wp2_with fail
          go_roundw
          case rel => exact ⟨T, (T : Int) - 1, m', by go_num, by omega, by have := ZT.out; omega, Lib.hid HO.out, HM⟩
          case measure => simp [intOf] <;> omega
        | succ C =>
          obtain rfl : y = (C : Int) := by omega
          have HC2 : Hid (C ≤ 5) := Lib.hid (by omega)
          have ew : IntKind.i64.wrap ((C : Int) - 1) = (C : Int) - 1 := IntWalk.i64_in _ (by omega)
          have LL : Hid (inner k wide T (C + 1) m' = inner k wide T C (IcmD.look k wide T C m')) := Lib.hid rfl
          clear hy hc HY HC
          go_wp2_with fail
          refine (kind_ref (T : Int) (C : Int) 0 wide none 0 0 _).mono ?_
          rintro e wk ⟨rfl, hb⟩
          have MK := Lib.hid (HM.out.below hb)
          clear hb HM
          by_cases hk : kind (T : Int) (C : Int) wide = k
          · have gk : (kind (T : Int) (C : Int) wide == k) = true := beq_iff_eq.2 hk
            have HO2 : Hid (outer k wide T (inner k wide T C ((T : Int), (C : Int))) = found k wide) := Lib.hid (by
              have := HO.out
              rw [LL.out] at this
              unfold IcmD.look at this
              rw [if_pos hk] at this
              exact this)
            have MP := Lib.hid (MK.out.put hgw (T : Int) (C : Int))
            have c0 := MK.out.row.cell 0
            have c1 := MK.out.row.cell 1
            have f0 := MK.out.row.frozen 0
            have f1 := MK.out.row.frozen 1
            clear hk HO LL MK
            generalize kind (T : Int) (C : Int) wide = kk at *
            go_wp2_with fail
            go_roundw
            case rel => exact ⟨C, (C : Int) - 1, ((T : Int), (C : Int)), by go_num, Lib.hid rfl, HC2, HO2, MP⟩
            case measure => simp [intOf] <;> omega
          · have gk : (kind (T : Int) (C : Int) wide == k) = false := beq_eq_false_iff_ne.2 hk
            have HO2 : Hid (outer k wide T (inner k wide T C m') = found k wide) := Lib.hid (by
              have := HO.out
              rw [LL.out] at this
              unfold IcmD.look at this
              rw [if_neg hk] at this
              exact this)
            clear hk HO LL
            generalize kind (T : Int) (C : Int) wide = kk at *
            go_wp2_with fail
            go_roundw
            case rel => exact ⟨C, (C : Int) - 1, m', by go_num, Lib.hid rfl, HC2, HO2, MK⟩
            case measure => simp [intOf] <;> omega
end Go.Proofs.YthmleabmklnmcaaDoor.MakeR
