/- slices.Insert of one element, at packets. -/
import Derived.Test.YtnpggkpcadefjaaDoorM01
import Derived.Test.YtnpggkpcadefjaaDoorArgT
import Derived.Test.YtnpggkpcadefjaaDoorPart
import Derived.Test.YtnpggkpcadefjaaDoorM02
import Derived.Test.YtnpggkpcadefjaaDoorM10
import Derived.Test.YtnpggkpcadefjaaDoorM09
import Derived.Test.YtnpggkpcadefjaaDoorObj
import Derived.Shelf.Spec.SlicesInsert
import Derived.Lib.Overlaps
import Derived.Laws.Externs
set_option linter.unusedVariables false
namespace Go.Proofs.YtnpggkpcadefjaaDoor.InsP
open Go.RowKit Go.Proofs.YtnpggkpcadefjaaDoor.Mem Go.Proofs.YtnpggkpcadefjaaDoor.Blk Go.Proofs.YtnpggkpcadefjaaDoor.RowN Go.Proofs.YtnpggkpcadefjaaDoor.Part

theorem spl_list {X : Array Value} {a b c vs : List Value} {o : Nat} (hX : X.toList = a ++ (b ++ c)) (ho : a.length = o) (hb : b.length = vs.length) : (spl X o vs).toList = a ++ (vs ++ c) := by
  unfold spl
  have h1 : X.toList.take o = a := by rw [hX]; exact List.take_left' ho
  have h2 : X.toList.drop (o + vs.length) = c := by
    rw [hX, ← List.append_assoc]
    exact List.drop_left' (by simp [ho, hb])
  rw [h1, h2]
  simp
/-- What stands behind the two copies. -/
theorem shift_list (a d R V : List Value) (hd : 11 ≤ d.length) (hV : V.length = 11) (hR : 11 ≤ R.length) (X : Array Value) (hX : X.toList = a ++ (d ++ R)) : (spl (spl X (a.length + 11) d) a.length V).toList = a ++ (V ++ (d ++ R.drop 11)) := by
  have e1 : (spl X (a.length + 11) d).toList = (a ++ d.take 11) ++ (d ++ R.drop 11) := by
    refine spl_list (b := d.drop 11 ++ R.take 11) ?_ (by simp; omega) (by simp; omega)
    rw [hX]
    simp only [List.append_assoc]
    rw [← List.append_assoc (d.take 11), List.take_append_drop, List.take_append_drop]
  refine spl_list (b := d.take 11) ?_ rfl (by simp; omega)
  rw [e1, List.append_assoc]

abbrev RT : TypeId := 32
def zr : Value := .agg #[.int .i64 0, .int .i64 0, .int .i64 0, .int .i64 0, .bool false, .bool false, .int .i64 0, .string ⟨#[]⟩, .string ⟨#[]⟩, .string ⟨#[]⟩, .slice none 0 0]
theorem info_pkt : ∃ i, Tryd.prog.info? 32 = some i ∧ i.zero = some zr ∧ i.size = 11 ∧ i.bytes = 120 := by
  have h : (Tryd.prog.info? 32).map (fun i => (i.zero, i.size, i.bytes)) = some (some zr, 11, 120) := by kernel_rfl
  obtain ⟨i, hi, hz⟩ := Option.map_eq_some_iff.1 h
  simp only [Prod.mk.injEq] at hz
  exact ⟨i, hi, hz.1, hz.2.1, hz.2.2⟩
theorem zr_cells : zr.cells.size = 11 := by kernel_rfl
/-- What an insertion hands back, and what it leaves. -/
def Ins (A : Option Addr) (n c : Nat) (fin : List Value) (w : World) (e : Ending) (w' : World) : Prop :=
  (∃ A' c', e = .returned (.slice A' (n + 1) c') ∧ RowAt RT 11 w' A' (n + 1) c' fin ∧ (A' = A ∨ ∃ k, A' = some ⟨k, 0, none⟩ ∧ w.heap.size ≤ k)) ∧ Keep (fun k => ¬ own A k) w w' ∧ ∀ A2 c2, RowAt RT 11 w A2 (n + 1) c2 fin → RowAt RT 11 w' A2 (n + 1) c2 fin
/-- In place: the row's block holds other cells. -/
theorem ins_in {A : Option Addr} {n c : Nat} {fin : List Value} {w w' : World} {b : Nat} {X X2 : Array Value} (hA : A = some ⟨b, 0, none⟩) (hX : Blk w b RT X) (hX2 : Blk w' b RT X2) (hs : X2.size = X.size) (hc : c * 11 ≤ X.size) (hk : Keep (fun k => ¬ own A k) w w')
    (hl : fin.length = (n + 1) * 11) (hn : n + 1 ≤ c) (hb : c ≤ 9223372036854775807) (h1 : ∀ v ∈ fin, v.oneCell' = true) (ht : X2.toList.take ((n + 1) * 11) = fin) : Ins A n c fin w (.returned (.slice A (n + 1) c)) w' := by
  refine ⟨⟨A, c, rfl, ⟨hl, hn, hb, h1, .inr ⟨b, X2, hA, hX2, by omega, ht⟩⟩, .inl rfl⟩, hk, fun A2 c2 h => ?_⟩
  by_cases e : own A2 b
  · obtain ⟨b2, Y, rfl, hY, hc2, _⟩ := h.some (by omega)
    obtain ⟨a, ha, hab⟩ := e
    cases ha
    obtain rfl : b2 = b := hab
    have : Y = X := by
      have := hY.symm.trans hX
      simp at this
      exact this
    subst this
    exact ⟨hl, h.le, h.big, h1, .inr ⟨b2, X2, rfl, hX2, by omega, ht⟩⟩
  · refine h.keep fun k hk' hlt => hk.block k (fun o => e ?_) hlt
    subst hA
    obtain ⟨a, ha, hab⟩ := o
    cases ha
    have hab : b = k := hab
    rw [hab]
    exact hk'
/-- A new row: what was is as it was. -/
theorem ins_new {A : Option Addr} {n c c' : Nat} {fin : List Value} {w w' : World} {X : Array Value} (hX : Blk w' w.heap.size RT X) (hc : c' * 11 ≤ X.size) (hk : Below w.heap.size w w')
    (hl : fin.length = (n + 1) * 11) (hn : n + 1 ≤ c') (hb : c' ≤ 9223372036854775807) (h1 : ∀ v ∈ fin, v.oneCell' = true) (ht : X.toList.take ((n + 1) * 11) = fin) : Ins A n c fin w (.returned (.slice (some ⟨w.heap.size, 0, none⟩) (n + 1) c')) w' :=
  ⟨⟨_, c', rfl, ⟨hl, hn, hb, h1, .inr ⟨_, X, rfl, hX, hc, ht⟩⟩, .inr ⟨_, rfl, Nat.le_refl _⟩⟩, Keep.of hk, fun A2 c2 h => h.below hk⟩

set_option maxHeartbeats 4000000 in
set_option maxRecDepth 100000 in
theorem insert_end (A : Option Addr) (n c : Nat) (cs : List Value) (vb : Nat) (V : Array Value) (w : World) (h : RowAt RT 11 w A n c cs) (hV : Blk w vb RT V) (hs : V.size = 11) (h1 : ∀ v ∈ V.toList, v.oneCell' = true) (hn : n ≤ 1000) :
    Calls Tryd.prog 68 #[.slice A n c, .int .i64 (n : Int), .slice (some ⟨vb, 0, none⟩) 1 1] w (Ins A n c (cs ++ V.toList) w) := by
  obtain ⟨i, hi, hz, hsz, hby⟩ := info_pkt
  have hsrc : Src Tryd.prog i.size 36 (.slice (some ⟨vb, 0, none⟩) 1 1) 1 V.toList w := Src.ofSlice w Tryd.underlying36 ⟨vb, 0, none⟩ 1 1 V.toList (by simp [hs, hsz]) (fun j u hj => by
    rw [Addr.add_lit, Nat.zero_add, hV.cell]
    simpa using hj) h1
  have fl : (cs ++ V.toList).length = (n + 1) * 11 := by simp [h.len, hs]; omega
  have f1 : ∀ v ∈ cs ++ V.toList, v.oneCell' = true := fun v hv => (List.mem_append.1 hv).elim (h.one v) (h1 v)
  by_cases room : n + 1 ≤ c
  · obtain ⟨b, X, rfl, hX, hXc, hXt⟩ : ∃ b X, A = some ⟨b, 0, none⟩ ∧ Blk w b RT X ∧ c * 11 ≤ X.size ∧ X.toList.take (n * 11) = cs := by
      rcases h.lies with ⟨_, h2⟩ | h'
      · omega
      · exact h'
    have fit : n * i.size + V.toList.length ≤ X.size := by simp [hs, hsz]; omega
    have hrun : ∀ ty, (Builtin.append_ #[36, 36] ty #[.slice (some ⟨b, 0, none⟩) n c, .slice (some ⟨vb, 0, none⟩) 1 1]).run Tryd.prog w = .ok (.slice (some ⟨b, 0, none⟩) (n + 1) c) (w.setRow b (spl X (n * i.size) V.toList)) := fun ty =>
      run_append_spl Tryd.underlying36 hi hX n c ⟨vb, 0, none⟩ 1 1 V.toList (by simp [hs, hsz]) (fun j u hj => by
        rw [Addr.add_lit, Nat.zero_add, hV.cell]
        simpa using hj) h1 room fit ty
    have E := Lib.hid (ins_in (w := w) (n := n) rfl hX (setRow_heap _ _ _ (spl X (n * i.size) V.toList) _ _ hX) (spl_size fit) hXc (Keep.row (F := fun k => ¬ own (some ⟨b, 0, none⟩) k) w b _ (fun z => z ⟨_, rfl, rfl⟩)) fl room h.big f1 (by
      unfold spl
      rw [hsz, hXt]
      show List.take _ (cs ++ V.toList ++ _) = _
      rw [List.take_append, List.take_of_length_le (by rw [fl]; exact Nat.le_refl _)]
      simp [fl]))
    clear h hsrc hX hXc hXt fl f1
    generalize w.setRow b (spl X (n * i.size) V.toList) = w1 at *
    go_enter Tryd.func68, Tryd.ntmps68
    go_wp2_with (at_builtin; refine Lib.wpList_append_run _ rfl _ _ _ _ rfl _ _ rfl rfl _ _ (hrun _) ?_)
    go_ret
    exact E.out
  · have hold : (Builtin.firstCells i.size n (.slice A n c)).run Tryd.prog w.drew = .ok cs.toArray w.drew := by
      rw [hsz]
      rcases h.lies with ⟨rfl, h2⟩ | ⟨b, X, rfl, hX, hXc, hXt⟩
      · have : n = 0 := by have := h.le; omega
        subst this
        have hc : cs = [] := List.length_eq_zero_iff.1 (by simpa using h.len)
        rw [hc]
        exact run_firstCells_none w.drew 11 0 0 c
      · exact run_firstCells_some w.drew 11 n ⟨b, 0, none⟩ n c cs h.len (fun j v hj => by
          rw [Addr.add_lit, Nat.zero_add]
          exact h.cell rfl hj)
    have hrun : ∀ ty, (Builtin.append_ #[36, 36] ty #[.slice A n c, .slice (some ⟨vb, 0, none⟩) 1 1]).run Tryd.prog w = _ := fun ty =>
      run_append_grow_src w 36 36 ty RT i zr Tryd.underlying36 hi hz A n c cs hold _ 1 V.toList hsrc (by omega) (by omega) (by rw [hby]; exact growslice_fits (by omega) (by omega))
    obtain ⟨G, hG⟩ : ∃ G, G = grownCap w (n + 1) c RT := ⟨_, rfl⟩
    have g1 : n + 1 ≤ G := by rw [hG]; exact grownCap_ge w _ _ _
    have g2 : G ≤ 9223372036854775807 := by
      have := grownCap_le_maxLen w (n + 1) c RT (by unfold maxLen; omega)
      rw [← hG] at this
      unfold maxLen at this
      omega
    rw [← hG] at hrun
    have E := Lib.hid (ins_new (A := A) (c := c) (w := w) (n := n) (c' := G) (Blk.new w.drew RT ((cs ++ V.toList).toArray ++ Builtin.zeroCells zr.cells (G - (n + 1)))) (by
      rw [Array.size_append, List.size_toArray, fl, size_zeroCells, zr_cells]
      omega) ((below_drewN (Below.refl w.heap.size w) 1).alloc (Nat.le_refl _) _) fl g1 g2 f1 (by
      rw [Array.toList_append, List.toList_toArray, List.take_append, List.take_of_length_le (by rw [fl]; exact Nat.le_refl _)]
      simp [fl]))
    have hA : A = none ∨ ∃ b, A = some ⟨b, 0, none⟩ := h.lies.imp And.left fun ⟨b, _, h1, _⟩ => ⟨b, h1⟩
    clear h hsrc hold fl f1 hG
    generalize w.drew.alloc (.cells ((cs ++ V.toList).toArray ++ Builtin.zeroCells zr.cells (G - (n + 1))) RT) = w1 at *
    rcases hA with rfl | ⟨b, rfl⟩
    · go_enter Tryd.func68, Tryd.ntmps68
      go_wp2_with (at_builtin; refine Lib.wpList_append_run _ rfl _ _ _ _ rfl _ _ rfl rfl _ _ (hrun _) ?_)
      all_goals (go_ret; exact E.out)
    · go_enter Tryd.func68, Tryd.ntmps68
      go_wp2_with (at_builtin; refine Lib.wpList_append_run _ rfl _ _ _ _ rfl _ _ rfl rfl _ _ (hrun _) ?_)
      all_goals (go_ret; exact E.out)

theorem wf_room {A : Option Addr} {n c i : Nat} {cs : List Value} {V : Array Value} {w : World} (h : RowAt RT 11 w A n c cs) (hs : V.size = 11) (h1 : ∀ v ∈ V.toList, v.oneCell' = true) (hi : i ≤ n) :
    (cs.take (i * 11) ++ (V.toList ++ cs.drop (i * 11))).length = (n + 1) * 11 ∧ ∀ v ∈ cs.take (i * 11) ++ (V.toList ++ cs.drop (i * 11)), v.oneCell' = true := by
  refine ⟨?_, fun v hv => ?_⟩
  · have := h.len
    simp [hs, this]
    omega
  · rcases List.mem_append.1 hv with q | q
    · exact h.one v (List.mem_of_mem_take q)
    · rcases List.mem_append.1 q with q | q
      · exact h1 v q
      · exact h.one v (List.mem_of_mem_drop q)
set_option maxHeartbeats 4000000 in
set_option maxRecDepth 100000 in
theorem insert_shift (A : Option Addr) (n c i : Nat) (cs : List Value) (vb : Nat) (V : Array Value) (w : World) (h : RowAt RT 11 w A n c cs) (hV : Blk w vb RT V) (hs : V.size = 11) (h1 : ∀ v ∈ V.toList, v.oneCell' = true) (hn : n ≤ 1000) (hi : i < n) (room : n + 1 ≤ c) (hne : ¬ own A vb) :
    Calls Tryd.prog 68 #[.slice A n c, .int .i64 (i : Int), .slice (some ⟨vb, 0, none⟩) 1 1] w (Ins A n c (cs.take (i * 11) ++ (V.toList ++ cs.drop (i * 11))) w) := by
  obtain ⟨inf, hinf, hz, hsz, hby⟩ := info_pkt
  obtain ⟨fl, f1⟩ := wf_room h hs h1 (Nat.le_of_lt hi)
  obtain ⟨b, X, rfl, hX, hXc, hXt⟩ := h.some (by omega)
  have hvb : vb ≠ b := fun e => hne ⟨_, rfl, e.symm⟩
  have hcl := h.len
  have hbig := h.big
  obtain ⟨al, dl⟩ : (cs.take (i * 11)).length = i * 11 ∧ (cs.drop (i * 11)).length = (n - i) * 11 := by
    constructor
    · simp [hcl]; omega
    · simp [hcl]; omega
  have vl : V.toList.length = 11 := by simpa using hs
  have hXl : X.toList = cs.take (i * 11) ++ (cs.drop (i * 11) ++ X.toList.drop (n * 11)) := by
    rw [← List.append_assoc, List.take_append_drop, ← hXt, List.take_append_drop]
  obtain ⟨X1, hX1⟩ : ∃ X1, X1 = spl X ((i + 1) * 11) (cs.drop (i * 11)) := ⟨_, rfl⟩
  obtain ⟨X2, hX2⟩ : ∃ X2, X2 = spl X1 (i * 11) V.toList := ⟨_, rfl⟩
  have s1 : X1.size = X.size := by rw [hX1]; exact spl_size (by rw [dl]; omega)
  have s2 : X2.size = X.size := by rw [hX2]; exact (spl_size (by rw [vl]; omega)).trans s1
  have ht : X2.toList.take ((n + 1) * 11) = cs.take (i * 11) ++ (V.toList ++ cs.drop (i * 11)) := by
    have hh := shift_list (cs.take (i * 11)) (cs.drop (i * 11)) (X.toList.drop (n * 11)) V.toList (by rw [dl]; omega) vl (by simp; omega) X hXl
    rw [al, show i * 11 + 11 = (i + 1) * 11 by omega, ← hX1, ← hX2] at hh
    rw [hh, show cs.take (i * 11) ++ (V.toList ++ (cs.drop (i * 11) ++ (X.toList.drop (n * 11)).drop 11)) = (cs.take (i * 11) ++ (V.toList ++ cs.drop (i * 11))) ++ (X.toList.drop (n * 11)).drop 11 by simp only [List.append_assoc]]
    exact List.take_left' fl
  have B1 : ∀ u, Blk (w.drew.setRow b u) b RT u := fun u => setRow_heap _ _ _ u _ _ hX
  have hcp1 : ∀ ty dc sc, (Builtin.copy_ #[36, 36] ty #[.slice (some ⟨b, (i + 1) * 11, none⟩) (n - i) dc, .slice (some ⟨b, i * 11, none⟩) (n + 1 - i) sc]).run Tryd.prog w.drew = .ok (goInt ((n - i : Nat) : Int)) (w.drew.setRow b X1) := fun ty dc sc => by
    rw [hX1]
    exact run_copy_spl Tryd.underlying36 hinf (show Blk w.drew b RT X from hX) _ _ dc ⟨b, i * 11, none⟩ _ sc (n - i) _ (by simp only [Nat.min_def]; split <;> omega) (by rw [dl, hsz]) (fun j v hj => by
      rw [Addr.add_lit]
      rw [List.getElem?_drop] at hj
      exact h.cell rfl hj) (by rw [dl]; omega) (fun v hv => h.one v (List.mem_of_mem_drop hv)) ty
  have hcp2 : ∀ ty dc, (Builtin.copy_ #[36, 36] ty #[.slice (some ⟨b, i * 11, none⟩) (n + 1 - i) dc, .slice (some ⟨vb, 0, none⟩) 1 1]).run Tryd.prog (w.drew.setRow b X1) = .ok (goInt ((1 : Nat) : Int)) ((w.drew.setRow b X1).setRow b X2) := fun ty dc => by
    rw [hX2]
    exact run_copy_spl Tryd.underlying36 hinf (B1 X1) _ _ dc ⟨vb, 0, none⟩ _ 1 1 _ (by simp only [Nat.min_def]; split <;> omega) (by rw [vl, hsz]) (fun j v hj => by
      rw [Addr.add_lit, Nat.zero_add, Blk.cell (show Blk (w.drew.setRow b X1) vb RT V from (setRow_other _ _ _ _ hvb).trans hV)]
      simpa using hj) (by rw [vl]; omega) h1 ty
  have E := Lib.hid (ins_in (w := w) (n := n) rfl hX (w' := (w.drew.setRow b X1).setRow b X2) (X2 := X2) (by
    unfold Blk
    exact setRow_heap _ _ _ _ _ _ (B1 X1)) s2 hXc (((Keep.refl _ w).drewN 1).trans ((Keep.row (F := fun k => ¬ own (some ⟨b, 0, none⟩) k) w.drew b X1 (fun z => z ⟨_, rfl, rfl⟩)).trans (Keep.row _ b _ (fun z => z ⟨_, rfl, rfl⟩)))) fl room h.big f1 ht)
  have hov : ∀ lb cb, (callFunc 77 #[.slice (some ⟨vb, 0, none⟩) 1 1, .slice (some ⟨b, (i + 1) * 11, none⟩) lb cb]).run Tryd.prog w = .ok (.value (.bool false)) w := fun lb cb => by
    rw [run_callFunc_extern Tryd.func77 (by kernel_rfl) (by kernel_rfl) (by kernel_rfl) (e := Extern.SlicesOverlaps.overlaps #[36, 36] #[4]) (by kernel_rfl),
      Lib.run_overlaps_apart w 36 4 RT Tryd.underlying36 11 (fun w => by kernel_rfl) ⟨vb, 0, none⟩ ⟨b, (i + 1) * 11, none⟩ 1 1 lb cb hvb RT RT 11 X.size (by
        unfold Blk at hV
        simp [World.shape?, hV, hs]) (by
        unfold Blk at hX
        simp [World.shape?, hX]) (by omega) (hV.frozen 0) (hV.frozen 11)]
    rfl
  have mixed : Tryd.prog.follows .mixedOrders = true := by kernel_rfl
  have hz2 : ¬ ((i : Int) = (n : Int)) := by omega
  have hw0 : IntKind.i64.wrap ((n : Int) + 1) = (n : Int) + 1 := IntWalk.i64_in _ (by omega)
  have hw1 : IntKind.i64.wrap ((i : Int) + 1) = (i : Int) + 1 := IntWalk.i64_in _ (by omega)
  have hb1 : (0 : Int) ≤ (i : Int) + 1 := by omega
  have hin : i ≤ n := by omega
  have htn : ((i : Int) + 1).toNat = i + 1 := by omega
  have htm : ((n : Int) + 1).toNat = n + 1 := by omega
  have hb2 : ¬ (c = i + 1) := by omega
  have hb3 : (i : Int) ≤ (n : Int) + 1 := by omega
  have hb4 : ¬ (c = i) := by omega
  clear h hV hX hXc hXt hXl hX1 hX2 s1 s2 ht fl f1 al dl vl hcl B1 hne
  go_enter Tryd.func68, Tryd.ntmps68
  go_wp2_with (simp only [hov])
  go_region_law_o (refine step_copy_runI rfl _ _ 36 36 rfl _ _ (by simp [Act.eval, Act.put]) (by simp [Act.eval, Act.put]) (hcp1 _ _ _) ?_)
  go_wp2_with (at_builtin; refine wpList_copy_runI _ rfl _ _ 36 36 rfl _ _ rfl rfl (hcp2 _ _) ?_)
  go_ret
  exact E.out

/-- The same in a new row. -/
theorem grow_list (a d V Z Y : List Value) (hV : V.length = 11) (hZ : Z.length = 11 + d.length) (X : Array Value) (hX : X.toList = a ++ (Z ++ Y)) : (spl (spl X a.length V) (a.length + 11) d).toList = a ++ (V ++ d) ++ Y := by
  have e1 : (spl X a.length V).toList = a ++ (V ++ (Z.drop 11 ++ Y)) := by
    refine spl_list (b := Z.take 11) ?_ rfl (by simp; omega)
    rw [hX, ← List.append_assoc (Z.take 11), List.take_append_drop]
  have e2 : (spl (spl X a.length V) (a.length + 11) d).toList = (a ++ V) ++ (d ++ Y) := by
    refine spl_list (b := Z.drop 11) ?_ (by simp [hV]) (by simp; omega)
    rw [e1, List.append_assoc]
  rw [e2]
  simp only [List.append_assoc]
set_option maxHeartbeats 4000000 in
set_option maxRecDepth 100000 in
theorem insert_grow (A : Option Addr) (n c i : Nat) (cs : List Value) (vb : Nat) (V : Array Value) (w : World) (h : RowAt RT 11 w A n c cs) (hV : Blk w vb RT V) (hs : V.size = 11) (h1 : ∀ v ∈ V.toList, v.oneCell' = true) (hn : n ≤ 1000) (hi : i < n) (room : c < n + 1) :
    Calls Tryd.prog 68 #[.slice A n c, .int .i64 (i : Int), .slice (some ⟨vb, 0, none⟩) 1 1] w (Ins A n c (cs.take (i * 11) ++ (V.toList ++ cs.drop (i * 11))) w) := by
  obtain ⟨inf, hinf, hz, hsz, hby⟩ := info_pkt
  obtain ⟨fl, f1⟩ := wf_room h hs h1 (Nat.le_of_lt hi)
  obtain ⟨b, X, rfl, hX, hXc, hXt⟩ := h.some (by omega)
  have hcl := h.len
  have hbl := hX.lt
  have hvl := hV.lt
  have hle := h.le
  obtain ⟨al, dl⟩ : (cs.take (i * 11)).length = i * 11 ∧ (cs.drop (i * 11)).length = (n - i) * 11 := by
    constructor
    · simp [hcl]; omega
    · simp [hcl]; omega
  have vl : V.toList.length = 11 := by simpa using hs
  have hold : (Builtin.firstCells inf.size i (.slice (some ⟨b, 0, none⟩) i c)).run Tryd.prog w.drew = .ok (cs.take (i * 11)).toArray w.drew := by
    rw [hsz]
    exact run_firstCells_some w.drew 11 i ⟨b, 0, none⟩ i c (cs.take (i * 11)) al (fun j v hj => by
      rw [Addr.add_lit, Nat.zero_add]
      rw [List.getElem?_take] at hj
      split at hj
      · exact h.cell rfl hj
      · cases hj)
  obtain ⟨G, hG⟩ : ∃ G, G = grownCap w (n + 1) c RT := ⟨_, rfl⟩
  have g1 : n + 1 ≤ G := by rw [hG]; exact grownCap_ge w _ _ _
  have g2 : G ≤ 9223372036854775807 := by
    have := grownCap_le_maxLen w (n + 1) c RT (by unfold maxLen; omega)
    rw [← hG] at this
    unfold maxLen at this
    omega
  obtain ⟨ROW, hROW⟩ : ∃ ROW : Array Value, ROW = (cs.take (i * 11)).toArray ++ Builtin.zeroCells zr.cells (n + 1 - i) ++ Builtin.zeroCells zr.cells (G - (n + 1)) := ⟨_, rfl⟩
  have hik : i + (n + 1 - i) = n + 1 := by omega
  have hrz : ∀ ty, (Builtin.append_ #[36, 3] ty #[.slice (some ⟨b, 0, none⟩) i c, .int .i64 ((n : Int) + 1 - (i : Int))]).run Tryd.prog w = .ok (.slice (some ⟨w.heap.size, 0, none⟩) (n + 1) G) (w.drew.alloc (.cells ROW RT)) := fun ty => by
    have q := Lib.run_append_grow_zeros w 36 3 ty RT inf zr .i64 .i64 Tryd.underlying36 Tryd.underlying3 hinf hz (some ⟨b, 0, none⟩) i c (cs.take (i * 11)) hold (n + 1 - i) (by omega) (by omega) (by omega) (by omega) (by rw [hby]; omega) (by rw [hby, hik]; exact growslice_fits room (by omega))
    rw [hik, ← hG, ← hROW] at q
    rw [show (n : Int) + 1 - (i : Int) = ((n + 1 - i : Nat) : Int) by omega]
    exact q
  obtain ⟨ROW1, hR1⟩ : ∃ ROW1, ROW1 = spl ROW (i * 11) V.toList := ⟨_, rfl⟩
  obtain ⟨ROW2, hR2⟩ : ∃ ROW2, ROW2 = spl ROW1 ((i + 1) * 11) (cs.drop (i * 11)) := ⟨_, rfl⟩
  have z0 : ROW.size = G * 11 := by
    rw [hROW]
    simp only [Array.size_append, List.size_toArray, al, size_zeroCells, zr_cells]
    omega
  have z1 : ROW1.size = G * 11 := by rw [hR1]; exact (spl_size (by rw [vl, z0]; omega)).trans z0
  have z2 : ROW2.size = G * 11 := by rw [hR2]; exact (spl_size (by rw [dl, z1]; omega)).trans z1
  have ht : ROW2.toList.take ((n + 1) * 11) = cs.take (i * 11) ++ (V.toList ++ cs.drop (i * 11)) := by
    have q := grow_list (cs.take (i * 11)) (cs.drop (i * 11)) V.toList (Builtin.zeroCells zr.cells (n + 1 - i)).toList (Builtin.zeroCells zr.cells (G - (n + 1))).toList vl (by
      rw [Array.length_toList, size_zeroCells, zr_cells, dl]; omega) ROW (by rw [hROW]; simp)
    rw [al, show i * 11 + 11 = (i + 1) * 11 by omega, ← hR1, ← hR2] at q
    rw [q]
    exact List.take_left' fl
  have hcpA : ∀ W : World, Blk W w.heap.size RT ROW → Blk W vb RT V → ∀ ty dc, (Builtin.copy_ #[36, 36] ty #[.slice (some ⟨w.heap.size, i * 11, none⟩) (n + 1 - i) dc, .slice (some ⟨vb, 0, none⟩) 1 1]).run Tryd.prog W = .ok (goInt ((1 : Nat) : Int)) (W.setRow w.heap.size ROW1) := fun W hB hv ty dc => by
    rw [hR1]
    exact run_copy_spl Tryd.underlying36 hinf hB _ _ dc ⟨vb, 0, none⟩ _ 1 1 _ (by simp only [Nat.min_def]; split <;> omega) (by rw [vl, hsz]) (fun j v hj => by
      rw [Addr.add_lit, Nat.zero_add, hv.cell]
      simpa using hj) (by rw [vl, z0]; omega) h1 ty
  have hcpB : ∀ W : World, Blk W w.heap.size RT ROW1 → Blk W b RT X → ∀ ty dc sc, (Builtin.copy_ #[36, 36] ty #[.slice (some ⟨w.heap.size, (i + 1) * 11, none⟩) (n - i) dc, .slice (some ⟨b, i * 11, none⟩) (n - i) sc]).run Tryd.prog W = .ok (goInt ((n - i : Nat) : Int)) (W.setRow w.heap.size ROW2) := fun W hB hb ty dc sc => by
    rw [hR2]
    exact run_copy_spl Tryd.underlying36 hinf hB _ _ dc ⟨b, i * 11, none⟩ _ sc (n - i) _ (by simp only [Nat.min_def]; split <;> omega) (by rw [dl, hsz]) (fun j v hj => by
      rw [Addr.add_lit, hb.cell]
      rw [List.getElem?_drop, ← hXt, List.getElem?_take] at hj
      split at hj
      · simpa using hj
      · cases hj) (by rw [dl, z1]; omega) (fun v hv => h.one v (List.mem_of_mem_drop hv)) ty
  have E : Hid (∀ W, Blk W w.heap.size RT ROW2 → Below w.heap.size w W → Ins (some ⟨b, 0, none⟩) n c (cs.take (i * 11) ++ (V.toList ++ cs.drop (i * 11))) w (.returned (.slice (some ⟨w.heap.size, 0, none⟩) (n + 1) G)) W) := Lib.hid fun W hB hb => ins_new (c' := G) hB (by omega) hb fl g1 g2 f1 ht
  have k0 : Blk (w.drew.alloc (.cells ROW RT)) w.heap.size RT ROW := Blk.new w.drew RT ROW
  have k1 : Blk (w.drew.alloc (.cells ROW RT)) vb RT V := Blk.alloc (show Blk w.drew vb RT V from hV) _
  have k2 : Blk (w.drew.alloc (.cells ROW RT)) b RT X := Blk.alloc (show Blk w.drew b RT X from hX) _
  have A0 : Below w.heap.size w (w.drew.alloc (.cells ROW RT)) := (below_drewN (Below.refl w.heap.size w) 1).alloc (Nat.le_refl _) _
  obtain ⟨W1, hW1⟩ : ∃ W1, W1 = w.drew.alloc (.cells ROW RT) := ⟨_, rfl⟩
  rw [← hW1] at hrz k0 k1 k2 A0
  have m0 : Blk (W1.setRow w.heap.size ROW1) w.heap.size RT ROW1 := setRow_heap _ _ _ _ _ _ k0
  have m2 : Blk (W1.setRow w.heap.size ROW1) b RT X := (setRow_other _ _ _ _ (by omega)).trans k2
  have A1 : Below w.heap.size w (W1.setRow w.heap.size ROW1) := setRow_bel A0 (Nat.le_refl _) _
  have cpA := hcpA W1 k0 k1
  obtain ⟨W2, hW2⟩ : ∃ W2, W2 = W1.setRow w.heap.size ROW1 := ⟨_, rfl⟩
  rw [← hW2] at m0 m2 A1 cpA
  have cpB := hcpB W2.drew m0 m2
  have fin := Lib.hid (E.out (W2.drew.setRow w.heap.size ROW2) (setRow_heap _ _ _ _ _ _ m0) (setRow_bel (below_drewN A1 1) (Nat.le_refl _) _))
  have mixed : Tryd.prog.follows .mixedOrders = true := by kernel_rfl
  have hz2 : ¬ ((i : Int) = (n : Int)) := by omega
  have hz3 : (c : Int) < (n : Int) + 1 := by omega
  have hw0 : IntKind.i64.wrap ((n : Int) + 1) = (n : Int) + 1 := IntWalk.i64_in _ (by omega)
  have hw1 : IntKind.i64.wrap ((i : Int) + 1) = (i : Int) + 1 := IntWalk.i64_in _ (by omega)
  have hw2 : IntKind.i64.wrap ((n : Int) + 1 - (i : Int)) = (n : Int) + 1 - (i : Int) := IntWalk.i64_in _ (by omega)
  have hb1 : (0 : Int) ≤ (i : Int) + 1 := by omega
  have hin : i ≤ n := by omega
  have htn : ((i : Int) + 1).toNat = i + 1 := by omega
  have hGi : ¬ (G = i) := by omega
  have hGim : ¬ (G = i + 1) := by omega
  have hci : ¬ (c = i) := by omega
  have hb3 : (i : Int) ≤ (n : Int) + 1 := by omega

  clear hW1 hW2 h hV hX hXc hXt hR1 hR2 z0 z1 z2 ht fl f1 al dl vl hcl hold hROW hG hcpA hcpB E k0 k1 k2 m0 m2 A0 A1 hik
  go_enter Tryd.func68, Tryd.ntmps68
  go_wp2_with (first
    | (at_builtin; refine Lib.wpList_append_run _ rfl _ _ _ _ rfl _ _ rfl rfl _ _ (hrz _) ?_)
    | (at_builtin; refine wpList_copy_runI _ rfl _ _ 36 36 rfl _ _ rfl rfl (cpA _ _) ?_))
  go_region_law_o (refine step_copy_runI rfl _ _ 36 36 rfl _ _ (by simp [Act.eval, Act.put]) (by simp [Act.eval, Act.put]) (cpB _ _ _) ?_)
  go_wp2
  go_ret
  exact fin.out
theorem insert_pkt (A : Option Addr) (n c i : Nat) (cs : List Value) (vb : Nat) (V : Array Value) (w : World) (h : RowAt RT 11 w A n c cs) (hV : Blk w vb RT V) (hs : V.size = 11) (h1 : ∀ v ∈ V.toList, v.oneCell' = true) (hn : n ≤ 1000) (hi : i ≤ n) (hne : ¬ own A vb) :
    Calls Tryd.prog 68 #[.slice A n c, .int .i64 (i : Int), .slice (some ⟨vb, 0, none⟩) 1 1] w (Ins A n c (cs.take (i * 11) ++ (V.toList ++ cs.drop (i * 11))) w) := by
  rcases Nat.lt_or_ge i n with q | q
  · rcases Nat.lt_or_ge c (n + 1) with r | r
    · exact insert_grow A n c i cs vb V w h hV hs h1 hn q r
    · exact insert_shift A n c i cs vb V w h hV hs h1 hn q r hne
  · obtain rfl : i = n := by omega
    have e1 : cs.take (i * 11) = cs := List.take_of_length_le (by rw [h.len]; exact Nat.le_refl _)
    have e2 : cs.drop (i * 11) = [] := List.drop_eq_nil_of_le (by rw [h.len]; exact Nat.le_refl _)
    rw [e1, e2, List.append_nil]
    exact insert_end A i c cs vb V w h hV hs h1 hn
end Go.Proofs.YtnpggkpcadefjaaDoor.InsP

/- slices.Delete of one element, at names. -/
set_option linter.unusedVariables false
namespace Go.Proofs.YtnpggkpcadefjaaDoor.DelN
open Go.RowKit Go.Proofs.YtnpggkpcadefjaaDoor.Mem Go.Proofs.YtnpggkpcadefjaaDoor.Blk Go.Proofs.YtnpggkpcadefjaaDoor.RowN Go.Proofs.YtnpggkpcadefjaaDoor.InsP Go.Proofs.YtnpggkpcadefjaaDoor.Part
/-- An append whose run is known, as one step of a region that draws. -/
theorem step_append_runI {P : Program} {ops : Array Oper} {o : Oper} {a : Act} {w : World} {K : Act → World → Prop} {Q : Exit → Act → World → Prop} {E : Prop}
    (hg : o.guard = none) (d x : Operand) (dT sT : TypeId) (hop : o.op = Op.call { callee := Callee.builtin Builtin.append, args := #[d, x], argTypes := #[dT, sT] })
    (v u : Value) (hd : a.eval d = v) (hx : a.eval x = u) {v' : Value} {w' : World} (hr : (Builtin.append_ #[dT, sT] o.type #[v, u]).run P w = .ok v' w') (hK : K (a.put o.dst v') w') :
    if Region.wanted o (yielded ops a.tmps) = true then Oper.wp P o a w K Q else E := by
  have hw : Region.wanted o (yielded ops a.tmps) = true := by simp [Region.wanted, hg]
  rw [if_pos hw]
  unfold Oper.wp
  simp [execOp, hop, resolve, invoke, builtin, hd, hx, hr, Result.andThen]
  exact hK
abbrev NT : TypeId := 60
def zn : Value := .agg #[.string ⟨#[]⟩, .string ⟨#[]⟩, .int .i64 0, .int .i64 0]
theorem info_name : ∃ i, Tryd.prog.info? 60 = some i ∧ i.zero = some zn ∧ i.size = 4 ∧ i.bytes = 48 := by
  have h : (Tryd.prog.info? 60).map (fun i => (i.zero, i.size, i.bytes)) = some (some zn, 4, 48) := by kernel_rfl
  obtain ⟨i, hi, hz⟩ := Option.map_eq_some_iff.1 h
  simp only [Prod.mk.injEq] at hz
  exact ⟨i, hi, hz.1, hz.2.1, hz.2.2⟩
theorem zn_cells : zn.cells.size = 4 := by kernel_rfl
theorem del_list (a x d Y : List Value) (hx : x.length = 4) (X : Array Value) (hX : X.toList = a ++ (x ++ (d ++ Y))) (Z : List Value) (hZ : Z.length = 4) : (spl (spl X a.length d) (a.length + d.length) Z).toList = a ++ d ++ (Z ++ Y) := by
  have e1 : (spl X a.length d).toList = a ++ (d ++ ((x ++ d).drop d.length ++ Y)) := by
    refine spl_list (b := (x ++ d).take d.length) ?_ rfl (by simp)
    rw [hX, ← List.append_assoc ((x ++ d).take d.length), List.take_append_drop, List.append_assoc]
  refine spl_list (b := (x ++ d).drop d.length) ?_ (by simp) (by simp [hx, hZ])
  rw [e1, List.append_assoc]
set_option maxHeartbeats 4000000 in
set_option maxRecDepth 100000 in
theorem delete_name (A : Option Addr) (n c i : Nat) (cs : List Value) (w : World) (h : RowAt NT 4 w A n c cs) (hn : n ≤ 1000) (hi : i < n) :
    Calls Tryd.prog 42 #[.slice A n c, .int .i64 (i : Int), .int .i64 ((i : Int) + 1)] w fun e w' => e = .returned (.slice A (n - 1) c) ∧ RowAt NT 4 w' A (n - 1) c (cs.take (i * 4) ++ cs.drop ((i + 1) * 4)) ∧ Keep (fun k => ¬ own A k) w w' := by
  obtain ⟨inf, hinf, hz, hsz, hby⟩ := info_name
  obtain ⟨b, X, rfl, hX, hXc, hXt⟩ := h.some (by omega)
  have hcl := h.len
  have hle := h.le
  have hbig := h.big
  obtain ⟨al, dl⟩ : (cs.take (i * 4)).length = i * 4 ∧ (cs.drop ((i + 1) * 4)).length = (n - (i + 1)) * 4 := by
    constructor
    · simp [hcl]; omega
    · simp [hcl]; omega
  have hXl : X.toList = cs.take (i * 4) ++ ((cs.drop (i * 4)).take 4 ++ (cs.drop ((i + 1) * 4) ++ X.toList.drop (n * 4))) := by
    have e : cs.drop ((i + 1) * 4) = (cs.drop (i * 4)).drop 4 := by rw [List.drop_drop]; congr 1; omega
    rw [e, ← List.append_assoc ((cs.drop (i * 4)).take 4), List.take_append_drop, ← List.append_assoc, List.take_append_drop, ← hXt, List.take_append_drop]
  obtain ⟨Z, hZ⟩ : ∃ Z, Z = (Builtin.zeroCells zn.cells 1).toList := ⟨_, rfl⟩
  have zl : Z.length = 4 := by rw [hZ, Array.length_toList, size_zeroCells, zn_cells]
  have z1 : ∀ v ∈ Z, v.oneCell' = true := by
    rw [hZ]
    have : (Builtin.zeroCells zn.cells 1).toList.all (·.oneCell') = true := by kernel_rfl
    exact fun v hv => List.all_eq_true.1 this v hv
  obtain ⟨X1, hX1⟩ : ∃ X1, X1 = spl X (i * 4) (cs.drop ((i + 1) * 4)) := ⟨_, rfl⟩
  obtain ⟨X2, hX2⟩ : ∃ X2, X2 = spl X1 ((n - 1) * 4) Z := ⟨_, rfl⟩
  have s1 : X1.size = X.size := by rw [hX1]; exact spl_size (by rw [dl]; omega)
  have s2 : X2.size = X.size := by rw [hX2]; exact (spl_size (by rw [zl]; omega)).trans s1
  have fl : (cs.take (i * 4) ++ cs.drop ((i + 1) * 4)).length = (n - 1) * 4 := by rw [List.length_append, al, dl]; omega
  have ht : X2.toList.take ((n - 1) * 4) = cs.take (i * 4) ++ cs.drop ((i + 1) * 4) := by
    have q := del_list (cs.take (i * 4)) ((cs.drop (i * 4)).take 4) (cs.drop ((i + 1) * 4)) (X.toList.drop (n * 4)) (by simp [hcl]; omega) X hXl Z zl
    rw [al, dl, show i * 4 + (n - (i + 1)) * 4 = (n - 1) * 4 by omega, ← hX1, ← hX2] at q
    rw [q]
    exact List.take_left' fl
  obtain ⟨Ad, hA, hsrc⟩ : ∃ Ad : Addr, (if c = i + 1 then (some ⟨b, 0, none⟩ : Option Addr) else some ⟨b, (i + 1) * 4, none⟩) = some Ad ∧ ∀ j v, (cs.drop ((i + 1) * 4))[j]? = some v → w.drew.cell? (Ad.add j) = some v := by
    by_cases q : c = i + 1
    · refine ⟨_, if_pos q, fun j v hj => ?_⟩
      have : cs.drop ((i + 1) * 4) = [] := List.length_eq_zero_iff.1 (by rw [dl]; omega)
      rw [this] at hj
      cases hj
    · refine ⟨_, if_neg q, fun j v hj => ?_⟩
      rw [Addr.add_lit]
      rw [List.getElem?_drop] at hj
      exact h.cell rfl hj
  have hap : ∀ ty, (Builtin.append_ #[55, 55] ty #[.slice (some ⟨b, 0, none⟩) i c, .slice (some Ad) (n - (i + 1)) (c - (i + 1))]).run Tryd.prog w.drew = .ok (.slice (some ⟨b, 0, none⟩) (i + (n - (i + 1))) c) (w.drew.setRow b X1) := fun ty => by
    have q := run_append_spl (w := w.drew) Tryd.underlying55 hinf (show Blk w.drew b NT X from hX) i c Ad (n - (i + 1)) (c - (i + 1)) _ (by rw [dl, hsz]) hsrc (fun v hv => h.one v (List.mem_of_mem_drop hv)) (by omega) (by rw [dl, hsz]; omega) ty
    rw [hsz, ← hX1] at q
    exact q
  have B1 : Blk (w.drew.setRow b X1) b NT X1 := setRow_heap _ _ _ X1 _ _ hX
  have hcl : ∀ ty cc, (Builtin.clear_ #[55] ty #[.slice (some ⟨b, (n - 1) * 4, none⟩) (n - (n - 1)) cc]).run Tryd.prog (w.drew.setRow b X1) = .ok (.tuple #[]) ((w.drew.setRow b X1).setRow b X2) := fun ty cc => by
    rw [hX2, show n - (n - 1) = 1 by omega]
    exact run_clear_spl Tryd.underlying55 (fun w => by kernel_rfl) B1 _ 1 cc (by omega) Z hZ.symm (by rw [zl]; omega) z1 ty
  have E := Lib.hid (show RowAt NT 4 ((w.drew.setRow b X1).setRow b X2) (some ⟨b, 0, none⟩) (n - 1) c (cs.take (i * 4) ++ cs.drop ((i + 1) * 4)) ∧ Keep (fun k => ¬ own (some ⟨b, 0, none⟩) k) w ((w.drew.setRow b X1).setRow b X2) from
    ⟨⟨fl, by omega, hbig, fun v hv => (List.mem_append.1 hv).elim (fun q => h.one v (List.mem_of_mem_take q)) (fun q => h.one v (List.mem_of_mem_drop q)), .inr ⟨b, X2, rfl, setRow_heap _ _ _ _ _ _ B1, by omega, ht⟩⟩,
      ((Keep.refl _ w).drewN 1).trans ((Keep.row (F := fun k => ¬ own (some ⟨b, 0, none⟩) k) w.drew b X1 (fun z => z ⟨_, rfl, rfl⟩)).trans (Keep.row _ b _ (fun z => z ⟨_, rfl, rfl⟩)))⟩)
  have mixed : Tryd.prog.follows .mixedOrders = true := by kernel_rfl
  have hw1 : IntKind.i64.wrap ((i : Int) + 1) = (i : Int) + 1 := IntWalk.i64_in _ (by omega)
  have hb1 : (0 : Int) ≤ (i : Int) + 1 := by omega
  have hin : i ≤ n := by omega
  have hin1 : i + 1 ≤ n := by omega
  have hin2 : (i : Int) + 1 ≤ (n : Int) := by omega
  have htn : ((i : Int) + 1).toNat = i + 1 := by omega
  have hne : ¬ ((i : Int) = (i : Int) + 1) := by omega
  have hsum : i + (n - (i + 1)) = n - 1 := by omega
  have hic : i ≤ c := by omega
  have hjc : i + 1 ≤ c := by omega
  clear h hX hXc hXt hXl hX1 hX2 s1 s2 ht fl al dl zl z1 hZ hsrc B1
  rw [hsum] at hap
  go_enter Tryd.func42, Tryd.ntmps42
  go_wp2_with fail
  go_region_law_o (refine step_append_runI rfl (.tmp 22) (.tmp 25) 55 55 rfl _ _ (by simp [Act.eval, Act.put]) (by simp [Act.eval, Act.put]) (hap _) ?_)
  go_wp2
  go_ret
  exact ⟨rfl, E.out.1, E.out.2⟩
end Go.Proofs.YtnpggkpcadefjaaDoor.DelN

/- How the code's joiner lies in memory. -/
set_option linter.unusedVariables false
set_option maxRecDepth 100000
namespace Go.Proofs.YtnpggkpcadefjaaDoor.Cat
open Go.RowKit Go.Proofs.YtnpggkpcadefjaaDoor.Sums Go.Proofs.YtnpggkpcadefjaaDoor.Mem Go.Proofs.YtnpggkpcadefjaaDoor.Blk Go.Proofs.YtnpggkpcadefjaaDoor.Pkt Go.Proofs.YtnpggkpcadefjaaDoor.Check Go.Proofs.YtnpggkpcadefjaaDoor.RowN Go.Proofs.YtnpggkpcadefjaaDoor.RowA Go.Proofs.YtnpggkpcadefjaaDoor.SplP Go.Proofs.YtnpggkpcadefjaaDoor.Spl5 Go.Proofs.YtnpggkpcadefjaaDoor.MapK Go.Proofs.YtnpggkpcadefjaaDoor.MapL Go.Proofs.YtnpggkpcadefjaaDoor.JoiM Go.Proofs.YtnpggkpcadefjaaDoor.JoiC Go.Proofs.YtnpggkpcadefjaaDoor.JoiC2 Go.Proofs.YtnpggkpcadefjaaDoor.Obj

abbrev IT : TypeId := 64
abbrev JT : TypeId := 57
abbrev PT : TypeId := 32
abbrev NT : TypeId := 60
abbrev BT : TypeId := 5
def nmCells (n : Nm) : List Value := [.string n.src, .string n.dst, .int .i64 n.proto, .int .i64 n.id]
def nmFlat (l : List Nm) : List Value := l.flatMap nmCells
theorem nmFlat_len (l : List Nm) : (nmFlat l).length = l.length * 4 := by
  induction l with
  | nil => rfl
  | cons z l ih =>
    unfold nmFlat at ih ⊢
    rw [List.flatMap_cons, List.length_append, ih, List.length_cons, Nat.add_mul]
    simp [nmCells]
    omega
theorem nmFlat_at : ∀ (l : List Nm) (k : Nat) (z : Nm), l[k]? = some z → ∀ j v, (nmCells z)[j]? = some v → (nmFlat l)[k * 4 + j]? = some v := by
  intro l
  induction l with
  | nil => intro k z h; simp at h
  | cons y ys ih =>
    intro k z h j v hv
    have e : nmFlat (y :: ys) = nmCells y ++ nmFlat ys := by simp [nmFlat]
    have l4 : (nmCells y).length = 4 := rfl
    have j4 : j < 4 := (List.getElem?_eq_some_iff.1 hv).1
    rw [e]
    cases k with
    | zero =>
      simp at h
      subst h
      rw [List.getElem?_append_left (by omega)]
      simpa using hv
    | succ k =>
      rw [List.getElem?_cons_succ] at h
      rw [List.getElem?_append_right (by omega), l4, show (k + 1) * 4 + j - 4 = k * 4 + j by omega]
      exact ih k z h j v hv
theorem nmFlat_take (l : List Nm) (i : Nat) : (nmFlat l).take (i * 4) = nmFlat (l.take i) := by
  induction l generalizing i with
  | nil => simp [nmFlat]
  | cons y ys ih =>
    have e : nmFlat (y :: ys) = nmCells y ++ nmFlat ys := by simp [nmFlat]
    cases i with
    | zero => simp [nmFlat]
    | succ i =>
      rw [e, List.take_succ_cons, show nmFlat (y :: ys.take i) = nmCells y ++ nmFlat (ys.take i) by simp [nmFlat], ← ih i, List.take_append]
      have l4 : (nmCells y).length = 4 := rfl
      rw [List.take_of_length_le (by omega), l4, show (i + 1) * 4 - 4 = i * 4 by omega]
theorem nmFlat_drop (l : List Nm) (i : Nat) : (nmFlat l).drop (i * 4) = nmFlat (l.drop i) := by
  induction l generalizing i with
  | nil => simp [nmFlat]
  | cons y ys ih =>
    have e : nmFlat (y :: ys) = nmCells y ++ nmFlat ys := by simp [nmFlat]
    cases i with
    | zero => simp [nmFlat]
    | succ i =>
      rw [e, List.drop_succ_cons, ← ih i, List.drop_append]
      have l4 : (nmCells y).length = 4 := rfl
      rw [List.drop_of_length_le (by omega), l4, show (i + 1) * 4 - 4 = i * 4 by omega, List.nil_append]
theorem nmFlat_erase (l : List Nm) (i : Nat) : (nmFlat l).take (i * 4) ++ (nmFlat l).drop ((i + 1) * 4) = nmFlat (l.eraseIdx i) := by
  rw [nmFlat_take, nmFlat_drop, List.eraseIdx_eq_take_drop_succ]
  simp [nmFlat]
theorem flat_take (l : List Pc) (i : Nat) : (flat l).take (i * 11) = flat (l.take i) := by
  induction l generalizing i with
  | nil => simp [flat]
  | cons y ys ih =>
    have e : flat (y :: ys) = pcCells y.1.1 y.2 ++ flat ys := by simp [flat]
    cases i with
    | zero => simp [flat]
    | succ i =>
      rw [e, List.take_succ_cons, show flat (y :: ys.take i) = pcCells y.1.1 y.2 ++ flat (ys.take i) by simp [flat], ← ih i, List.take_append]
      have l4 : (pcCells y.1.1 y.2).length = 11 := rfl
      rw [List.take_of_length_le (by omega), l4, show (i + 1) * 11 - 11 = i * 11 by omega]
theorem flat_drop (l : List Pc) (i : Nat) : (flat l).drop (i * 11) = flat (l.drop i) := by
  induction l generalizing i with
  | nil => simp [flat]
  | cons y ys ih =>
    have e : flat (y :: ys) = pcCells y.1.1 y.2 ++ flat ys := by simp [flat]
    cases i with
    | zero => simp [flat]
    | succ i =>
      rw [e, List.drop_succ_cons, ← ih i, List.drop_append]
      have l4 : (pcCells y.1.1 y.2).length = 11 := rfl
      rw [List.drop_of_length_le (by omega), l4, show (i + 1) * 11 - 11 = i * 11 by omega, List.nil_append]
theorem cells_ty {w : World} {k : Nat} {X Y : Array Value} {t u : TypeId} {fz fz' : Nat × Nat} (h : w.heap[k]? = some (.cells X t fz)) (h' : w.heap[k]? = some (.cells Y u fz')) : t = u := by
  have := h.symm.trans h'
  simp at this
  exact this.2.1
/-- A row of bytes whose block stays. -/
theorem owns_stay {w w' : World} {base n : Nat} {v : Value} {l : List Int} (h : Owns w base v n l) (hk : ∀ k X fz, v.ownBlock = some k → w.heap[k]? = some (.cells X BT fz) → w'.heap[k]? = w.heap[k]?) : Owns w' base v n l := by
  refine ⟨h.1, h.2.1, h.2.2.imp id ?_⟩
  rintro ⟨g, cap, cur, fz, e, hg, hh, r⟩
  exact ⟨g, cap, cur, fz, e, hg, (hk g cur fz (by rw [e]; rfl) hh).trans hh, r⟩
/-- A piece's bytes: in a block by itself, that is not foreign. -/
def DAt (F : Nat → Prop) (w : World) (z : Pc) : Prop := Owns w 0 z.2 z.1.2.length z.1.2 ∧ ∀ k, z.2.ownBlock = some k → ¬ F k
/-- The pieces of one packet, whose block is e. -/
structure RAt (F : Nat → Prop) (T : Nat → Nat) (w : World) (e : Nat) (A : Option Addr) (c : Nat) (zs : List Pc) : Prop where
  row : RowAt PT 11 w A zs.length c (flat zs)
  own : ∀ k, RowN.own A k → ¬ F k ∧ T k = e
  dat : ∀ z ∈ zs, DAt F w z
structure ME where
  (nm : Nm) (since : Int) (zs : List Pc) (eb : Nat) (PA : Option Addr) (pc : Nat)
def ME.ce (e : ME) : CEnt := (e.nm, e.since, e.zs.map (·.1))
/-- A packet that waits. -/
structure EAt (F : Nat → Prop) (T : Nat → Nat) (w : World) (e : ME) : Prop where
  blk : Blk w e.eb IT #[.int .i64 e.since, .slice e.PA e.zs.length e.pc]
  nf : ¬ F e.eb
  row : RAt F T w e.eb e.PA e.pc e.zs
/-- Its sizes. -/
structure FOk (x : Frag) : Prop where
  o0 : 0 ≤ x.1.off
  o1 : x.1.off ≤ 65535
  len : x.2.length ≤ 65535
  byt : Bytes x.2
  txt : x.1.src.size ≤ 10000 ∧ x.1.dst.size ≤ 10000 ∧ x.1.opt.size ≤ 10000
structure COk (e : CEnt) : Prop where
  some : e.2.2 ≠ []
  few : e.2.2.length ≤ 64
  each : ∀ x ∈ e.2.2, FOk x
  now : -1099511627776 ≤ e.2.1 ∧ e.2.1 ≤ 1099511627776
def ev (b : Nat) : Value := .pointer (some ⟨b, 0, none⟩)
structure CatM (F : Nat → Prop) (w : World) (g m : Nat) (OA : Option Addr) (oc : Nat) (T : Nat → Nat) (ms : List ME) : Prop where
  blk : Blk w g JT #[.map (some m), .slice OA ms.length oc]
  ng : ¬ F g
  map : MapAt nk ev w m (ms.map fun e => (e.nm, e.eb))
  nm : ¬ F m
  ord : RowAt NT 4 w OA ms.length oc (nmFlat (ms.map (·.nm)))
  no : ∀ k, own OA k → ¬ F k
  each : ∀ e ∈ ms, EAt F T w e
  nd : (ms.map (·.eb)).Nodup
  ok : ∀ e ∈ ms, COk e.ce
  few : ms.length ≤ 16
/-- **The code's joiner**, at g, in blocks that are none of F. -/
def CAt (F : Nat → Prop) (w : World) (g : Nat) (cs : List CEnt) : Prop := ∃ m OA oc T ms, CatM F w g m OA oc T ms ∧ ms.map ME.ce = cs
theorem own_lt {w : World} {e : TypeId} {N n c : Nat} {A : Option Addr} {cs : List Value} (h : RowAt e N w A n c cs) {k : Nat} (hk : own A k) : k < w.heap.size := h.lt hk
theorem dat_lt {F : Nat → Prop} {w : World} {z : Pc} (h : DAt F w z) {k : Nat} (hk : z.2.ownBlock = some k) : k < w.heap.size := (h.1.lt k hk).2
section
variable {F G : Nat → Prop} {T : Nat → Nat} {w w' : World} {g m : Nat} {OA : Option Addr} {oc : Nat} {ms : List ME}
theorem EAt.mono {e : ME} (h : EAt F T w e) (hG : ∀ k, k < w.heap.size → G k → F k) : EAt G T w e :=
  ⟨h.blk, fun z => h.nf (hG _ h.blk.lt z), ⟨h.row.row, fun k hk => ⟨fun z => (h.row.own k hk).1 (hG k (h.row.row.lt hk) z), (h.row.own k hk).2⟩, fun z hz => ⟨(h.row.dat z hz).1, fun k hk y => (h.row.dat z hz).2 k hk (hG k (dat_lt (h.row.dat z hz) hk) y)⟩⟩⟩
/-- What a packet that waits hangs on: blocks of three kinds. -/
def Kin (w : World) (k : Nat) : Prop := ∃ X t fz, w.heap[k]? = some (.cells X t fz) ∧ (t = IT ∨ t = PT ∨ t = BT)
theorem EAt.stay {e : ME} (h : EAt F T w e) (hk : ∀ k, ¬ F k → Kin w k → w'.heap[k]? = w.heap[k]?) : EAt F T w' e := by
  refine ⟨(hk _ h.nf ⟨_, _, _, h.blk, .inl rfl⟩).trans h.blk, h.nf, ⟨h.row.row.keep fun k o _ => hk k (h.row.own k o).1 ?_, h.row.own, fun z hz => ⟨owns_stay (h.row.dat z hz).1 fun k X fz o hX => hk k ((h.row.dat z hz).2 k o) ⟨X, BT, fz, hX, .inr (.inr rfl)⟩, (h.row.dat z hz).2⟩⟩⟩
  obtain ⟨X, hX⟩ := h.row.row.type o
  exact ⟨X, PT, _, hX, .inr (.inl rfl)⟩
theorem CatM.mono (h : CatM F w g m OA oc T ms) (hG : ∀ k, k < w.heap.size → G k → F k) : CatM G w g m OA oc T ms :=
  ⟨h.blk, fun z => h.ng (hG _ h.blk.lt z), h.map, fun z => h.nm (hG _ h.map.lt z), h.ord, fun k hk z => h.no k hk (hG k (h.ord.lt hk) z), fun e he => (h.each e he).mono hG, h.nd, h.ok, h.few⟩
theorem CatM.keep (h : CatM F w g m OA oc T ms) (hk : ∀ k, k < w.heap.size → ¬ F k → w'.heap[k]? = w.heap[k]?) : CatM F w' g m OA oc T ms :=
  ⟨(hk _ h.blk.lt h.ng).trans h.blk, h.ng, h.map.same (hk _ h.map.lt h.nm), h.nm, h.ord.keep fun k o l => hk k l (h.no k o), h.no, fun e he => (h.each e he).stay fun k hf ⟨X, t, fz, hX, _⟩ => hk k (Array.getElem?_eq_some_iff.1 hX).1 hf, h.nd, h.ok, h.few⟩
theorem CatM.below (h : CatM F w g m OA oc T ms) (hb : Below w.heap.size w w') : CatM F w' g m OA oc T ms := h.keep fun k hk _ => hb.block k hk
theorem cat_obj (g : Nat) (cs : List CEnt) : IsObj fun F w => CAt F w g cs where
  mono := fun ⟨m, OA, oc, T, ms, h, e⟩ hG => ⟨m, OA, oc, T, ms, h.mono hG, e⟩
  keep := fun ⟨m, OA, oc, T, ms, h, e⟩ hk => ⟨m, OA, oc, T, ms, h.keep hk, e⟩
theorem CatM.at_ (h : CatM F w g m OA oc T ms) {i : Nat} {e : ME} (hi : ms[i]? = some e) : EAt F T w e := h.each e (List.mem_of_getElem? hi)
/-- The three kinds are none of the joiner's own blocks. -/
theorem CatM.kin (h : CatM F w g m OA oc T ms) {k : Nat} (hk : Kin w k) : k ≠ g ∧ k ≠ m ∧ ¬ own OA k := by
  obtain ⟨X, t, fz, hX, ht⟩ := hk
  refine ⟨fun z => ?_, fun z => ?_, fun z => ?_⟩
  · subst z
    have := cells_ty hX h.blk
    subst this
    rcases ht with z | z | z <;> exact absurd z (by decide)
  · subst z
    obtain ⟨a, c, h1, _⟩ := h.map
    have := hX.symm.trans h1
    simp at this
  · obtain ⟨Y, hY⟩ := h.ord.type z
    have := cells_ty hX hY
    subst this
    rcases ht with z | z | z <;> exact absurd z (by decide)
theorem CatM.apart (h : CatM F w g m OA oc T ms) : g ≠ m ∧ ¬ own OA g ∧ ¬ own OA m := by
  obtain ⟨a, c, h1, _⟩ := h.map
  refine ⟨fun z => ?_, fun z => ?_, fun z => ?_⟩
  · subst z
    have := h1.symm.trans h.blk
    simp at this
  · obtain ⟨Y, hY⟩ := h.ord.type z
    exact absurd (cells_ty hY h.blk) (by decide)
  · obtain ⟨Y, hY⟩ := h.ord.type z
    have := hY.symm.trans h1
    simp at this
/-- One packet less. -/
theorem CatM.drop (h : CatM F w g m OA oc T ms) {i : Nat} {OA' : Option Addr} {oc' : Nat} (hk : Keep (fun k => k ≠ g ∧ k ≠ m ∧ ¬ own OA k) w w') (hi : i < ms.length)
    (h1 : Blk w' g JT #[.map (some m), .slice OA' (ms.length - 1) oc']) (h2 : MapAt nk ev w' m ((ms.eraseIdx i).map fun e => (e.nm, e.eb))) (h3 : RowAt NT 4 w' OA' (ms.length - 1) oc' (nmFlat ((ms.eraseIdx i).map (·.nm)))) (h4 : ∀ k, own OA' k → ¬ F k) : CatM F w' g m OA' oc' T (ms.eraseIdx i) := by
  have l : (ms.eraseIdx i).length = ms.length - 1 := by rw [List.length_eraseIdx, if_pos hi]
  refine ⟨by rw [l]; exact h1, h.ng, h2, h.nm, by rw [l]; exact h3, h4, fun e he => (h.each e (List.mem_of_mem_eraseIdx he)).stay fun k hf hK => hk.block k (h.kin hK) ?_, List.Nodup.sublist ((List.eraseIdx_sublist ms i).map _) h.nd, fun e he => h.ok e (List.mem_of_mem_eraseIdx he), by rw [l]; have := h.few; omega⟩
  obtain ⟨X, t, fz, hX, _⟩ := hK
  exact (Array.getElem?_eq_some_iff.1 hX).1
/-- One packet more. -/
theorem CatM.push (h : CatM F w g m OA oc T ms) {e : ME} {OA' : Option Addr} {oc' : Nat} (hF : ∀ k, F k → k < w.heap.size) (hk : Keep (fun k => k ≠ g ∧ k ≠ m ∧ ¬ own OA k) w w') (T' : Nat → Nat) (hT : ∀ k, k < w.heap.size → T' k = T k)
    (h1 : Blk w' g JT #[.map (some m), .slice OA' (ms.length + 1) oc']) (h2 : MapAt nk ev w' m ((ms ++ [e]).map fun e => (e.nm, e.eb))) (h3 : RowAt NT 4 w' OA' (ms.length + 1) oc' (nmFlat ((ms ++ [e]).map (·.nm)))) (h4 : ∀ k, own OA' k → ¬ F k)
    (h5 : EAt F T' w' e) (h6 : w.heap.size ≤ e.eb) (h7 : COk e.ce) (h8 : ms.length < 16) : CatM F w' g m OA' oc' T' (ms ++ [e]) := by
  have l : (ms ++ [e]).length = ms.length + 1 := by simp
  refine ⟨by rw [l]; exact h1, h.ng, h2, h.nm, by rw [l]; exact h3, h4, fun x hx => ?_, ?_, fun x hx => ?_, by rw [l]; omega⟩
  · rcases List.mem_append.1 hx with hx | hx
    · have E := (h.each x hx).stay (w' := w') fun k hf hK => hk.block k (h.kin hK) (by
        obtain ⟨X, t, fz, hX, _⟩ := hK
        exact (Array.getElem?_eq_some_iff.1 hX).1)
      exact ⟨E.blk, E.nf, ⟨E.row.row, fun k o => ⟨(E.row.own k o).1, (hT k ((h.each x hx).row.row.lt o)).trans (E.row.own k o).2⟩, E.row.dat⟩⟩
    · obtain rfl := List.mem_singleton.1 hx
      exact h5
  · rw [List.map_append, List.nodup_append]
    refine ⟨h.nd, by simp, fun a ha b hb z => ?_⟩
    obtain ⟨x, hx, rfl⟩ := List.mem_map.1 ha
    obtain rfl : b = e.eb := by simpa using hb
    have := (h.each x hx).blk.lt
    omega
  · rcases List.mem_append.1 hx with hx | hx
    · exact h.ok x hx
    · obtain rfl := List.mem_singleton.1 hx
      exact h7
/-- One packet with other pieces. -/
theorem CatM.edit (h : CatM F w g m OA oc T ms) {i : Nat} {e e' : ME} (hi : ms[i]? = some e) (hn : e'.nm = e.nm) (hb : e'.eb = e.eb) (hk : Keep (fun k => k ≠ e.eb ∧ ¬ own e.PA k) w w') (T' : Nat → Nat) (hT : ∀ k, k < w.heap.size → T' k = T k)
    (h5 : EAt F T' w' e') (h7 : COk e'.ce) : CatM F w' g m OA oc T' (ms.set i e') := by
  have l : (ms.set i e').length = ms.length := List.length_set
  have E := h.at_ hi
  have lt : i < ms.length := (List.getElem?_eq_some_iff.1 hi).1
  have ke : Kin w e.eb := ⟨_, _, _, E.blk, .inl rfl⟩
  have ko : ∀ k, own e.PA k → Kin w k := fun k o => by
    obtain ⟨X, hX⟩ := E.row.row.type o
    exact ⟨X, PT, _, hX, .inr (.inl rfl)⟩
  have mp : ∀ {β : Type} (f : ME → β), f e' = f e → (ms.set i e').map f = ms.map f := fun f hf => by
    rw [List.map_set]
    apply List.ext_getElem?
    intro j
    rw [List.getElem?_set]
    split
    · rename_i z
      subst z
      rw [if_pos (by simpa using lt), List.getElem?_map, hi, hf]
      rfl
    · rfl
  have ng : g ≠ e.eb ∧ ¬ own e.PA g := ⟨fun z => (h.kin ke).1 z.symm, fun z => (h.kin (ko g z)).1 rfl⟩
  have nm : m ≠ e.eb ∧ ¬ own e.PA m := ⟨fun z => (h.kin ke).2.1 z.symm, fun z => (h.kin (ko m z)).2.1 rfl⟩
  refine ⟨by rw [l]; exact (hk.block g ng h.blk.lt).trans h.blk, h.ng, by rw [mp (fun e => (e.nm, e.eb)) (by rw [hn, hb])]; exact h.map.same (hk.block m nm h.map.lt), h.nm, by
      rw [l, mp (·.nm) hn]
      exact h.ord.keep fun k o lk => hk.block k ⟨fun z => (h.kin ke).2.2 (z ▸ o), fun z => (h.kin (ko k z)).2.2 o⟩ lk, h.no, fun x hx => ?_, by rw [mp (·.eb) hb]; exact h.nd, fun x hx => ?_, by rw [l]; exact h.few⟩
  · obtain ⟨j, hj⟩ := List.mem_iff_getElem?.1 hx
    rw [List.getElem?_set] at hj
    split at hj
    · rename_i z
      cases hj
      exact h5
    · rename_i ne
      have X := h.at_ hj
      have neb : x.eb ≠ e.eb := fun z => by
        have P := List.pairwise_iff_getElem.1 h.nd
        obtain ⟨lj, ej⟩ := List.getElem?_eq_some_iff.1 hj
        obtain ⟨li, ei⟩ := List.getElem?_eq_some_iff.1 hi
        rcases Nat.lt_or_gt_of_ne ne with q | q
        · have := P i j (by simpa using li) (by simpa using lj) q
          rw [List.getElem_map, List.getElem_map, ei, ej] at this
          exact this z.symm
        · have := P j i (by simpa using lj) (by simpa using li) q
          rw [List.getElem_map, List.getElem_map, ei, ej] at this
          exact this z
      have Y : EAt F T w' x := by
        refine ⟨(hk.block x.eb ⟨neb, fun o => ?_⟩ X.blk.lt).trans X.blk, X.nf, ⟨X.row.row.keep fun k o lk => hk.block k ⟨fun z => ?_, fun o' => ?_⟩ lk, X.row.own, fun z hz => ⟨owns_stay (X.row.dat z hz).1 fun k B fz ob hB => hk.block k ⟨fun y => ?_, fun o' => ?_⟩ (Array.getElem?_eq_some_iff.1 hB).1, (X.row.dat z hz).2⟩⟩⟩
        · obtain ⟨Z, hZ⟩ := E.row.row.type o
          exact absurd (cells_ty hZ X.blk) (by decide)
        · subst z
          obtain ⟨Z, hZ⟩ := X.row.row.type o
          exact absurd (cells_ty hZ E.blk) (by decide)
        · have a := (X.row.own k o).2
          have b := (E.row.own k o').2
          exact neb (a.symm.trans b)
        · subst y
          exact absurd (cells_ty hB E.blk) (by decide)
        · obtain ⟨Z, hZ⟩ := E.row.row.type o'
          exact absurd (cells_ty hB hZ) (by decide)
      exact ⟨Y.blk, Y.nf, ⟨Y.row.row, fun k o => ⟨(Y.row.own k o).1, (hT k (X.row.row.lt o)).trans (Y.row.own k o).2⟩, Y.row.dat⟩⟩
  · rcases List.mem_or_eq_of_mem_set hx with hx | rfl
    · exact h.ok x hx
    · exact h7
end
end Go.Proofs.YtnpggkpcadefjaaDoor.Cat

