/- slices.Insert of one element, at routes. -/
import Derived.Test.YtnabjhdamofpgaaM02
import Derived.Test.YtnabjhdamofpgaaArgT
import Derived.Test.YtnabjhdamofpgaaPart
import Derived.Shelf.Spec.SlicesInsert
import Derived.Lib.Overlaps
import Derived.Laws.Externs
set_option linter.unusedVariables false
namespace Go.Proofs.Ytnabjhdamofpgaa.InsT
open Go.RowKit Go.Proofs.Ytnabjhdamofpgaa.Mem Go.Proofs.Ytnabjhdamofpgaa.Blk Go.Proofs.Ytnabjhdamofpgaa.RowN Go.Proofs.Ytnabjhdamofpgaa.Part

theorem spl_list {X : Array Value} {a b c vs : List Value} {o : Nat} (hX : X.toList = a ++ (b ++ c)) (ho : a.length = o) (hb : b.length = vs.length) : (spl X o vs).toList = a ++ (vs ++ c) := by
  unfold spl
  have h1 : X.toList.take o = a := by rw [hX]; exact List.take_left' ho
  have h2 : X.toList.drop (o + vs.length) = c := by
    rw [hX, ← List.append_assoc]
    exact List.drop_left' (by simp [ho, hb])
  rw [h1, h2]
  simp
/-- What stands behind the two copies. -/
theorem shift_list (a d R V : List Value) (hd : 4 ≤ d.length) (hV : V.length = 4) (hR : 4 ≤ R.length) (X : Array Value) (hX : X.toList = a ++ (d ++ R)) : (spl (spl X (a.length + 4) d) a.length V).toList = a ++ (V ++ (d ++ R.drop 4)) := by
  have e1 : (spl X (a.length + 4) d).toList = (a ++ d.take 4) ++ (d ++ R.drop 4) := by
    refine spl_list (b := d.drop 4 ++ R.take 4) ?_ (by simp; omega) (by simp; omega)
    rw [hX]
    simp only [List.append_assoc]
    rw [← List.append_assoc (d.take 4), List.take_append_drop, List.take_append_drop]
  refine spl_list (b := d.take 4) ?_ rfl (by simp; omega)
  rw [e1, List.append_assoc]

abbrev RT : TypeId := 33
def zr : Value := .agg #[.string ⟨#[]⟩, .int .i64 0, .string ⟨#[]⟩, .int .i64 0]
theorem info_route : ∃ i, Try.prog.info? 33 = some i ∧ i.zero = some zr ∧ i.size = 4 ∧ i.bytes = 48 := by
  have h : (Try.prog.info? 33).map (fun i => (i.zero, i.size, i.bytes)) = some (some zr, 4, 48) := by kernel_rfl
  obtain ⟨i, hi, hz⟩ := Option.map_eq_some_iff.1 h
  simp only [Prod.mk.injEq] at hz
  exact ⟨i, hi, hz.1, hz.2.1, hz.2.2⟩
theorem zr_cells : zr.cells.size = 4 := by kernel_rfl
/-- What an insertion hands back, and what it leaves. -/
def Ins (A : Option Addr) (n c : Nat) (fin : List Value) (w : World) (e : Ending) (w' : World) : Prop :=
  (∃ A' c', e = .returned (.slice A' (n + 1) c') ∧ RowAt RT 4 w' A' (n + 1) c' fin ∧ (A' = A ∨ ∃ k, A' = some ⟨k, 0, none⟩ ∧ w.heap.size ≤ k)) ∧ Keep (fun k => ¬ own A k) w w' ∧ ∀ A2 c2, RowAt RT 4 w A2 (n + 1) c2 fin → RowAt RT 4 w' A2 (n + 1) c2 fin
/-- In place: the row's block holds other cells. -/
theorem ins_in {A : Option Addr} {n c : Nat} {fin : List Value} {w w' : World} {b : Nat} {X X2 : Array Value} (hA : A = some ⟨b, 0, none⟩) (hX : Blk w b RT X) (hX2 : Blk w' b RT X2) (hs : X2.size = X.size) (hc : c * 4 ≤ X.size) (hk : Keep (fun k => ¬ own A k) w w')
    (hl : fin.length = (n + 1) * 4) (hn : n + 1 ≤ c) (hb : c ≤ 9223372036854775807) (h1 : ∀ v ∈ fin, v.oneCell' = true) (ht : X2.toList.take ((n + 1) * 4) = fin) : Ins A n c fin w (.returned (.slice A (n + 1) c)) w' := by
  refine ⟨⟨A, c, rfl, ⟨hl, hn, hb, h1, .inr ⟨b, X2, hA, hX2, by omega, ht⟩⟩, .inl rfl⟩, hk, fun A2 c2 h => ?_⟩
  by_cases e : own A2 b
  · obtain ⟨b2, Y, rfl, hY, hc2, _⟩ := h.some (by omega)
    obtain ⟨a, ha, hab⟩ := e
    cases ha
    obtain rfl : b2 = b := hab
    have : Y = X := by
      have := hY.symm.trans hX
      simp at this
      exact this
    subst this
    exact ⟨hl, h.le, h.big, h1, .inr ⟨b2, X2, rfl, hX2, by omega, ht⟩⟩
  · refine h.keep fun k hk' hlt => hk.block k (fun o => e ?_) hlt
    subst hA
    obtain ⟨a, ha, hab⟩ := o
    cases ha
    have hab : b = k := hab
    rw [hab]
    exact hk'
/-- A new row: what was is as it was. -/
theorem ins_new {A : Option Addr} {n c c' : Nat} {fin : List Value} {w w' : World} {X : Array Value} (hX : Blk w' w.heap.size RT X) (hc : c' * 4 ≤ X.size) (hk : Below w.heap.size w w')
    (hl : fin.length = (n + 1) * 4) (hn : n + 1 ≤ c') (hb : c' ≤ 9223372036854775807) (h1 : ∀ v ∈ fin, v.oneCell' = true) (ht : X.toList.take ((n + 1) * 4) = fin) : Ins A n c fin w (.returned (.slice (some ⟨w.heap.size, 0, none⟩) (n + 1) c')) w' :=
  ⟨⟨_, c', rfl, ⟨hl, hn, hb, h1, .inr ⟨_, X, rfl, hX, hc, ht⟩⟩, .inr ⟨_, rfl, Nat.le_refl _⟩⟩, Keep.of hk, fun A2 c2 h => h.below hk⟩

set_option maxHeartbeats 4000000 in
set_option maxRecDepth 100000 in
theorem insert_end (A : Option Addr) (n c : Nat) (cs : List Value) (vb : Nat) (V : Array Value) (w : World) (h : RowAt RT 4 w A n c cs) (hV : Blk w vb RT V) (hs : V.size = 4) (h1 : ∀ v ∈ V.toList, v.oneCell' = true) (hn : n ≤ 1000) :
    Calls Try.prog 27 #[.slice A n c, .int .i64 (n : Int), .slice (some ⟨vb, 0, none⟩) 1 1] w (Ins A n c (cs ++ V.toList) w) := by
  obtain ⟨i, hi, hz, hsz, hby⟩ := info_route
  have hsrc : Src Try.prog i.size 27 (.slice (some ⟨vb, 0, none⟩) 1 1) 1 V.toList w := Src.ofSlice w Try.underlying27 ⟨vb, 0, none⟩ 1 1 V.toList (by simp [hs, hsz]) (fun j u hj => by
    rw [Addr.add_lit, Nat.zero_add, hV.cell]
    simpa using hj) h1
  have fl : (cs ++ V.toList).length = (n + 1) * 4 := by simp [h.len, hs]; omega
  have f1 : ∀ v ∈ cs ++ V.toList, v.oneCell' = true := fun v hv => (List.mem_append.1 hv).elim (h.one v) (h1 v)
  by_cases room : n + 1 ≤ c
  · obtain ⟨b, X, rfl, hX, hXc, hXt⟩ : ∃ b X, A = some ⟨b, 0, none⟩ ∧ Blk w b RT X ∧ c * 4 ≤ X.size ∧ X.toList.take (n * 4) = cs := by
      rcases h.lies with ⟨_, h2⟩ | h'
      · omega
      · exact h'
    have fit : n * i.size + V.toList.length ≤ X.size := by simp [hs, hsz]; omega
    have hrun : ∀ ty, (Builtin.append_ #[27, 27] ty #[.slice (some ⟨b, 0, none⟩) n c, .slice (some ⟨vb, 0, none⟩) 1 1]).run Try.prog w = .ok (.slice (some ⟨b, 0, none⟩) (n + 1) c) (w.setRow b (spl X (n * i.size) V.toList)) := fun ty =>
      run_append_spl Try.underlying27 hi hX n c ⟨vb, 0, none⟩ 1 1 V.toList (by simp [hs, hsz]) (fun j u hj => by
        rw [Addr.add_lit, Nat.zero_add, hV.cell]
        simpa using hj) h1 room fit ty
    have E := Lib.hid (ins_in (w := w) (n := n) rfl hX (setRow_heap _ _ _ (spl X (n * i.size) V.toList) _ _ hX) (spl_size fit) hXc (Keep.row (F := fun k => ¬ own (some ⟨b, 0, none⟩) k) w b _ (fun z => z ⟨_, rfl, rfl⟩)) fl room h.big f1 (by
      unfold spl
      rw [hsz, hXt]
      show List.take _ (cs ++ V.toList ++ _) = _
      rw [List.take_append, List.take_of_length_le (by rw [fl]; exact Nat.le_refl _)]
      simp [fl]))
    clear h hsrc hX hXc hXt fl f1
    generalize w.setRow b (spl X (n * i.size) V.toList) = w1 at *
    go_enter Try.func27, Try.ntmps27
    go_wp2_with (at_builtin; refine Lib.wpList_append_run _ rfl _ _ _ _ rfl _ _ rfl rfl _ _ (hrun _) ?_)
    go_ret
    exact E.out
  · have hold : (Builtin.firstCells i.size n (.slice A n c)).run Try.prog w.drew = .ok cs.toArray w.drew := by
      rw [hsz]
      rcases h.lies with ⟨rfl, h2⟩ | ⟨b, X, rfl, hX, hXc, hXt⟩
      · have : n = 0 := by have := h.le; omega
        subst this
        have hc : cs = [] := List.length_eq_zero_iff.1 (by simpa using h.len)
        rw [hc]
        exact run_firstCells_none w.drew 4 0 0 c
      · exact run_firstCells_some w.drew 4 n ⟨b, 0, none⟩ n c cs h.len (fun j v hj => by
          rw [Addr.add_lit, Nat.zero_add]
          exact h.cell rfl hj)
    have hrun : ∀ ty, (Builtin.append_ #[27, 27] ty #[.slice A n c, .slice (some ⟨vb, 0, none⟩) 1 1]).run Try.prog w = _ := fun ty =>
      run_append_grow_src w 27 27 ty RT i zr Try.underlying27 hi hz A n c cs hold _ 1 V.toList hsrc (by omega) (by omega) (by rw [hby]; exact growslice_fits (by omega) (by omega))
    obtain ⟨G, hG⟩ : ∃ G, G = grownCap w (n + 1) c RT := ⟨_, rfl⟩
    have g1 : n + 1 ≤ G := by rw [hG]; exact grownCap_ge w _ _ _
    have g2 : G ≤ 9223372036854775807 := by
      have := grownCap_le_maxLen w (n + 1) c RT (by unfold maxLen; omega)
      rw [← hG] at this
      unfold maxLen at this
      omega
    rw [← hG] at hrun
    have E := Lib.hid (ins_new (A := A) (c := c) (w := w) (n := n) (c' := G) (Blk.new w.drew RT ((cs ++ V.toList).toArray ++ Builtin.zeroCells zr.cells (G - (n + 1)))) (by
      rw [Array.size_append, List.size_toArray, fl, size_zeroCells, zr_cells]
      omega) ((below_drewN (Below.refl w.heap.size w) 1).alloc (Nat.le_refl _) _) fl g1 g2 f1 (by
      rw [Array.toList_append, List.toList_toArray, List.take_append, List.take_of_length_le (by rw [fl]; exact Nat.le_refl _)]
      simp [fl]))
    have hA : A = none ∨ ∃ b, A = some ⟨b, 0, none⟩ := h.lies.imp And.left fun ⟨b, _, h1, _⟩ => ⟨b, h1⟩
    clear h hsrc hold fl f1 hG
    generalize w.drew.alloc (.cells ((cs ++ V.toList).toArray ++ Builtin.zeroCells zr.cells (G - (n + 1))) RT) = w1 at *
    rcases hA with rfl | ⟨b, rfl⟩
    · go_enter Try.func27, Try.ntmps27
      go_wp2_with (at_builtin; refine Lib.wpList_append_run _ rfl _ _ _ _ rfl _ _ rfl rfl _ _ (hrun _) ?_)
      all_goals (go_ret; exact E.out)
    · go_enter Try.func27, Try.ntmps27
      go_wp2_with (at_builtin; refine Lib.wpList_append_run _ rfl _ _ _ _ rfl _ _ rfl rfl _ _ (hrun _) ?_)
      all_goals (go_ret; exact E.out)

theorem wf_room {A : Option Addr} {n c i : Nat} {cs : List Value} {V : Array Value} {w : World} (h : RowAt RT 4 w A n c cs) (hs : V.size = 4) (h1 : ∀ v ∈ V.toList, v.oneCell' = true) (hi : i ≤ n) :
    (cs.take (i * 4) ++ (V.toList ++ cs.drop (i * 4))).length = (n + 1) * 4 ∧ ∀ v ∈ cs.take (i * 4) ++ (V.toList ++ cs.drop (i * 4)), v.oneCell' = true := by
  refine ⟨?_, fun v hv => ?_⟩
  · have := h.len
    simp [hs, this]
    omega
  · rcases List.mem_append.1 hv with q | q
    · exact h.one v (List.mem_of_mem_take q)
    · rcases List.mem_append.1 q with q | q
      · exact h1 v q
      · exact h.one v (List.mem_of_mem_drop q)
set_option maxHeartbeats 4000000 in
set_option maxRecDepth 100000 in
theorem insert_shift (A : Option Addr) (n c i : Nat) (cs : List Value) (vb : Nat) (V : Array Value) (w : World) (h : RowAt RT 4 w A n c cs) (hV : Blk w vb RT V) (hs : V.size = 4) (h1 : ∀ v ∈ V.toList, v.oneCell' = true) (hn : n ≤ 1000) (hi : i < n) (room : n + 1 ≤ c) (hne : ¬ own A vb) :
    Calls Try.prog 27 #[.slice A n c, .int .i64 (i : Int), .slice (some ⟨vb, 0, none⟩) 1 1] w (Ins A n c (cs.take (i * 4) ++ (V.toList ++ cs.drop (i * 4))) w) := by
  obtain ⟨inf, hinf, hz, hsz, hby⟩ := info_route
  obtain ⟨fl, f1⟩ := wf_room h hs h1 (Nat.le_of_lt hi)
  obtain ⟨b, X, rfl, hX, hXc, hXt⟩ := h.some (by omega)
  have hvb : vb ≠ b := fun e => hne ⟨_, rfl, e.symm⟩
  have hcl := h.len
  have hbig := h.big
  obtain ⟨al, dl⟩ : (cs.take (i * 4)).length = i * 4 ∧ (cs.drop (i * 4)).length = (n - i) * 4 := by
    constructor
    · simp [hcl]; omega
    · simp [hcl]; omega
  have vl : V.toList.length = 4 := by simpa using hs
  have hXl : X.toList = cs.take (i * 4) ++ (cs.drop (i * 4) ++ X.toList.drop (n * 4)) := by
    rw [← List.append_assoc, List.take_append_drop, ← hXt, List.take_append_drop]
  obtain ⟨X1, hX1⟩ : ∃ X1, X1 = spl X ((i + 1) * 4) (cs.drop (i * 4)) := ⟨_, rfl⟩
  obtain ⟨X2, hX2⟩ : ∃ X2, X2 = spl X1 (i * 4) V.toList := ⟨_, rfl⟩
  have s1 : X1.size = X.size := by rw [hX1]; exact spl_size (by rw [dl]; omega)
  have s2 : X2.size = X.size := by rw [hX2]; exact (spl_size (by rw [vl]; omega)).trans s1
  have ht : X2.toList.take ((n + 1) * 4) = cs.take (i * 4) ++ (V.toList ++ cs.drop (i * 4)) := by
    have hh := shift_list (cs.take (i * 4)) (cs.drop (i * 4)) (X.toList.drop (n * 4)) V.toList (by rw [dl]; omega) vl (by simp; omega) X hXl
    rw [al, show i * 4 + 4 = (i + 1) * 4 by omega, ← hX1, ← hX2] at hh
    rw [hh, show cs.take (i * 4) ++ (V.toList ++ (cs.drop (i * 4) ++ (X.toList.drop (n * 4)).drop 4)) = (cs.take (i * 4) ++ (V.toList ++ cs.drop (i * 4))) ++ (X.toList.drop (n * 4)).drop 4 by simp only [List.append_assoc]]
    exact List.take_left' fl
  have B1 : ∀ u, Blk (w.drew.setRow b u) b RT u := fun u => setRow_heap _ _ _ u _ _ hX
  have hcp1 : ∀ ty dc sc, (Builtin.copy_ #[27, 27] ty #[.slice (some ⟨b, (i + 1) * 4, none⟩) (n - i) dc, .slice (some ⟨b, i * 4, none⟩) (n + 1 - i) sc]).run Try.prog w.drew = .ok (goInt ((n - i : Nat) : Int)) (w.drew.setRow b X1) := fun ty dc sc => by
    rw [hX1]
    exact run_copy_spl Try.underlying27 hinf (show Blk w.drew b RT X from hX) _ _ dc ⟨b, i * 4, none⟩ _ sc (n - i) _ (by simp only [Nat.min_def]; split <;> omega) (by rw [dl, hsz]) (fun j v hj => by
      rw [Addr.add_lit]
      rw [List.getElem?_drop] at hj
      exact h.cell rfl hj) (by rw [dl]; omega) (fun v hv => h.one v (List.mem_of_mem_drop hv)) ty
  have hcp2 : ∀ ty dc, (Builtin.copy_ #[27, 27] ty #[.slice (some ⟨b, i * 4, none⟩) (n + 1 - i) dc, .slice (some ⟨vb, 0, none⟩) 1 1]).run Try.prog (w.drew.setRow b X1) = .ok (goInt ((1 : Nat) : Int)) ((w.drew.setRow b X1).setRow b X2) := fun ty dc => by
    rw [hX2]
    exact run_copy_spl Try.underlying27 hinf (B1 X1) _ _ dc ⟨vb, 0, none⟩ _ 1 1 _ (by simp only [Nat.min_def]; split <;> omega) (by rw [vl, hsz]) (fun j v hj => by
      rw [Addr.add_lit, Nat.zero_add, Blk.cell (show Blk (w.drew.setRow b X1) vb RT V from (setRow_other _ _ _ _ hvb).trans hV)]
      simpa using hj) (by rw [vl]; omega) h1 ty
  have E := Lib.hid (ins_in (w := w) (n := n) rfl hX (w' := (w.drew.setRow b X1).setRow b X2) (X2 := X2) (by
    unfold Blk
    exact setRow_heap _ _ _ _ _ _ (B1 X1)) s2 hXc (((Keep.refl _ w).drewN 1).trans ((Keep.row (F := fun k => ¬ own (some ⟨b, 0, none⟩) k) w.drew b X1 (fun z => z ⟨_, rfl, rfl⟩)).trans (Keep.row _ b _ (fun z => z ⟨_, rfl, rfl⟩)))) fl room h.big f1 ht)
  have hov : ∀ lb cb, (callFunc 43 #[.slice (some ⟨vb, 0, none⟩) 1 1, .slice (some ⟨b, (i + 1) * 4, none⟩) lb cb]).run Try.prog w = .ok (.value (.bool false)) w := fun lb cb => by
    rw [run_callFunc_extern Try.func43 (by kernel_rfl) (by kernel_rfl) (by kernel_rfl) (e := Extern.SlicesOverlaps.overlaps #[27, 27] #[4]) (by kernel_rfl),
      Lib.run_overlaps_apart w 27 4 RT Try.underlying27 4 (fun w => by kernel_rfl) ⟨vb, 0, none⟩ ⟨b, (i + 1) * 4, none⟩ 1 1 lb cb hvb RT RT 4 X.size (by
        unfold Blk at hV
        simp [World.shape?, hV, hs]) (by
        unfold Blk at hX
        simp [World.shape?, hX]) (by omega) (hV.frozen 0) (hV.frozen 4)]
    rfl
  have mixed : Try.prog.follows .mixedOrders = true := by kernel_rfl
  have hz2 : ¬ ((i : Int) = (n : Int)) := by omega
  have hw0 : IntKind.i64.wrap ((n : Int) + 1) = (n : Int) + 1 := IntWalk.i64_in _ (by omega)
  have hw1 : IntKind.i64.wrap ((i : Int) + 1) = (i : Int) + 1 := IntWalk.i64_in _ (by omega)
  have hb1 : (0 : Int) ≤ (i : Int) + 1 := by omega
  have hin : i ≤ n := by omega
  have htn : ((i : Int) + 1).toNat = i + 1 := by omega
  have htm : ((n : Int) + 1).toNat = n + 1 := by omega
  have hb2 : ¬ (c = i + 1) := by omega
  have hb3 : (i : Int) ≤ (n : Int) + 1 := by omega
  have hb4 : ¬ (c = i) := by omega
  clear h hV hX hXc hXt hXl hX1 hX2 s1 s2 ht fl f1 al dl vl hcl B1 hne
  go_enter Try.func27, Try.ntmps27
  go_wp2_with (simp only [hov])
  go_region_law_o (refine step_copy_runI rfl _ _ 27 27 rfl _ _ (by simp [Act.eval, Act.put]) (by simp [Act.eval, Act.put]) (hcp1 _ _ _) ?_)
  go_wp2_with (at_builtin; refine wpList_copy_runI _ rfl _ _ 27 27 rfl _ _ rfl rfl (hcp2 _ _) ?_)
  go_ret
  exact E.out

/-- The same in a new row. -/
theorem grow_list (a d V Z Y : List Value) (hV : V.length = 4) (hZ : Z.length = 4 + d.length) (X : Array Value) (hX : X.toList = a ++ (Z ++ Y)) : (spl (spl X a.length V) (a.length + 4) d).toList = a ++ (V ++ d) ++ Y := by
  have e1 : (spl X a.length V).toList = a ++ (V ++ (Z.drop 4 ++ Y)) := by
    refine spl_list (b := Z.take 4) ?_ rfl (by simp; omega)
    rw [hX, ← List.append_assoc (Z.take 4), List.take_append_drop]
  have e2 : (spl (spl X a.length V) (a.length + 4) d).toList = (a ++ V) ++ (d ++ Y) := by
    refine spl_list (b := Z.drop 4) ?_ (by simp [hV]) (by simp; omega)
    rw [e1, List.append_assoc]
  rw [e2]
  simp only [List.append_assoc]
set_option maxHeartbeats 4000000 in
set_option maxRecDepth 100000 in
theorem insert_grow (A : Option Addr) (n c i : Nat) (cs : List Value) (vb : Nat) (V : Array Value) (w : World) (h : RowAt RT 4 w A n c cs) (hV : Blk w vb RT V) (hs : V.size = 4) (h1 : ∀ v ∈ V.toList, v.oneCell' = true) (hn : n ≤ 1000) (hi : i < n) (room : c < n + 1) :
    Calls Try.prog 27 #[.slice A n c, .int .i64 (i : Int), .slice (some ⟨vb, 0, none⟩) 1 1] w (Ins A n c (cs.take (i * 4) ++ (V.toList ++ cs.drop (i * 4))) w) := by
  obtain ⟨inf, hinf, hz, hsz, hby⟩ := info_route
  obtain ⟨fl, f1⟩ := wf_room h hs h1 (Nat.le_of_lt hi)
  obtain ⟨b, X, rfl, hX, hXc, hXt⟩ := h.some (by omega)
  have hcl := h.len
  have hbl := hX.lt
  have hvl := hV.lt
  have hle := h.le
  obtain ⟨al, dl⟩ : (cs.take (i * 4)).length = i * 4 ∧ (cs.drop (i * 4)).length = (n - i) * 4 := by
    constructor
    · simp [hcl]; omega
    · simp [hcl]; omega
  have vl : V.toList.length = 4 := by simpa using hs
  have hold : (Builtin.firstCells inf.size i (.slice (some ⟨b, 0, none⟩) i c)).run Try.prog w.drew = .ok (cs.take (i * 4)).toArray w.drew := by
    rw [hsz]
    exact run_firstCells_some w.drew 4 i ⟨b, 0, none⟩ i c (cs.take (i * 4)) al (fun j v hj => by
      rw [Addr.add_lit, Nat.zero_add]
      rw [List.getElem?_take] at hj
      split at hj
      · exact h.cell rfl hj
      · cases hj)
  obtain ⟨G, hG⟩ : ∃ G, G = grownCap w (n + 1) c RT := ⟨_, rfl⟩
  have g1 : n + 1 ≤ G := by rw [hG]; exact grownCap_ge w _ _ _
  have g2 : G ≤ 9223372036854775807 := by
    have := grownCap_le_maxLen w (n + 1) c RT (by unfold maxLen; omega)
    rw [← hG] at this
    unfold maxLen at this
    omega
  obtain ⟨ROW, hROW⟩ : ∃ ROW : Array Value, ROW = (cs.take (i * 4)).toArray ++ Builtin.zeroCells zr.cells (n + 1 - i) ++ Builtin.zeroCells zr.cells (G - (n + 1)) := ⟨_, rfl⟩
  have hik : i + (n + 1 - i) = n + 1 := by omega
  have hrz : ∀ ty, (Builtin.append_ #[27, 3] ty #[.slice (some ⟨b, 0, none⟩) i c, .int .i64 ((n : Int) + 1 - (i : Int))]).run Try.prog w = .ok (.slice (some ⟨w.heap.size, 0, none⟩) (n + 1) G) (w.drew.alloc (.cells ROW RT)) := fun ty => by
    have q := Lib.run_append_grow_zeros w 27 3 ty RT inf zr .i64 .i64 Try.underlying27 Try.underlying3 hinf hz (some ⟨b, 0, none⟩) i c (cs.take (i * 4)) hold (n + 1 - i) (by omega) (by omega) (by omega) (by omega) (by rw [hby]; omega) (by rw [hby, hik]; exact growslice_fits room (by omega))
    rw [hik, ← hG, ← hROW] at q
    rw [show (n : Int) + 1 - (i : Int) = ((n + 1 - i : Nat) : Int) by omega]
    exact q
  obtain ⟨ROW1, hR1⟩ : ∃ ROW1, ROW1 = spl ROW (i * 4) V.toList := ⟨_, rfl⟩
  obtain ⟨ROW2, hR2⟩ : ∃ ROW2, ROW2 = spl ROW1 ((i + 1) * 4) (cs.drop (i * 4)) := ⟨_, rfl⟩
  have z0 : ROW.size = G * 4 := by
    rw [hROW]
    simp only [Array.size_append, List.size_toArray, al, size_zeroCells, zr_cells]
    omega
  have z1 : ROW1.size = G * 4 := by rw [hR1]; exact (spl_size (by rw [vl, z0]; omega)).trans z0
  have z2 : ROW2.size = G * 4 := by rw [hR2]; exact (spl_size (by rw [dl, z1]; omega)).trans z1
  have ht : ROW2.toList.take ((n + 1) * 4) = cs.take (i * 4) ++ (V.toList ++ cs.drop (i * 4)) := by
    have q := grow_list (cs.take (i * 4)) (cs.drop (i * 4)) V.toList (Builtin.zeroCells zr.cells (n + 1 - i)).toList (Builtin.zeroCells zr.cells (G - (n + 1))).toList vl (by
      rw [Array.length_toList, size_zeroCells, zr_cells, dl]; omega) ROW (by rw [hROW]; simp)
    rw [al, show i * 4 + 4 = (i + 1) * 4 by omega, ← hR1, ← hR2] at q
    rw [q]
    exact List.take_left' fl
  have hcpA : ∀ W : World, Blk W w.heap.size RT ROW → Blk W vb RT V → ∀ ty dc, (Builtin.copy_ #[27, 27] ty #[.slice (some ⟨w.heap.size, i * 4, none⟩) (n + 1 - i) dc, .slice (some ⟨vb, 0, none⟩) 1 1]).run Try.prog W = .ok (goInt ((1 : Nat) : Int)) (W.setRow w.heap.size ROW1) := fun W hB hv ty dc => by
    rw [hR1]
    exact run_copy_spl Try.underlying27 hinf hB _ _ dc ⟨vb, 0, none⟩ _ 1 1 _ (by simp only [Nat.min_def]; split <;> omega) (by rw [vl, hsz]) (fun j v hj => by
      rw [Addr.add_lit, Nat.zero_add, hv.cell]
      simpa using hj) (by rw [vl, z0]; omega) h1 ty
  have hcpB : ∀ W : World, Blk W w.heap.size RT ROW1 → Blk W b RT X → ∀ ty dc sc, (Builtin.copy_ #[27, 27] ty #[.slice (some ⟨w.heap.size, (i + 1) * 4, none⟩) (n - i) dc, .slice (some ⟨b, i * 4, none⟩) (n - i) sc]).run Try.prog W = .ok (goInt ((n - i : Nat) : Int)) (W.setRow w.heap.size ROW2) := fun W hB hb ty dc sc => by
    rw [hR2]
    exact run_copy_spl Try.underlying27 hinf hB _ _ dc ⟨b, i * 4, none⟩ _ sc (n - i) _ (by simp only [Nat.min_def]; split <;> omega) (by rw [dl, hsz]) (fun j v hj => by
      rw [Addr.add_lit, hb.cell]
      rw [List.getElem?_drop, ← hXt, List.getElem?_take] at hj
      split at hj
      · simpa using hj
      · cases hj) (by rw [dl, z1]; omega) (fun v hv => h.one v (List.mem_of_mem_drop hv)) ty
  have E : Hid (∀ W, Blk W w.heap.size RT ROW2 → Below w.heap.size w W → Ins (some ⟨b, 0, none⟩) n c (cs.take (i * 4) ++ (V.toList ++ cs.drop (i * 4))) w (.returned (.slice (some ⟨w.heap.size, 0, none⟩) (n + 1) G)) W) := Lib.hid fun W hB hb => ins_new (c' := G) hB (by omega) hb fl g1 g2 f1 ht
  have k0 : Blk (w.drew.alloc (.cells ROW RT)) w.heap.size RT ROW := Blk.new w.drew RT ROW
  have k1 : Blk (w.drew.alloc (.cells ROW RT)) vb RT V := Blk.alloc (show Blk w.drew vb RT V from hV) _
  have k2 : Blk (w.drew.alloc (.cells ROW RT)) b RT X := Blk.alloc (show Blk w.drew b RT X from hX) _
  have A0 : Below w.heap.size w (w.drew.alloc (.cells ROW RT)) := (below_drewN (Below.refl w.heap.size w) 1).alloc (Nat.le_refl _) _
  obtain ⟨W1, hW1⟩ : ∃ W1, W1 = w.drew.alloc (.cells ROW RT) := ⟨_, rfl⟩
  rw [← hW1] at hrz k0 k1 k2 A0
  have m0 : Blk (W1.setRow w.heap.size ROW1) w.heap.size RT ROW1 := setRow_heap _ _ _ _ _ _ k0
  have m2 : Blk (W1.setRow w.heap.size ROW1) b RT X := (setRow_other _ _ _ _ (by omega)).trans k2
  have A1 : Below w.heap.size w (W1.setRow w.heap.size ROW1) := setRow_bel A0 (Nat.le_refl _) _
  have cpA := hcpA W1 k0 k1
  obtain ⟨W2, hW2⟩ : ∃ W2, W2 = W1.setRow w.heap.size ROW1 := ⟨_, rfl⟩
  rw [← hW2] at m0 m2 A1 cpA
  have cpB := hcpB W2.drew m0 m2
  have fin := Lib.hid (E.out (W2.drew.setRow w.heap.size ROW2) (setRow_heap _ _ _ _ _ _ m0) (setRow_bel (below_drewN A1 1) (Nat.le_refl _) _))
  have mixed : Try.prog.follows .mixedOrders = true := by kernel_rfl
  have hz2 : ¬ ((i : Int) = (n : Int)) := by omega
  have hz3 : (c : Int) < (n : Int) + 1 := by omega
  have hw0 : IntKind.i64.wrap ((n : Int) + 1) = (n : Int) + 1 := IntWalk.i64_in _ (by omega)
  have hw1 : IntKind.i64.wrap ((i : Int) + 1) = (i : Int) + 1 := IntWalk.i64_in _ (by omega)
  have hw2 : IntKind.i64.wrap ((n : Int) + 1 - (i : Int)) = (n : Int) + 1 - (i : Int) := IntWalk.i64_in _ (by omega)
  have hb1 : (0 : Int) ≤ (i : Int) + 1 := by omega
  have hin : i ≤ n := by omega
  have htn : ((i : Int) + 1).toNat = i + 1 := by omega
  have hGi : ¬ (G = i) := by omega
  have hGim : ¬ (G = i + 1) := by omega
  have hci : ¬ (c = i) := by omega
  have hb3 : (i : Int) ≤ (n : Int) + 1 := by omega

  clear hW1 hW2 h hV hX hXc hXt hR1 hR2 z0 z1 z2 ht fl f1 al dl vl hcl hold hROW hG hcpA hcpB E k0 k1 k2 m0 m2 A0 A1 hik
  go_enter Try.func27, Try.ntmps27
  go_wp2_with (first
    | (at_builtin; refine Lib.wpList_append_run _ rfl _ _ _ _ rfl _ _ rfl rfl _ _ (hrz _) ?_)
    | (at_builtin; refine wpList_copy_runI _ rfl _ _ 27 27 rfl _ _ rfl rfl (cpA _ _) ?_))
  go_region_law_o (refine step_copy_runI rfl _ _ 27 27 rfl _ _ (by simp [Act.eval, Act.put]) (by simp [Act.eval, Act.put]) (cpB _ _ _) ?_)
  go_wp2
  go_ret
  exact fin.out
theorem insert_route (A : Option Addr) (n c i : Nat) (cs : List Value) (vb : Nat) (V : Array Value) (w : World) (h : RowAt RT 4 w A n c cs) (hV : Blk w vb RT V) (hs : V.size = 4) (h1 : ∀ v ∈ V.toList, v.oneCell' = true) (hn : n ≤ 1000) (hi : i ≤ n) (hne : ¬ own A vb) :
    Calls Try.prog 27 #[.slice A n c, .int .i64 (i : Int), .slice (some ⟨vb, 0, none⟩) 1 1] w (Ins A n c (cs.take (i * 4) ++ (V.toList ++ cs.drop (i * 4))) w) := by
  rcases Nat.lt_or_ge i n with q | q
  · rcases Nat.lt_or_ge c (n + 1) with r | r
    · exact insert_grow A n c i cs vb V w h hV hs h1 hn q r
    · exact insert_shift A n c i cs vb V w h hV hs h1 hn q r hne
  · obtain rfl : i = n := by omega
    have e1 : cs.take (i * 4) = cs := List.take_of_length_le (by rw [h.len]; exact Nat.le_refl _)
    have e2 : cs.drop (i * 4) = [] := List.drop_eq_nil_of_le (by rw [h.len]; exact Nat.le_refl _)
    rw [e1, e2, List.append_nil]
    exact insert_end A i c cs vb V w h hV hs h1 hn
end Go.Proofs.Ytnabjhdamofpgaa.InsT
