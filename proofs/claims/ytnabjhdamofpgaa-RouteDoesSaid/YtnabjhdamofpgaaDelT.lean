/- slices.Delete of one element, at routes. -/
import Derived.Test.YtnabjhdamofpgaaInsT
set_option linter.unusedVariables false
namespace Go.Proofs.Ytnabjhdamofpgaa.DelT
open Go.RowKit Go.Proofs.Ytnabjhdamofpgaa.Mem Go.Proofs.Ytnabjhdamofpgaa.Blk Go.Proofs.Ytnabjhdamofpgaa.RowN Go.Proofs.Ytnabjhdamofpgaa.InsT Go.Proofs.Ytnabjhdamofpgaa.Part
/-- An append whose run is known, as one step of a region that draws. -/
theorem step_append_runI {P : Program} {ops : Array Oper} {o : Oper} {a : Act} {w : World} {K : Act → World → Prop} {Q : Exit → Act → World → Prop} {E : Prop}
    (hg : o.guard = none) (d x : Operand) (dT sT : TypeId) (hop : o.op = Op.call { callee := Callee.builtin Builtin.append, args := #[d, x], argTypes := #[dT, sT] })
    (v u : Value) (hd : a.eval d = v) (hx : a.eval x = u) {v' : Value} {w' : World} (hr : (Builtin.append_ #[dT, sT] o.type #[v, u]).run P w = .ok v' w') (hK : K (a.put o.dst v') w') :
    if Region.wanted o (yielded ops a.tmps) = true then Oper.wp P o a w K Q else E := by
  have hw : Region.wanted o (yielded ops a.tmps) = true := by simp [Region.wanted, hg]
  rw [if_pos hw]
  unfold Oper.wp
  simp [execOp, hop, resolve, invoke, builtin, hd, hx, hr, Result.andThen]
  exact hK
theorem del_list (a x d Y : List Value) (hx : x.length = 4) (X : Array Value) (hX : X.toList = a ++ (x ++ (d ++ Y))) (Z : List Value) (hZ : Z.length = 4) : (spl (spl X a.length d) (a.length + d.length) Z).toList = a ++ d ++ (Z ++ Y) := by
  have e1 : (spl X a.length d).toList = a ++ (d ++ ((x ++ d).drop d.length ++ Y)) := by
    refine spl_list (b := (x ++ d).take d.length) ?_ rfl (by simp)
    rw [hX, ← List.append_assoc ((x ++ d).take d.length), List.take_append_drop, List.append_assoc]
  refine spl_list (b := (x ++ d).drop d.length) ?_ (by simp) (by simp [hx, hZ])
  rw [e1, List.append_assoc]
set_option maxHeartbeats 4000000 in
set_option maxRecDepth 100000 in
theorem delete_route (A : Option Addr) (n c i : Nat) (cs : List Value) (w : World) (h : RowAt RT 4 w A n c cs) (hn : n ≤ 1000) (hi : i < n) :
    Calls Try.prog 30 #[.slice A n c, .int .i64 (i : Int), .int .i64 ((i : Int) + 1)] w fun e w' => e = .returned (.slice A (n - 1) c) ∧ RowAt RT 4 w' A (n - 1) c (cs.take (i * 4) ++ cs.drop ((i + 1) * 4)) ∧ Keep (fun k => ¬ own A k) w w' := by
  obtain ⟨inf, hinf, hz, hsz, hby⟩ := info_route
  obtain ⟨b, X, rfl, hX, hXc, hXt⟩ := h.some (by omega)
  have hcl := h.len
  have hle := h.le
  have hbig := h.big
  obtain ⟨al, dl⟩ : (cs.take (i * 4)).length = i * 4 ∧ (cs.drop ((i + 1) * 4)).length = (n - (i + 1)) * 4 := by
    constructor
    · simp [hcl]; omega
    · simp [hcl]; omega
  have hXl : X.toList = cs.take (i * 4) ++ ((cs.drop (i * 4)).take 4 ++ (cs.drop ((i + 1) * 4) ++ X.toList.drop (n * 4))) := by
    have e : cs.drop ((i + 1) * 4) = (cs.drop (i * 4)).drop 4 := by rw [List.drop_drop]; congr 1; omega
    rw [e, ← List.append_assoc ((cs.drop (i * 4)).take 4), List.take_append_drop, ← List.append_assoc, List.take_append_drop, ← hXt, List.take_append_drop]
  obtain ⟨Z, hZ⟩ : ∃ Z, Z = (Builtin.zeroCells zr.cells 1).toList := ⟨_, rfl⟩
  have zl : Z.length = 4 := by rw [hZ, Array.length_toList, size_zeroCells, zr_cells]
  have z1 : ∀ v ∈ Z, v.oneCell' = true := by
    rw [hZ]
    have : (Builtin.zeroCells zr.cells 1).toList.all (·.oneCell') = true := by kernel_rfl
    exact fun v hv => List.all_eq_true.1 this v hv
  obtain ⟨X1, hX1⟩ : ∃ X1, X1 = spl X (i * 4) (cs.drop ((i + 1) * 4)) := ⟨_, rfl⟩
  obtain ⟨X2, hX2⟩ : ∃ X2, X2 = spl X1 ((n - 1) * 4) Z := ⟨_, rfl⟩
  have s1 : X1.size = X.size := by rw [hX1]; exact spl_size (by rw [dl]; omega)
  have s2 : X2.size = X.size := by rw [hX2]; exact (spl_size (by rw [zl]; omega)).trans s1
  have fl : (cs.take (i * 4) ++ cs.drop ((i + 1) * 4)).length = (n - 1) * 4 := by rw [List.length_append, al, dl]; omega
  have ht : X2.toList.take ((n - 1) * 4) = cs.take (i * 4) ++ cs.drop ((i + 1) * 4) := by
    have q := del_list (cs.take (i * 4)) ((cs.drop (i * 4)).take 4) (cs.drop ((i + 1) * 4)) (X.toList.drop (n * 4)) (by simp [hcl]; omega) X hXl Z zl
    rw [al, dl, show i * 4 + (n - (i + 1)) * 4 = (n - 1) * 4 by omega, ← hX1, ← hX2] at q
    rw [q]
    exact List.take_left' fl
  obtain ⟨Ad, hA, hsrc⟩ : ∃ Ad : Addr, (if c = i + 1 then (some ⟨b, 0, none⟩ : Option Addr) else some ⟨b, (i + 1) * 4, none⟩) = some Ad ∧ ∀ j v, (cs.drop ((i + 1) * 4))[j]? = some v → w.drew.cell? (Ad.add j) = some v := by
    by_cases q : c = i + 1
    · refine ⟨_, if_pos q, fun j v hj => ?_⟩
      have : cs.drop ((i + 1) * 4) = [] := List.length_eq_zero_iff.1 (by rw [dl]; omega)
      rw [this] at hj
      cases hj
    · refine ⟨_, if_neg q, fun j v hj => ?_⟩
      rw [Addr.add_lit]
      rw [List.getElem?_drop] at hj
      exact h.cell rfl hj
  have hap : ∀ ty, (Builtin.append_ #[27, 27] ty #[.slice (some ⟨b, 0, none⟩) i c, .slice (some Ad) (n - (i + 1)) (c - (i + 1))]).run Try.prog w.drew = .ok (.slice (some ⟨b, 0, none⟩) (i + (n - (i + 1))) c) (w.drew.setRow b X1) := fun ty => by
    have q := run_append_spl (w := w.drew) Try.underlying27 hinf (show Blk w.drew b RT X from hX) i c Ad (n - (i + 1)) (c - (i + 1)) _ (by rw [dl, hsz]) hsrc (fun v hv => h.one v (List.mem_of_mem_drop hv)) (by omega) (by rw [dl, hsz]; omega) ty
    rw [hsz, ← hX1] at q
    exact q
  have B1 : Blk (w.drew.setRow b X1) b RT X1 := setRow_heap _ _ _ X1 _ _ hX
  have hcl : ∀ ty cc, (Builtin.clear_ #[27] ty #[.slice (some ⟨b, (n - 1) * 4, none⟩) (n - (n - 1)) cc]).run Try.prog (w.drew.setRow b X1) = .ok (.tuple #[]) ((w.drew.setRow b X1).setRow b X2) := fun ty cc => by
    rw [hX2, show n - (n - 1) = 1 by omega]
    exact run_clear_spl Try.underlying27 (fun w => by kernel_rfl) B1 _ 1 cc (by omega) Z hZ.symm (by rw [zl]; omega) z1 ty
  have E := Lib.hid (show RowAt RT 4 ((w.drew.setRow b X1).setRow b X2) (some ⟨b, 0, none⟩) (n - 1) c (cs.take (i * 4) ++ cs.drop ((i + 1) * 4)) ∧ Keep (fun k => ¬ own (some ⟨b, 0, none⟩) k) w ((w.drew.setRow b X1).setRow b X2) from
    ⟨⟨fl, by omega, hbig, fun v hv => (List.mem_append.1 hv).elim (fun q => h.one v (List.mem_of_mem_take q)) (fun q => h.one v (List.mem_of_mem_drop q)), .inr ⟨b, X2, rfl, setRow_heap _ _ _ _ _ _ B1, by omega, ht⟩⟩,
      ((Keep.refl _ w).drewN 1).trans ((Keep.row (F := fun k => ¬ own (some ⟨b, 0, none⟩) k) w.drew b X1 (fun z => z ⟨_, rfl, rfl⟩)).trans (Keep.row _ b _ (fun z => z ⟨_, rfl, rfl⟩)))⟩)
  have mixed : Try.prog.follows .mixedOrders = true := by kernel_rfl
  have hw1 : IntKind.i64.wrap ((i : Int) + 1) = (i : Int) + 1 := IntWalk.i64_in _ (by omega)
  have hb1 : (0 : Int) ≤ (i : Int) + 1 := by omega
  have hin : i ≤ n := by omega
  have hin1 : i + 1 ≤ n := by omega
  have hin2 : (i : Int) + 1 ≤ (n : Int) := by omega
  have htn : ((i : Int) + 1).toNat = i + 1 := by omega
  have hne : ¬ ((i : Int) = (i : Int) + 1) := by omega
  have hsum : i + (n - (i + 1)) = n - 1 := by omega
  have hic : i ≤ c := by omega
  have hjc : i + 1 ≤ c := by omega
  clear h hX hXc hXt hXl hX1 hX2 s1 s2 ht fl al dl zl z1 hZ hsrc B1
  rw [hsum] at hap
  go_enter Try.func30, Try.ntmps30
  go_wp2_with fail
  go_region_law_o (refine step_append_runI rfl (.tmp 22) (.tmp 25) 27 27 rfl _ _ (by simp [Act.eval, Act.put]) (by simp [Act.eval, Act.put]) (hap _) ?_)
  go_wp2
  go_ret
  exact ⟨rfl, E.out.1, E.out.2⟩
end Go.Proofs.Ytnabjhdamofpgaa.DelT
