/- The contract of the code: a hash that takes a part. -/
import Derived.Test.YtdnkbefpbehllaaDoorM25
import Derived.Test.YtdnkbefpbehllaaDoorM21
set_option linter.unusedVariables false
set_option maxRecDepth 100000
namespace Go.Proofs.YtdnkbefpbehllaaDoor.Dig7
open Go.RowKit Go.PlainAid Go.Proofs.YtdnkbefpbehllaaDoor.Sums Go.Proofs.YtdnkbefpbehllaaDoor.Mem Go.Proofs.YtdnkbefpbehllaaDoor.Blk Go.Proofs.YtdnkbefpbehllaaDoor.Bits Go.Proofs.YtdnkbefpbehllaaDoor.Bits3 Go.Proofs.YtdnkbefpbehllaaDoor.Ints Go.Proofs.YtdnkbefpbehllaaDoor.Free Go.Proofs.YtdnkbefpbehllaaDoor.Steps Go.Proofs.YtdnkbefpbehllaaDoor.Ops Go.Proofs.YtdnkbefpbehllaaDoor.OpsB Go.Proofs.YtdnkbefpbehllaaDoor.CutA Go.Proofs.YtdnkbefpbehllaaDoor.ShaD Go.Proofs.YtdnkbefpbehllaaDoor.Dig1 Go.Proofs.YtdnkbefpbehllaaDoor.OpsU Go.Proofs.YtdnkbefpbehllaaDoor.Dig2 Go.Proofs.YtdnkbefpbehllaaDoor.Dig3 Go.Proofs.YtdnkbefpbehllaaDoor.Dig4 Go.Proofs.YtdnkbefpbehllaaDoor.Dig5 Go.Proofs.YtdnkbefpbehllaaDoor.Dig6

theorem grown_of {w w' : World} {B : Nat} (row : Option Nat) (hb : Below B w w') (hB : w.heap.size ≤ B) : w.grownBy w' row := ⟨hb.os, hb.tape, hb.output, hb.size, fun k hk _ => hb.block k (Nat.lt_of_lt_of_le hk hB)⟩
theorem grown_setRow (w : World) (g : Nat) (cs : Array Value) : w.grownBy (w.setRow g cs) (some g) := ⟨rfl, rfl, rfl, by simp [World.setRow], fun k hk hne => by
  unfold World.setRow
  simp only [Array.getElem?_modify]
  rw [if_neg (fun e => hne (by rw [e]))]⟩
theorem grown_setCell (w : World) (g i : Nat) (v : Value) : w.grownBy (w.setCell ⟨g, i, none⟩ v) (some g) := ⟨rfl, rfl, rfl, by simp, fun k hk hne => Below.heap_setCell w ⟨g, i, none⟩ v k (fun e => hne (by rw [e]))⟩
/-- A row of bytes that does not lie in block g. -/
def Off (A : Option Addr) (g : Nat) : Prop := ∀ b o, A = some ⟨b, o, none⟩ → b ≠ g
theorem holds_grown {w w' : World} {B n c g : Nat} {A : Option Addr} {l : List Int} (h : Holds w B A n c l) (ho : Off A g) (hB : B ≤ w.heap.size) (hg : w.grownBy w' (some g)) : Holds w' B A n c l :=
  ⟨h.1, h.2.1, h.2.2.1, h.2.2.2.1, fun hn => by
    obtain ⟨b, o, e, hb, hc⟩ := h.2.2.2.2 hn
    exact ⟨b, o, e, hb, fun j z hz => hg.cell (hc j z hz) (fun q => ho b o e (Option.some.inj q))⟩⟩
theorem off_adr {b p c m g : Nat} (h : Off (some ⟨b, p, none⟩) g) : Off (some (adr b p c m)) g := by
  intro b' o' e
  have hb := h b p rfl
  unfold adr at e
  split at e
  · injection e with e; injection e with e1 e2; rw [← e1]; exact hb
  · injection e with e; injection e with e1 e2; rw [← e1]; exact hb

theorem st_copy {o : Oper} {a : Act} {w : World} {K : Act → World → Prop} {Q : Exit → Act → World → Prop} (d s : Operand)
    (ho : o.op = .call { callee := .builtin .copy, args := #[d, s], argTypes := #[25, 25] }) (vd vs : Value) (hd : a.eval d = vd) (hs : a.eval s = vs) (v : Value) (w' : World)
    (hr : ∀ ty, (Builtin.copy_ #[25, 25] ty #[vd, vs]).run Tryd.prog w = .ok v w') (hK : K (a.put o.dst v) w') : Step Tryd.prog o a w K Q := by
  constructor
  unfold Oper.wp execOp
  simp only [ho, resolve, invoke, builtin, Sem.run_bind, Sem.run_pure, Result.andThen_ok, List.map_toArray, List.map_cons, List.map_nil, hd, hs, hr]
  exact hK
/-- A part copied into the block. -/
theorem copy_run (W : World) (g r m N : Nat) (S Bk : List Nat) (b p n c : Nat) (x : List Nat) (hH : Hsh W g S Bk N) (hS : S.length = 8) (hB : Bk.length = 64) (hr : r < 64) (hm : m = Nat.min n (64 - r)) (hx : x.length = m)
    (hc : ∀ j, j < m → W.cell? ⟨b, p + j, none⟩ = some (.int .u8 ((x.getD j 0 : Nat) : Int))) (ty : TypeId) :
    (Builtin.copy_ #[25, 25] ty #[.slice (some ⟨g, 8 + r, none⟩) (64 - r) (64 - r), .slice (some ⟨b, p, none⟩) n c]).run Tryd.prog W = .ok (.int .i64 (m : Int)) (W.setRow g (hcells S (fit Bk x r) N)) := by
  have m2 : m ≤ 64 - r := by rw [hm]; exact Nat.min_le_right _ _
  have cl : (bcells x).toList.length = m := by simp [bcells, hx]
  have e := run_copy_row (P := Tryd.prog) W 25 25 ty 5 g (8 + r) (64 - r) (64 - r) ⟨b, p, none⟩ n c (hcells S Bk N) 98 (bcells x).toList Tryd.underlying25 (by kernel_rfl) hH (by rw [cl, hm]) ?_ ?_ ?_
  · rw [e, cl]
    have e2 : ((hcells S Bk N).toList.take (8 + r) ++ (bcells x).toList ++ (hcells S Bk N).toList.drop (8 + r + m)).toArray = hcells S (fit Bk x r) N := by
      unfold hcells fit
      congr 1
      simp only [bcells]
      have t1 : List.take (8 + r) ((S.map fun z : Nat => Value.int .u32 (z : Int)) ++ (Bk.map fun z : Nat => Value.int .u8 (z : Int)) ++ [Value.int .i64 (N : Int)]) = (S.map fun z : Nat => Value.int .u32 (z : Int)) ++ (Bk.take r).map fun z : Nat => Value.int .u8 (z : Int) := by
        rw [List.take_append_of_le_length (by simp [hS, hB]; omega), List.take_append, List.take_of_length_le (by simp [hS]), List.length_map, hS, show 8 + r - 8 = r by omega, ← List.map_take]
      have t2 : List.drop (8 + r + m) ((S.map fun z : Nat => Value.int .u32 (z : Int)) ++ (Bk.map fun z : Nat => Value.int .u8 (z : Int)) ++ [Value.int .i64 (N : Int)]) = ((Bk.drop (r + m)).map fun z : Nat => Value.int .u8 (z : Int)) ++ [Value.int .i64 (N : Int)] := by
        rw [List.drop_append_of_le_length (by simp [hS, hB]; omega), List.drop_append, List.drop_of_length_le (by simp [hS]; omega), List.nil_append, List.length_map, hS, show 8 + r + m - 8 = r + m by omega, ← List.map_drop]
      rw [t1, t2]
      simp [hx]
    rw [e2]
    rfl
  · intro j v hv
    have hj : j < m := by
      have := (List.getElem?_eq_some_iff.1 hv).1
      rw [cl] at this
      exact this
    rw [add_plain, hc j hj]
    have := bcells_get x j (by omega)
    rw [← this]
    rw [Array.getElem?_toList] at hv
    exact hv
  · rw [cl, hcells_size, hS, hB]; omega
  · intro v hv
    obtain ⟨z, _, rfl⟩ := List.mem_map.1 (show v ∈ x.map (fun n : Nat => Value.int .u8 (n : Int)) from by simpa only [bcells] using hv)
    rfl
theorem cut_blk (g r : Nat) (hr : r < 64) (w : World) : (Instr.sliceAt 93 (.pointer (some ⟨g, 8, none⟩)) (some (.int .i64 (r : Int))) none none).run Tryd.prog w = .ok (.slice (some ⟨g, 8 + r, none⟩) (64 - r) (64 - r)) w := by
  have he : (sizeOf (Tryd.prog.elem 93)).run Tryd.prog w = .ok 1 w := by kernel_rfl
  have hl : Tryd.prog.arrayLen 93 = 64 := by kernel_rfl
  have e := run_sliceAt_array_l (P := Tryd.prog) (w := w) (t := 93) (a := ⟨g, 8, none⟩) (ht := (by kernel_rfl)) .i64 (r : Int) (by omega) (by rw [hl]; omega)
  rw [e, he, hl]
  have ne : ¬ 64 = r := by omega
  simp only [Result.andThen_ok, slicedAt, Int.toNat_natCast, if_neg ne, Nat.mul_one, add_plain]
theorem cut_all (g : Nat) (w : World) : (Instr.sliceAt 93 (.pointer (some ⟨g, 8, none⟩)) none none none).run Tryd.prog w = .ok (.slice (some ⟨g, 8, none⟩) 64 64) w := by
  have he : (sizeOf (Tryd.prog.elem 93)).run Tryd.prog w = .ok 1 w := by kernel_rfl
  have hl : Tryd.prog.arrayLen 93 = 64 := by kernel_rfl
  have e := run_sliceAt_array_all (P := Tryd.prog) (w := w) (t := 93) (a := ⟨g, 8, none⟩) (ht := (by kernel_rfl))
  rw [e, he, hl]
  simp [Result.andThen_ok, slicedAt, add_plain]
/-- The state read out of the hash. -/
theorem load_state (w : World) (g N : Nat) (S Bk : List Nat) (hS : S.length = 8) (h : Hsh w g S Bk N) : (loadVar 96 ⟨g, 0, none⟩).run Tryd.prog w = .ok (.agg (ucells S)) w := by
  have hl : (loadCells ⟨g, 0, none⟩ (ucells S).toList.length).run Tryd.prog w = .ok (ucells S).toList.toArray w :=
    run_loadCells_list (P := Tryd.prog) w ⟨g, 0, none⟩ (ucells S).toList (fun j v hv => by
      rw [add_plain, Nat.zero_add]
      have hj : j < 8 := by
        have := (List.getElem?_eq_some_iff.1 hv).1
        simp [ucells, hS] at this
        exact this
      rw [Blk.cell h j, hcells_s hS hj, ← ucells_get S j (by omega)]
      rw [Array.getElem?_toList] at hv
      exact hv)
  have hlen : (ucells S).toList.length = 8 := by simp [ucells, hS]
  have hs : (sizeOf 96).run Tryd.prog w = .ok 8 w := by kernel_rfl
  have ha : (isAgg 96).run Tryd.prog w = .ok true w := by kernel_rfl
  rw [hlen] at hl
  simp [loadVar, Sem.run_bind, ha, hl]
theorem st_load_state {o : Oper} {a : Act} {w : World} {K : Act → World → Prop} {Q : Exit → Act → World → Prop} (x : Operand) (ho : o.op = .load 96 x) (g N : Nat) (S Bk : List Nat) (hx : a.eval x = .pointer (some ⟨g, 0, none⟩)) (hS : S.length = 8) (h : Hsh w g S Bk N)
    (hK : K (a.put o.dst (.agg (ucells S))) w) : Step Tryd.prog o a w K Q := by
  constructor
  unfold Oper.wp execOp
  simp only [ho, hx, Instr.loadAt, Instr.sureAddr, Sem.run_bind, Sem.run_pure, Result.andThen_ok, load_state w g N S Bk hS h]
  exact hK
theorem st_store_state {o : Oper} {a : Act} {w : World} {K : Act → World → Prop} {Q : Exit → Act → World → Prop} (x y : Operand) (ho : o.op = .store 96 x y) (g N : Nat) (S Bk S2 : List Nat) (hx : a.eval x = .pointer (some ⟨g, 0, none⟩)) (hy : a.eval y = .agg (ucells S2)) (hS : S.length = 8) (hS2 : S2.length = 8) (h : Hsh w g S Bk N)
    (hK : K (a.put o.dst undef) (w.setRow g (hcells S2 Bk N))) : Step Tryd.prog o a w K Q := by
  have hs : (sizeOf 96).run Tryd.prog w = .ok 8 w := by kernel_rfl
  have cl : (ucells S2).toList.length = 8 := by simp [ucells, hS2]
  have e := run_storeCells_at Tryd.prog g 0 98 (ucells S2).toList 0 (hcells S Bk N) w h (by rw [cl, hcells_size]; omega) (fun v hv => by
    obtain ⟨z, _, rfl⟩ := List.mem_map.1 (show v ∈ S2.map (fun n : Nat => Value.int .u32 (n : Int)) from by simpa only [ucells] using hv)
    rfl)
  have e2 : ((hcells S Bk N).toList.take (0 + 0) ++ (ucells S2).toList ++ (hcells S Bk N).toList.drop (0 + 0 + (ucells S2).toList.length)).toArray = hcells S2 Bk N := by
    rw [cl]
    unfold hcells
    congr 1
    simp only [ucells]
    have d : List.drop 8 ((S.map fun z : Nat => Value.int .u32 (z : Int)) ++ ((Bk.map fun z : Nat => Value.int .u8 (z : Int)) ++ [Value.int .i64 (N : Int)])) = (Bk.map fun z : Nat => Value.int .u8 (z : Int)) ++ [Value.int .i64 (N : Int)] := by
      rw [List.drop_append, List.drop_of_length_le (by simp [hS]), List.length_map, hS, Nat.sub_self, List.drop_zero, List.nil_append]
    rw [show 0 + 0 + 8 = 8 from rfl, List.append_assoc (S.map _), d]
    simp
  rw [e2] at e
  have sz : (ucells S2).size = 8 := by rw [ucells_size, hS2]
  have hr : (storeVar 96 ⟨g, 0, none⟩ (.agg (ucells S2))).run Tryd.prog w = .ok () (w.setRow g (hcells S2 Bk N)) := by
    simp [storeVar, Value.cells, hs, sz, e]
  constructor
  unfold Oper.wp execOp
  simp only [ho, hx, hy, Instr.storeAt, Instr.sureAddr, Sem.run_bind, Sem.run_pure, Result.andThen_ok, hr]
  exact hK
theorem hsh_setRow {w : World} {g N N2 : Nat} {S Bk S2 Bk2 : List Nat} (h : Hsh w g S Bk N) : Hsh (w.setRow g (hcells S2 Bk2 N2)) g S2 Bk2 N2 := setRow_heap _ _ _ _ _ _ h
theorem ent_after : Enters Tryd.prog 60 := enters_of Tryd.func60 (by kernel_rfl) rfl
theorem getD_drop (X : List Nat) (k j : Nat) : (X.drop k).getD j 0 = X.getD (k + j) 0 := by
  rw [List.getD_eq_getElem?_getD, List.getElem?_drop, ← List.getD_eq_getElem?_getD]
theorem getD_take {X : List Nat} {m j : Nat} (h : j < m) : (X.take m).getD j 0 = X.getD j 0 := by
  rw [List.getD_eq_getElem?_getD, List.getElem?_take, if_pos h, ← List.getD_eq_getElem?_getD]
theorem take_part (X : List Nat) (k m : Nat) : X.take (k + m) = X.take k ++ (X.drop k).take m := by rw [List.take_add]

theorem fld_0 (g : Nat) (w : World) : (Instr.fieldAt 98 (.pointer (some ⟨g, 0, none⟩)) 0).run Tryd.prog w = .ok (.pointer (some ⟨g, 0, none⟩)) w := by kernel_rfl
theorem fld_8 (g : Nat) (w : World) : (Instr.fieldAt 98 (.pointer (some ⟨g, 0, none⟩)) 1).run Tryd.prog w = .ok (.pointer (some ⟨g, 8, none⟩)) w := by kernel_rfl
theorem fld_72 (g : Nat) (w : World) : (Instr.fieldAt 98 (.pointer (some ⟨g, 0, none⟩)) 2).run Tryd.prog w = .ok (.pointer (some ⟨g, 72, none⟩)) w := by kernel_rfl
theorem two_args {a b c d : Value} (h1 : a = c) (h2 : b = d) : [a, b] = [c, d] := by rw [h1, h2]
def lenOf : Value → Nat
  | .slice _ m _ => m
  | _ => 0
/-- A hash that has taken the bytes L lies at block g. -/
def Has (w : World) (g : Nat) (L : List Nat) : Prop := ∃ S Bk, Hsh w g S Bk L.length ∧ Hst L S Bk
set_option maxHeartbeats 2000000 in
set_option maxRecDepth 100000 in
theorem take_no (g : Nat) (L : List Nat) (A : Option Addr) (n c : Nat) (bs : List Int) (w : World) (hH : Has w g L) (hL : L.length ≤ 1099511627776) (hn : n ≤ 1099511627776) (h : Holds w w.heap.size A n c bs) (hO : 0 < n → Off A g) (hT : Tab w) (hg0 : (0 : Nat) < g) :
    Calls Tryd.prog 50 #[.pointer (some ⟨g, 0, none⟩), .slice A n c] w fun e w' => e = .returned (.tuple #[]) ∧ Has w' g (L ++ nats bs) ∧ w.grownBy w' (some g) := by
  obtain ⟨X, hX⟩ : ∃ X, X = nats bs := ⟨_, rfl⟩
  have XB : Hid (∀ y ∈ X, y < 256) := Lib.hid (by rw [hX]; exact nats_lt fun z hz => h.2.2.2.1 z hz)
  have XL : Hid (X.length = n) := Lib.hid (by rw [hX, nats_len, h.1])
  have XI : Hid (∀ k, ints (X.drop k) = bs.drop k) := Lib.hid fun k => by rw [hX, ← ints_nats (l := bs) fun z hz => h.2.2.2.1 z hz, nats_ints]; simp [ints, List.map_drop]
  have H0 : Hid (Holds w w.heap.size A n c (bs.drop 0)) := Lib.hid h
  have O0 := Lib.hid hO
  have K0 : Hid (Has w g (L ++ X.take 0)) := Lib.hid (by simpa using hH)
  have T0 := Lib.hid hT
  have GL := Lib.hid hg0
  have G0 := Lib.hid (World.grownBy.refl w (some g))
  rw [← hX]
  clear hX h hO hH hT hg0
  go_enter Tryd.func50, Tryd.ntmps50
  go_wp2_with fail
  go_loopw [1] (fun bv wr => ∃ (k : Nat) (A' : Option Addr) (n' c' : Nat), bv = .slice A' n' c' ∧ k + n' = n ∧ Hid (Holds wr wr.heap.size A' n' c' (bs.drop k)) ∧ Hid (0 < n' → Off A' g) ∧ Hid (Has wr g (L ++ X.take k)) ∧ Hid (Tab wr) ∧ Hid (w.grownBy wr (some g))) (fun bv _ => lenOf bv)
  case atStart => exact ⟨0, A, n, c, rfl, by omega, H0, O0, K0, T0, G0⟩
  case round =>
    obtain ⟨k, A', n', c', rfl, hk, HH, HO, HK, HT, HG⟩ := hrel
    clear H0 O0 K0 T0 G0
    by_cases hz : n' = 0
    · subst hz
      have KF : Hid (Has wr g (L ++ X)) := Lib.hid (by
        have := HK.out
        rwa [List.take_of_length_le (by rw [XL.out]; omega)] at this)
      go_wp2_with fail
      go_end0
      exact ⟨rfl, KF.out, HG.out⟩
    · replace HO := Lib.hid (HO.out (by omega))
      obtain ⟨b, p, rfl, _, _⟩ := HH.out.2.2.2.2 (by omega)
      have hnc := HH.out.2.1
      have hcm := HH.out.2.2.1
      unfold maxLen at hcm
      obtain ⟨S, Bk, hh, hst⟩ := HK.out
      obtain ⟨LL, hLL⟩ : ∃ LL, LL = L ++ X.take k := ⟨_, rfl⟩
      rw [← hLL] at hh hst
      have LE : LL.length = L.length + k := by rw [hLL, List.length_append, List.length_take, XL.out]; omega
      obtain ⟨Nk, hNk⟩ : ∃ Nk, Nk = LL.length := ⟨_, rfl⟩
      rw [← hNk] at hh LE
      obtain ⟨r, hr⟩ : ∃ r, r = Nk % 64 := ⟨_, rfl⟩
      have r64 : r < 64 := by omega
      obtain ⟨m, hm⟩ : ∃ m, m = Nat.min n' (64 - r) := ⟨_, rfl⟩
      have m1 : m ≤ n' := by rw [hm]; exact Nat.min_le_left _ _
      have m2 : m ≤ 64 - r := by rw [hm]; exact Nat.min_le_right _ _
      have m3 : m = n' ∨ m = 64 - r := by
        rcases Nat.le_total n' (64 - r) with q | q
        · left; rw [hm]; exact Nat.min_eq_left q
        · right; rw [hm]; exact Nat.min_eq_right q
      have m0 : 0 < m := by omega
      obtain ⟨x, hx⟩ : ∃ x, x = (X.drop k).take m := ⟨_, rfl⟩
      have xl : x.length = m := by rw [hx, List.length_take, List.length_drop, XL.out]; omega
      have xb : ∀ y ∈ x, y < 256 := fun y hy => by rw [hx] at hy; exact XB.out y (List.mem_of_mem_drop (List.mem_of_mem_take hy))
      have LX : LL ++ x = L ++ X.take (k + m) := by rw [hLL, hx, take_part, List.append_assoc]
      have rr : LL.length % 64 = r := by rw [hr, hNk]
      have XC : Hid (∀ W : World, wr.grownBy W none → ∀ j, j < m → W.cell? ⟨b, p + j, none⟩ = some (.int .u8 ((x.getD j 0 : Nat) : Int))) := Lib.hid fun W hW j hj => by
        have q := cell_getD HH.out j (by omega)
        rw [← XI.out k, ints_getD] at q
        rw [hx, getD_take hj]
        exact hW.cell q (by simp)
      have XK : Hid (∀ W : World, wr.grownBy W none → Hsh W g S Bk Nk) := Lib.hid fun W hW => Blk.grown hh hW (by simp)
      have SL := hst.sl
      have BL := hst.len
      have HS := Lib.hid hst
      have nk : (Nk : Int).tmod 64 = (r : Int) := by rw [Int.tmod_eq_emod_of_nonneg (by omega)]; omega
      have nb : Nk ≤ 4398046511104 := by omega
      obtain ⟨Bk2, hB2⟩ : ∃ Bk2, Bk2 = fit Bk x r := ⟨_, rfl⟩
      have CR : Hid (∀ W : World, wr.grownBy W none → ∀ ty, (Builtin.copy_ #[25, 25] ty #[.slice (some ⟨g, 8 + r, none⟩) (64 - r) (64 - r), .slice (some ⟨b, p, none⟩) n' c']).run Tryd.prog W = .ok (.int .i64 (m : Int)) (W.setRow g (hcells S Bk2 Nk))) := Lib.hid fun W hW ty => by
        rw [hB2]
        exact copy_run W g r m Nk S Bk b p n' c' x (XK.out W hW) SL BL r64 hm xl (XC.out W hW) ty
      have B2L : Bk2.length = 64 := by rw [hB2]; exact fit_len BL (by omega)
      have Z : Hid (∀ W : World, wr.grownBy W (some g) → Holds W W.heap.size (some (adr b p c' m)) (n' - m) (c' - m) (bs.drop (k + m))) := Lib.hid fun W hW => by
        have q := cutA_rest (holds_grown HH.out HO.out (Nat.le_refl _) hW) m1
        rw [List.drop_drop] at q
        exact q.more hW.size
      have slc : ∀ W : World, (Instr.sliceAt 25 (.slice (some ⟨b, p, none⟩) n' c') (some (.int .i64 (m : Int))) none none).run Tryd.prog W = .ok (.slice (some (adr b p c' m)) (n' - m) (c' - m)) W := fun W => cutA_l b p n' c' m W m1 hnc
      have TG : Hid (∀ W : World, wr.grownBy W (some g) → Tab W) := Lib.hid fun W hW => by
        obtain ⟨t, fr, q⟩ := HT.out
        exact ⟨t, fr, (hW.block _ HT.out.lt (fun e => by have := GL.out; injection e with e; omega)).trans q⟩
      obtain ⟨N2, hN2⟩ : ∃ N2, N2 = Nk + m := ⟨_, rfl⟩
      have f2 : IntKind.i64.wrap ((Nk : Int) + (m : Int)) = (N2 : Int) := by rw [IntWalk.i64_in _ (by omega)]; omega
      have N2L : (LL ++ x).length = N2 := by rw [List.length_append, xl, ← hNk, hN2]
      have kn : k + m + (n' - m) = n := by omega
      obtain ⟨n2, hn2⟩ : ∃ n2, n2 = n' - m := ⟨_, rfl⟩
      rw [← hn2] at Z slc kn
      have ZO : Hid (0 < n2 → Off (some (adr b p c' m)) g) := Lib.hid fun _ => off_adr (c := c') (m := m) HO.out
      have nm : n2 < n' := by omega
      have cn : n2 ≤ c' - m := by omega
      have gz : decide (0 < n') = true := decide_eq_true (by omega)
      have gz' : decide ((0 : Int) < (n' : Int)) = true := decide_eq_true (by omega)
      have LS : Hid (r + m < 64 → Hst (LL ++ x) S Bk2) := Lib.hid fun q => by
        rw [hB2, ← rr]
        exact hst.less xb (by rw [rr, xl]; exact q)
      have MS : Hid (r + m = 64 → Hst (LL ++ x) (round S Bk2) Bk2) := Lib.hid fun q => by
        rw [hB2, ← rr]
        exact hst.more xb (by rw [rr, xl]; exact q)
      have SM := Lib.hid hst.sm
      have B2B : Hid (∀ y ∈ Bk2, y < 256) := Lib.hid (by rw [hB2]; exact fit_byt hst.byt xb)
      have NN := Lib.hid hN2
      have RM : r + m ≤ 64 := by omega
      have RN : Hid (N2 % 64 = (r + m) % 64) := Lib.hid (by omega)
      have LX := Lib.hid LX
      have N2L := Lib.hid N2L
      have SLH := Lib.hid SL
      have B2LH := Lib.hid B2L
      have hnn : 0 ≤ (r : Int) := by omega
      have RL : (r : Int) < 64 := by omega
      have NKB := Lib.hid nb
      have BLH := Lib.hid BL
      have R9 := Lib.hid (show (Nk : Int) % 64 = (r : Int) by omega)
      have NGH := Lib.hid nk
      have G9 : Hid (∀ W : World, Below wr.drew.heap.size wr.drew W → wr.grownBy W none) := Lib.hid fun W hW => grown_of none ((below_drewN (Below.refl wr.heap.size wr) 1).trans hW) (Nat.le_refl _)
      clear hh hst HK hLL LE hNk hr hm m2 m3 hx xl xb rr hB2 hN2 hn2 HH HO XC hz hnc hcm nb hk
      go_wp2_with fail
      refine wp_region_free [0, 1, 2, 3, 4, 5, 6, 7, 8, 9] 10 [11] (fun w1 w2 => Below w1.heap.size w1 w2) (fun k' w' v => match k' with
        | 0 => v = .pointer (some ⟨g, 0, none⟩)
        | 1 => v = .pointer (some ⟨g, 0, none⟩)
        | 2 => v = .pointer (some ⟨g, 8, none⟩)
        | 3 => v = .pointer (some ⟨g, 0, none⟩)
        | 4 => v = .pointer (some ⟨g, 0, none⟩)
        | 5 => v = .pointer (some ⟨g, 72, none⟩)
        | 6 => v = .int .i64 ((Nk : Int))
        | 7 => v = .int .i64 ((r : Int))
        | 8 => v = .slice (some ⟨g, 8 + r, none⟩) (64 - r) (64 - r)
        | _ => v = .slice (some ⟨b, p, none⟩) n' c') (by kernel_rfl) (by kernel_rfl) (Below.refl _ _) (fun _ _ _ h k => h.trans (k.mono h.size)) (fun k' w1 w2 v h => match k' with
        | 0 => fun x => x
        | 1 => fun x => x
        | 2 => fun x => x
        | 3 => fun x => x
        | 4 => fun x => x
        | 5 => fun x => x
        | 6 => fun x => x
        | 7 => fun x => x
        | 8 => fun x => x
        | _ + 9 => fun x => x) (fun _ _ _ _ _ h => h) ?_ _ (by rfl) ?_
      · refine obs_cons (by rfl) (fun vals w' hgr hdep K hK => ?_) (obs_cons (by rfl) (fun vals w' hgr hdep K hK => ?_) (obs_cons (by rfl) (fun vals w' hgr hdep K hK => ?_) (obs_cons (by rfl) (fun vals w' hgr hdep K hK => ?_) (obs_cons (by rfl) (fun vals w' hgr hdep K hK => ?_) (obs_cons (by rfl) (fun vals w' hgr hdep K hK => ?_) (obs_cons (by rfl) (fun vals w' hgr hdep K hK => ?_) (obs_cons (by rfl) (fun vals w' hgr hdep K hK => ?_) (obs_cons (by rfl) (fun vals w' hgr hdep K hK => ?_) (obs_cons (by rfl) (fun vals w' hgr hdep K hK => ?_) (obs_nil))))))))))
        · exact wp_move (.tmp 0) rfl _ (at_out _ (by kernel_rfl) rfl) (hK _ _ (Below.refl _ _) rfl)
        · exact st_nil (.tmp 8) rfl _ ((at_dst 0 (by kernel_rfl)).trans (hdep 0 (by simp) (by kernel_rfl))) (hK _ _ (Below.refl _ _) rfl)
        · exact wp_field (.tmp 9) rfl _ _ ((at_dst 1 (by kernel_rfl)).trans (hdep 1 (by simp) (by kernel_rfl))) (fld_8 g _) (hK _ _ (Below.refl _ _) rfl)
        · exact wp_move (.tmp 0) rfl _ (at_out _ (by kernel_rfl) rfl) (hK _ _ (Below.refl _ _) rfl)
        · exact st_nil (.tmp 11) rfl _ ((at_dst 3 (by kernel_rfl)).trans (hdep 3 (by simp) (by kernel_rfl))) (hK _ _ (Below.refl _ _) rfl)
        · exact wp_field (.tmp 12) rfl _ _ ((at_dst 4 (by kernel_rfl)).trans (hdep 4 (by simp) (by kernel_rfl))) (fld_72 g _) (hK _ _ (Below.refl _ _) rfl)
        · exact wp_load1 (.tmp 13) rfl ⟨g, 72, none⟩ ((at_dst 5 (by kernel_rfl)).trans (hdep 5 (by simp) (by kernel_rfl))) Tryd.underlying3 rfl _ ((Blk.cell (XK.out w' (G9.out w' hgr)) 72).trans (hcells_n SLH.out BLH.out)) (hK _ _ (Below.refl _ _) rfl)
        · exact wp_bin (.tmp 14) (.const (.int .i64 64)) rfl _ _ _ ((at_dst 6 (by kernel_rfl)).trans (hdep 6 (by simp) (by kernel_rfl))) rfl ((b_rem _ _ _ _ _ (by omega) (by have := NKB.out; omega) (by decide)).trans (by rw [R9.out])) (hK _ _ (Below.refl _ _) rfl)
        · exact wp_slice (.tmp 10) rfl _ _ (some (.int .i64 (r : Int))) none none ((at_dst 2 (by kernel_rfl)).trans (hdep 2 (by simp) (by kernel_rfl))) (congrArg some ((at_dst 7 (by kernel_rfl)).trans (hdep 7 (by simp) (by kernel_rfl)))) rfl rfl (cut_blk g r r64 _) (hK _ _ (Below.refl _ _) rfl)
        · exact wp_move (.tmp 1) rfl _ (at_out _ (by kernel_rfl) rfl) (hK _ _ (Below.refl _ _) rfl)
      · intro vals w' hgr hG
        have GW := G9.out w' hgr
        refine st_copy (.tmp 16) (.tmp 17) rfl _ _ ((at_dst 8 (by kernel_rfl)).trans (hG 8 (by simp))) ((at_dst 9 (by kernel_rfl)).trans (hG 9 (by simp))) _ _ (CR.out w' GW) ?_
        refine wpAnyH_next 11 _ rfl rfl (by kernel_rfl) (st_assign (.tmp 18) _ rfl (put_tmps_eq (fill_size _ _ _) (by kernel_rfl)) ⟨trivial, wpAnyH_done (by kernel_rfl) ?_ _⟩)
        have K1 : Hid (Hsh (w'.setRow g (hcells S Bk2 Nk)) g S Bk2 Nk) := Lib.hid (hsh_setRow (XK.out w' GW))
        have W1 : Hid (wr.grownBy (w'.setRow g (hcells S Bk2 Nk)) (some g)) := Lib.hid ((GW.but (some g)).trans (grown_setRow _ _ _))
        clear hG hgr GW XK CR
        simp only [fill, dstAt, List.getElem?_cons_zero, List.getElem?_cons_succ, Option.bind_some, Act.put, List.setIfInBounds_toArray, List.set_cons_zero, List.set_cons_succ]
        generalize w'.setRow g (hcells S Bk2 Nk) = w1 at *
        generalize vals 0 = z0, vals 1 = z1, vals 2 = z2, vals 3 = z3, vals 4 = z4, vals 5 = z5, vals 6 = z6, vals 7 = z7, vals 8 = z8, vals 9 = z9 at *
        have n72 : w1.cell? ⟨g, 72, none⟩ = some (.int .i64 (Nk : Int)) := (Blk.cell K1.out 72).trans (hcells_n SLH.out B2LH.out)
        have fz : w1.frozen? ⟨g, 72, none⟩ = false := Blk.frozen K1.out 72
        have K2 : Hid (Hsh (w1.setCell ⟨g, 72, none⟩ (.int .i64 (N2 : Int))) g S Bk2 N2) := Lib.hid (by
          have := Blk.put K1.out 72 (.int .i64 (N2 : Int))
          rw [hcells_setn SLH.out B2LH.out] at this
          exact this)
        have W2 : Hid (wr.grownBy (w1.setCell ⟨g, 72, none⟩ (.int .i64 (N2 : Int))) (some g)) := Lib.hid (W1.out.trans (grown_setCell _ _ _ _))
        have NB : N2 ≤ 8796093022208 := by have := NN.out; have := NKB.out; omega
        by_cases hf : r + m = 64
        · have f3 : (N2 : Int).tmod 64 = 0 := by
            have := RN.out
            rw [Int.tmod_eq_emod_of_nonneg (by omega)]; omega
          have ST := Lib.hid (MS.out hf)
          have RD := Lib.hid (round_len S Bk2)
          clear K1 W1 LS MS hf
          have NG := NGH.out
          go_wp2_with fail
          have K3 := K2
          generalize w1.setCell ⟨g, 72, none⟩ (.int .i64 (N2 : Int)) = w2 at *
          have BB : ints Bk2 = (ints Bk2) := rfl
          have HB2 : Hid (∀ W : World, Below w2.heap.size w2 W → Holds W (g + 1) (some ⟨g, 8, none⟩) 64 64 (ints Bk2)) := Lib.hid fun W hW => by
            refine ⟨by simp [ints, B2LH.out], Nat.le_refl _, by simp [maxLen], fun z hz => ints_in B2B.out z hz, fun _ => ⟨g, 8, rfl, by omega, fun j z hz => ?_⟩⟩
            have hj : j < 64 := by
              have := (List.getElem?_eq_some_iff.1 hz).1
              rw [show (ints Bk2).length = 64 by simp [ints, B2LH.out]] at this
              exact this
            rw [Blk.cell (K3.out.up hW) (8 + j), hcells_b SLH.out B2LH.out hj]
            congr 2
            rw [← ints_getD, List.getD_eq_getElem?_getD, hz]
            rfl
          have AF : Hid (∀ W : World, Below w2.heap.size w2 W → Calls Tryd.prog 60 #[.agg (ucells S), .slice (some ⟨g, 8, none⟩) 64 64] W fun e w' => e = .returned (.agg (ucells (round S Bk2))) ∧ Below W.heap.size W w') := Lib.hid fun W hW => by
            have q := after_no S SLH.out SM.out (some ⟨g, 8, none⟩) 64 (ints Bk2) W (g + 1) (HB2.out W hW) (Nat.succ_le_of_lt (Blk.lt (K3.out.up hW))) (TG.out W (W2.out.trans (grown_of _ hW (Nat.le_refl _))))
            rwa [nats_ints] at q
          have GD : Hid (∀ W : World, Below w2.drew.heap.size w2.drew W → Below w2.heap.size w2 W) := Lib.hid fun W hW => (below_drewN (Below.refl w2.heap.size w2) 1).trans hW
          clear K2
          refine wp_region_free [0, 1, 2, 3, 4, 5, 6, 7, 8, 9] 10 [11, 12] (fun w1 w2 => Below w1.heap.size w1 w2) (fun k' w' v => match k' with
            | 0 => v = .pointer (some ⟨g, 0, none⟩)
            | 1 => v = .pointer (some ⟨g, 0, none⟩)
            | 2 => v = .pointer (some ⟨g, 0, none⟩)
            | 3 => v = .pointer (some ⟨g, 0, none⟩)
            | 4 => v = .agg (ucells S)
            | 5 => v = .pointer (some ⟨g, 0, none⟩)
            | 6 => v = .pointer (some ⟨g, 0, none⟩)
            | 7 => v = .pointer (some ⟨g, 8, none⟩)
            | 8 => v = .slice (some ⟨g, 8, none⟩) 64 64
            | _ => v = .agg (ucells (round S Bk2))) (by kernel_rfl) (by kernel_rfl) (Below.refl _ _) (fun _ _ _ h k => h.trans (k.mono h.size)) (fun k' w1 w2 v h => match k' with
            | 0 => fun x => x
            | 1 => fun x => x
            | 2 => fun x => x
            | 3 => fun x => x
            | 4 => fun x => x
            | 5 => fun x => x
            | 6 => fun x => x
            | 7 => fun x => x
            | 8 => fun x => x
            | _ + 9 => fun x => x) (fun _ _ _ _ _ h => h) ?_ _ (by rfl) ?_
          · refine obs_cons (by rfl) (fun vals w' hgr hdep K hK => ?_) (obs_cons (by rfl) (fun vals w' hgr hdep K hK => ?_) (obs_cons (by rfl) (fun vals w' hgr hdep K hK => ?_) (obs_cons (by rfl) (fun vals w' hgr hdep K hK => ?_) (obs_cons (by rfl) (fun vals w' hgr hdep K hK => ?_) (obs_cons (by rfl) (fun vals w' hgr hdep K hK => ?_) (obs_cons (by rfl) (fun vals w' hgr hdep K hK => ?_) (obs_cons (by rfl) (fun vals w' hgr hdep K hK => ?_) (obs_cons (by rfl) (fun vals w' hgr hdep K hK => ?_) (obs_cons (by rfl) (fun vals w' hgr hdep K hK => ?_) (obs_nil))))))))))
            · exact wp_move (.tmp 0) rfl _ (at_out _ (by kernel_rfl) rfl) (hK _ _ (Below.refl _ _) rfl)
            · exact wp_move (.tmp 0) rfl _ (at_out _ (by kernel_rfl) rfl) (hK _ _ (Below.refl _ _) rfl)
            · exact st_nil (.tmp 37) rfl _ ((at_dst 1 (by kernel_rfl)).trans (hdep 1 (by simp) (by kernel_rfl))) (hK _ _ (Below.refl _ _) rfl)
            · exact wp_field (.tmp 38) rfl _ _ ((at_dst 2 (by kernel_rfl)).trans (hdep 2 (by simp) (by kernel_rfl))) (fld_0 g _) (hK _ _ (Below.refl _ _) rfl)
            · exact st_load_state (.tmp 39) rfl g N2 S Bk2 ((at_dst 3 (by kernel_rfl)).trans (hdep 3 (by simp) (by kernel_rfl))) SLH.out (K3.out.up (GD.out w' hgr)) (hK _ _ (Below.refl _ _) rfl)
            · exact wp_move (.tmp 0) rfl _ (at_out _ (by kernel_rfl) rfl) (hK _ _ (Below.refl _ _) rfl)
            · exact st_nil (.tmp 41) rfl _ ((at_dst 5 (by kernel_rfl)).trans (hdep 5 (by simp) (by kernel_rfl))) (hK _ _ (Below.refl _ _) rfl)
            · exact wp_field (.tmp 42) rfl _ _ ((at_dst 6 (by kernel_rfl)).trans (hdep 6 (by simp) (by kernel_rfl))) (fld_8 g _) (hK _ _ (Below.refl _ _) rfl)
            · exact wp_slice (.tmp 43) rfl _ _ none none none ((at_dst 7 (by kernel_rfl)).trans (hdep 7 (by simp) (by kernel_rfl))) rfl rfl rfl (cut_all g _) (hK _ _ (Below.refl _ _) rfl)
            · have eq4 : vals 4 = .agg (ucells S) := hdep 4 (by simp) (by kernel_rfl)
              have eq8 : vals 8 = .slice (some ⟨g, 8, none⟩) 64 64 := hdep 8 (by simp) (by kernel_rfl)
              exact wp_call 60 [.tmp 40, .tmp 44] _ rfl ent_after [.agg (ucells S), .slice (some ⟨g, 8, none⟩) 64 64] (two_args ((at_dst 4 (by kernel_rfl)).trans eq4) ((at_dst 8 (by kernel_rfl)).trans eq8)) (fun v w'' => v = .agg (ucells (round S Bk2)) ∧ Below w'.heap.size w' w'') ((AF.out w' (GD.out w' hgr)).mono fun e w'' ⟨h1, h2⟩ => ⟨_, h1, rfl, h2⟩) (fun v w'' ⟨h1, h2⟩ => hK v _ h2 h1)
          · intro vals w' hgr hG
            refine st_nil (.tmp 36) rfl _ ((at_dst 0 (by kernel_rfl)).trans (hG 0 (by simp))) ?_
            have W8 := K3.out.up (GD.out w' hgr)
            refine wpAnyH_next 11 _ rfl rfl (by kernel_rfl) (wp_field (.tmp 46) rfl _ _ (put_tmps_eq (fill_size _ _ _) (by kernel_rfl)) (fld_0 g _) ⟨trivial, ?_⟩)
            refine wpAnyH_next 12 _ rfl rfl (by kernel_rfl) (st_store_state (.tmp 47) (.tmp 45) rfl g N2 S Bk2 (round S Bk2) (put_tmps_eq (put_size (fill_size _ _ _)) (by kernel_rfl)) (put_tmps_ne (by rfl) (put_tmps_ne (by rfl) ((at_dst 9 (by kernel_rfl)).trans (hG 9 (by simp))))) SLH.out RD.out W8 ⟨trivial, wpAnyH_done (by kernel_rfl) ?_ _⟩)
            have K5 : Hid (Hsh (w'.setRow g (hcells (round S Bk2) Bk2 N2)) g (round S Bk2) Bk2 N2) := Lib.hid (hsh_setRow W8)
            have W5 : Hid (wr.grownBy (w'.setRow g (hcells (round S Bk2) Bk2 N2)) (some g)) := Lib.hid ((W2.out.trans (grown_of _ (GD.out w' hgr) (Nat.le_refl _))).trans (grown_setRow _ _ _))
            clear hG hgr W8 K3 W2 AF HB2 GD
            simp only [fill, dstAt, List.getElem?_cons_zero, List.getElem?_cons_succ, Option.bind_some, Act.put, List.setIfInBounds_toArray, List.set_cons_zero, List.set_cons_succ]
            generalize w'.setRow g (hcells (round S Bk2) Bk2 N2) = w5 at *
            generalize vals 0 = y0, vals 1 = y1, vals 2 = y2, vals 3 = y3, vals 4 = y4, vals 5 = y5, vals 6 = y6, vals 7 = y7, vals 8 = y8, vals 9 = y9 at *
            go_wp2_with fail
            go_roundw
            case rel => exact ⟨k + m, _, n2, c' - m, rfl, kn, Lib.hid (Z.out w5 W5.out), ZO, Lib.hid (by rw [← LX.out]; exact ⟨_, Bk2, by rw [N2L.out]; exact K5.out, ST.out⟩), Lib.hid (TG.out w5 W5.out), Lib.hid (HG.out.trans W5.out)⟩
            case measure => simp only [lenOf]; exact nm
        · obtain ⟨t, ht⟩ : ∃ t, t = N2 % 64 := ⟨_, rfl⟩
          have t0 : 0 < t := by have := RN.out; omega
          have f3 : (N2 : Int).tmod 64 = (t : Int) := by rw [Int.tmod_eq_emod_of_nonneg (by omega)]; omega
          have f4 : ((t : Int) == 0) = false := by rw [beq_eq_false_iff_ne]; omega
          clear ht
          have ST := Lib.hid (LS.out (by omega))
          have NG := NGH.out
          clear K1 W1 LS MS hf RN
          go_wp2_with fail
          generalize w1.setCell ⟨g, 72, none⟩ (.int .i64 (N2 : Int)) = w2 at *
          go_roundw
          case rel => exact ⟨k + m, _, n2, c' - m, rfl, kn, Lib.hid (Z.out w2 W2.out), ZO, Lib.hid (by rw [← LX.out]; exact ⟨S, Bk2, by rw [N2L.out]; exact K2.out, ST.out⟩), Lib.hid (TG.out w2 W2.out), Lib.hid (HG.out.trans W2.out)⟩
          case measure => simp only [lenOf]; exact nm
end Go.Proofs.YtdnkbefpbehllaaDoor.Dig7

/- The contract of the code: what follows a message. -/
set_option linter.unusedVariables false
namespace Go.Proofs.YtdnkbefpbehllaaDoor.Dig8
open Go.RowKit Go.PlainAid Go.Proofs.YtdnkbefpbehllaaDoor.Sums Go.Proofs.YtdnkbefpbehllaaDoor.Mem Go.Proofs.YtdnkbefpbehllaaDoor.Blk Go.Proofs.YtdnkbefpbehllaaDoor.Bits3 Go.Proofs.YtdnkbefpbehllaaDoor.Ints Go.Proofs.YtdnkbefpbehllaaDoor.ShaD Go.Proofs.YtdnkbefpbehllaaDoor.Dig1 Go.Proofs.YtdnkbefpbehllaaDoor.Dig7

theorem make_lc (a c : Nat) (ha : a ≤ c) (hc : c ≤ 1048576) (w : World) :
    (Instr.makeSlice 25 (.int .i64 (a : Int)) (.int .i64 (c : Int))).run Tryd.prog w = .ok (.slice (some ⟨w.heap.size, 0, none⟩) a c) (w.alloc (.cells (bcells (List.replicate c 0)) 5)) := by
  obtain ⟨i, hi, hz, hsz, hby⟩ := info_parts byte_info
  have hr := run_make (P := Tryd.prog) w 25 5 i (.int .u8 0) Tryd.underlying25 hi hz .i64 .i64 (a : Int) (c : Int) (by omega) (by omega) (by rw [hby]; omega) (by omega)
  rw [Int.toNat_natCast, Int.toNat_natCast, hsz, Nat.mul_one] at hr
  rw [← made_b]
  exact hr
theorem owns_lc (w : World) (base a c : Nat) (hb : base ≤ w.heap.size) (ha : a ≤ c) (hc : c ≤ 1048576) : Owns (w.alloc (.cells (bcells (List.replicate c 0)) 5)) base (.slice (some ⟨w.heap.size, 0, none⟩) a c) a (ints (List.replicate a 0)) :=
  ⟨by simp [ints], fun z hz => ints_in (fun x hx => by rw [List.eq_of_mem_replicate hx]; decide) z hz, .inr ⟨w.heap.size, c, bcells (List.replicate c 0), (0, 0), rfl, hb, heap_alloc_new w _, .inl rfl, ha, by simp only [maxLen]; omega, by simp [bcells], by
    simp only [bcells, ints, List.map_replicate, List.take_replicate]
    rw [Nat.min_eq_left ha]⟩⟩
/-- Eight bytes of a number. -/
def e8 (m : Nat) : List Nat := (List.range 8).map fun j => m / 2 ^ (56 - 8 * j) % 256
theorem e8_four {m : Nat} (h : m < 72057594037927936) : e8 m = four (m / M) ++ four (m % M) := by
  have e : e8 m = [m / 2 ^ 56 % 256, m / 2 ^ 48 % 256, m / 2 ^ 40 % 256, m / 2 ^ 32 % 256, m / 2 ^ 24 % 256, m / 2 ^ 16 % 256, m / 2 ^ 8 % 256, m / 2 ^ 0 % 256] := rfl
  rw [e]
  simp only [four, M, List.cons_append, List.nil_append, List.cons.injEq, and_true]
  simp only [Nat.reducePow, Nat.div_one]
  refine ⟨?_, ?_, ?_, ?_, ?_, ?_, ?_, ?_⟩ <;> first | omega | trivial
theorem e8_take {m j : Nat} (h : j < 8) : (e8 m).take (j + 1) = (e8 m).take j ++ [m / 2 ^ (56 - 8 * j) % 256] := by
  rw [List.take_add_one]
  congr 1
  unfold e8
  rw [List.getElem?_map, List.getElem?_range h]
  rfl
/-- What follows n bytes. -/
def padL (n : Nat) : List Nat := 128 :: (List.replicate (zeros n) 0 ++ (four (8 * n / M) ++ four (8 * n % M)))
theorem pad_padL (b : List Nat) : pad b = b ++ padL b.length := rfl
def padB (n j : Nat) : List Nat := 128 :: (List.replicate (zeros n) 0 ++ (e8 (8 * n)).take j)
theorem padB_next {n j : Nat} (h : j < 8) : padB n (j + 1) = padB n j ++ [8 * n / 2 ^ (56 - 8 * j) % 256] := by
  unfold padB
  rw [e8_take h]
  simp
theorem padB_all {n : Nat} (h : n < 1099511627776) : padB n 8 = padL n := by
  unfold padB padL
  rw [← e8_four (by omega), List.take_of_length_le (by simp [e8])]
theorem padB_zero (n : Nat) : padB n 0 = (List.replicate (zeros n + 1) 0).set 0 128 := by
  unfold padB
  rw [List.replicate_succ]
  simp
theorem padL_len (n : Nat) : (padL n).length = zeros n + 9 := by simp [padL, four]
theorem padL_byt {n : Nat} (h : n < 1099511627776) : ∀ x ∈ padL n, x < 256 := by
  rw [← padB_all h]
  intro x hx
  unfold padB at hx
  rcases List.mem_cons.1 hx with rfl | q
  · decide
  · rcases List.mem_append.1 q with q | q
    · rw [List.eq_of_mem_replicate q]; decide
    · obtain ⟨i, _, rfl⟩ := List.mem_map.1 (List.mem_of_mem_take q)
      exact Nat.mod_lt _ (by decide)
theorem ints_one (l : List Nat) (x : Nat) : ints (l ++ [x]) = ints l ++ [(x : Int)] := by simp [ints]

set_option maxHeartbeats 1000000 in
theorem padding_no (n : Nat) (hn : n < 1099511627776) (w : World) :
    Calls Tryd.prog 51 #[.int .i64 (n : Int)] w fun e w' => ∃ v, e = .returned v ∧ Owns w' w.heap.size v (zeros n + 9) (ints (padL n)) ∧ Below w.heap.size w w' := by
  obtain ⟨a, ha⟩ : ∃ a, a = zeros n + 1 := ⟨_, rfl⟩
  obtain ⟨q, hq⟩ : ∃ q, q = (n + 72) / 64 := ⟨_, rfl⟩
  obtain ⟨wh, hwh⟩ : ∃ wh, wh = q * 64 := ⟨_, rfl⟩
  obtain ⟨c, hc⟩ : ∃ c, c = wh - n := ⟨_, rfl⟩
  have zb : zeros n < 64 := by unfold zeros; omega
  have ca : c = a + 8 := by rw [hc, ha, hwh, hq]; unfold zeros; omega
  have f3 : IntKind.i64.wrap ((n : Int) + 1 + 8 + 64) = (n : Int) + 1 + 8 + 64 := IntWalk.i64_in _ (by omega)
  have f4 : IntKind.i64.wrap ((n : Int) + 1 + 8 + 64 - 1) = (n : Int) + 1 + 8 + 64 - 1 := IntWalk.i64_in _ (by omega)
  have f5 : ((n : Int) + 1 + 8 + 64 - 1).tdiv 64 = (q : Int) := by rw [Int.tdiv_eq_ediv_of_nonneg (by omega)]; omega
  have f6 : IntKind.i64.wrap (q : Int) = (q : Int) := IntWalk.i64_in _ (by omega)
  have f7 : IntKind.i64.wrap ((q : Int) * 64) = (wh : Int) := by rw [IntWalk.i64_in _ (by omega)]; omega
  have f8 : IntKind.i64.wrap ((wh : Int) - (n : Int)) = (c : Int) := by rw [IntWalk.i64_in _ (by omega)]; omega
  have f9 : IntKind.i64.wrap ((c : Int) - 8) = (a : Int) := by rw [IntWalk.i64_in _ (by omega)]; omega
  have mk := make_lc a c (by omega) (by omega)
  have O0 := owns_lc w w.heap.size a c (Nat.le_refl _) (by omega) (by omega)
  have B0 : Below w.heap.size w (w.alloc (.cells (bcells (List.replicate c 0)) 5)) := (Below.refl _ _).alloc (Nat.le_refl _) _
  obtain ⟨u, hu⟩ := O0.there 0 (by omega)
  have fz := O0.free 0 (by omega)
  have O1 : Hid (Owns ((w.alloc (.cells (bcells (List.replicate c 0)) 5)).setCell ⟨w.heap.size, 0, none⟩ (.int .u8 128)) w.heap.size (.slice (some ⟨w.heap.size, 0, none⟩) a c) a (ints (padB n 0))) := Lib.hid (by
    have := O0.set 0 128 (by decide) (by decide)
    rw [padB_zero, ← ha]
    simpa [ints, List.map_set] using this)
  have B1 : Hid (Below w.heap.size w ((w.alloc (.cells (bcells (List.replicate c 0)) 5)).setCell ⟨w.heap.size, 0, none⟩ (.int .u8 128))) := Lib.hid (B0.setCell (p := ⟨w.heap.size, 0, none⟩) (Nat.le_refl _) _)
  generalize bcells (List.replicate c 0) = Z at *
  have WE : (w.alloc (.cells Z 5)).setCell ⟨w.heap.size, 0, none⟩ (.int .u8 128) = w.alloc (.cells (Z.setIfInBounds 0 (.int .u8 128)) 5) := World.setCell_alloc_at _ _ _ _ _ rfl
  rw [WE] at O1 B1
  clear WE
  have AH := Lib.hid ha
  have apos : 0 < a := by omega
  have al : a ≤ 64 := by omega
  have PA := Lib.hid (padB_all hn)
  have PN := Lib.hid (fun j (h : j < 8) => padB_next (n := n) h)
  obtain ⟨m8, hm8⟩ : ∃ m8, m8 = 8 * n := ⟨_, rfl⟩
  have f10 : IntKind.i64.wrap (8 * (n : Int)) = (m8 : Int) := by rw [IntWalk.i64_in _ (by omega)]; omega
  rw [← hm8] at PN
  have mb : m8 < 8796093022208 := by omega
  clear ha hq hwh hc ca zb O0 B0 hm8
  go_enter Tryd.func51, Tryd.ntmps51
  go_wp2_with fail
  clear f3 f4 f5 f6 f7 f8 f9 mk hu fz
  generalize w.alloc (.cells (Z.setIfInBounds 0 (.int .u8 128)) 5) = w1 at *
  go_loopw [4, 5] (fun bv kv wr => ∃ j : Nat, kv = .int .i64 (56 - 8 * (j : Int)) ∧ j ≤ 8 ∧ Hid (Owns wr w.heap.size bv (a + j) (ints (padB n j))) ∧ Hid (Below w.heap.size w wr)) (fun _ kv _ => (intOf kv + 8).toNat)
  case atStart => exact ⟨0, by first | rfl | go_num, by omega, O1, B1⟩
  case round =>
    obtain ⟨j, rfl, hj, HO, HB⟩ := hrel
    clear O1 B1
    by_cases hlt : j < 8
    · obtain ⟨s, hs⟩ : ∃ s, s = 56 - 8 * j := ⟨_, rfl⟩
      have e0 : 56 - 8 * (j : Int) = (s : Int) := by omega
      rw [e0]
      have s1 : (s : Int) ≤ 64 := by omega
      have s0 : (0 : Int) ≤ (s : Int) := by omega
      have PJ := PN.out j hlt
      rw [← hs] at PJ
      have e1 : (m8 : Int) / 2 ^ s = ((m8 / 2 ^ s : Nat) : Int) := by simp
      have e2 : IntKind.u8.wrap ((m8 / 2 ^ s : Nat) : Int) = ((m8 / 2 ^ s % 256 : Nat) : Int) := by rw [IntKind.wrap_u8]; omega
      have y1 : m8 / 2 ^ s % 256 < 256 := Nat.mod_lt _ (by decide)
      obtain ⟨x, hx⟩ : ∃ x, x = m8 / 2 ^ s := ⟨_, rfl⟩
      rw [← hx] at e1 e2 PJ y1
      obtain ⟨y, hy⟩ : ∃ y, y = x % 256 := ⟨_, rfl⟩
      rw [← hy] at e2 PJ y1
      have PJH := Lib.hid PJ
      have f11 : IntKind.i64.wrap ((s : Int) - 8) = (s : Int) - 8 := IntWalk.i64_in _ (by omega)
      have e3 : (s : Int) - 8 = 56 - 8 * ((j + 1 : Nat) : Int) := by omega
      have zb : Bytes [(y : Int)] := fun z hz => by simp at hz; omega
      have HBS := HB.out.size
      have MM : Hid (((s : Int) - 8 + 8).toNat < ((s : Int) + 8).toNat) := Lib.hid (by omega)
      have E3 := Lib.hid e3
      clear hs e0 PJ hx hy e3
      go_wp2_with (at_builtin
                   refine wpList_append_bytes rfl (.tmp 27) (.tmp 33) rfl w.heap.size _ (a + j) _ rfl (HO.out.alloc _) _ _ 1 1 [(y : Int)] rfl (Holds.lit wr [(y : Int)] _ rfl (by simp [maxLen]) zb) (by omega) (by simp; omega) ?_
                   intro v1 w9 o9 g9 hat9)
      have OX : Hid (Owns w9 w.heap.size v1 (a + j + 1) (ints (padB n (j + 1)))) := Lib.hid (by rw [PJH.out, ints_one]; exact o9)
      have BX := Lib.hid ((HB.out.alloc HBS _).grown g9 (by simp; omega) fun g hg => (HO.out.lt g hg).1)
      clear o9 g9 hat9 HO HB HBS
      go_roundw
      case rel => exact ⟨j + 1, by rw [E3.out], by omega, OX, BX⟩
      case measure => simp only [intOf]; exact MM.out
    · obtain rfl : j = 8 := by omega
      have OF : Hid (Owns wr w.heap.size _ (zeros n + 9) (ints (padL n))) := Lib.hid (by
        have := HO.out
        rw [PA.out, AH.out] at this
        exact this)
      have BF := HB
      rw [show (56 : Int) - 8 * ((8 : Nat) : Int) = -8 from rfl]
      clear HO HB
      go_wp2_with fail
      go_ret
      exact ⟨_, rfl, OF.out, BF.out⟩
end Go.Proofs.YtdnkbefpbehllaaDoor.Dig8

/- The contract of the code's Of. -/
set_option linter.unusedVariables false
namespace Go.Proofs.YtdnkbefpbehllaaDoor.Dig9
open Go.RowKit Go.PlainAid Go.Proofs.YtdnkbefpbehllaaDoor.Sums Go.Proofs.YtdnkbefpbehllaaDoor.Mem Go.Proofs.YtdnkbefpbehllaaDoor.Blk Go.Proofs.YtdnkbefpbehllaaDoor.Bits3 Go.Proofs.YtdnkbefpbehllaaDoor.Ints Go.Proofs.YtdnkbefpbehllaaDoor.Both Go.Proofs.YtdnkbefpbehllaaDoor.ShaD Go.Proofs.YtdnkbefpbehllaaDoor.ShaO Go.Proofs.YtdnkbefpbehllaaDoor.Dig1 Go.Proofs.YtdnkbefpbehllaaDoor.OpsU Go.Proofs.YtdnkbefpbehllaaDoor.Dig2 Go.Proofs.YtdnkbefpbehllaaDoor.Dig3 Go.Proofs.YtdnkbefpbehllaaDoor.Dig6 Go.Proofs.YtdnkbefpbehllaaDoor.Dig7 Go.Proofs.YtdnkbefpbehllaaDoor.Dig8

theorem wpList_load_state {ops : Array Oper} {rest : List Oper} {o : Oper} {a : Act} {w : World} {Q : Exit → Act → World → Prop} (hgd : o.guard = none) (x : Operand) (ho : o.op = .load 96 x)
    (g N : Nat) (S Bk : List Nat) (hx : a.eval x = .pointer (some ⟨g, 0, none⟩)) (hS : S.length = 8) (hh : Hsh w g S Bk N)
    (h : wpList Tryd.prog ops Q rest (a.put o.dst (.agg (ucells S))) w) : wpList Tryd.prog ops Q (o :: rest) a w :=
  wpList_plain hgd fun _ hK => by
    unfold Oper.wp execOp
    simp only [ho, hx, Instr.loadAt, Instr.sureAddr, Sem.run_bind, Sem.run_pure, Result.andThen_ok, load_state w g N S Bk hS hh]
    exact hK _ _ h
theorem nats_app (a b : List Int) : nats (a ++ b) = nats a ++ nats b := by simp [nats]
theorem rows_byt {w : World} {B b : Nat} {rs : List Row} (h : All w B b rs) : Bytes (flat rs) := by
  have : ∀ r ∈ rs, Bytes r.l := fun r hr => by
    obtain ⟨k, hk⟩ := List.getElem?_of_mem hr
    exact (h.2 k r hk).2.2.2.2.1
  clear h
  induction rs with
  | nil => intro z hz; simp [flat] at hz
  | cons r rs ih =>
    intro z hz
    have : z ∈ r.l ++ flat rs := hz
    rcases List.mem_append.1 this with q | q
    · exact (by assumption : ∀ r' ∈ r :: rs, Bytes r'.l) r (by simp) z q
    · exact ih (fun r' hr' => (by assumption : ∀ r' ∈ r :: rs, Bytes r'.l) r' (by simp [hr'])) z q
/-- The rows that a slice of slices holds; none at all, too. -/
def Parts (w : World) (B : Nat) (A : Option Addr) (rs : List Row) : Prop := rs = [] ∨ ∃ b, A = some ⟨b, 0, none⟩ ∧ All w B b rs
theorem final_of {L S Bk : List Nat} (h : Hst (pad L) S Bk) : S = final L := by
  have q := pad_len L
  exact h.done q.1
theorem flat4_len {S : List Nat} (h : S.length = 8) : (S.flatMap four).length = 32 := by
  obtain ⟨a, b, c, d, e, f, g, i, rfl⟩ := Dig4.eight h
  rfl

set_option maxHeartbeats 2000000 in
set_option maxRecDepth 100000 in
theorem of_no (A : Option Addr) (m c : Nat) (rs : List Row) (w : World) (B : Nat) (hP : Parts w B A rs) (hm : rs.length = m) (hB : B ≤ w.heap.size) (hm2 : m ≤ 1000000) (hl : (flat rs).length = total rs) (ht : total rs ≤ 1048576) (hT : Tab w) :
    Calls Tryd.prog 44 #[.slice A m c] w fun e w' => ∃ v, e = .returned v ∧ Owns w' w.heap.size v 32 (ints (digest (nats (flat rs)))) ∧ Below w.heap.size w w' := by
  have hz := zero_h
  obtain ⟨cZ, hcZ⟩ : ∃ cZ, cZ = hcells (List.replicate 8 0) (List.replicate 64 0) 0 := ⟨_, rfl⟩
  have SZ : cZ.size = 73 := by rw [hcZ, hcells_size, List.length_replicate, List.length_replicate]
  have HZ : (cZ = #[]) = False := eq_false fun e => by rw [e] at SZ; simp at SZ
  rw [← hcZ] at hz
  obtain ⟨cS, hcS⟩ : ∃ cS, cS = hcells ShaD.start (List.replicate 64 0) 0 := ⟨_, rfl⟩
  have CS := Lib.hid hcS
  have S1 : cS.size = 73 := by rw [hcS, hcells_size, Dig6.start_len, List.length_replicate]
  have one : cS.all (·.oneCell') = true := by rw [hcS]; exact hcells_one _ _ _
  have C := Lib.hid (started_no w hT)
  rw [← hcS] at C
  have HP := Lib.hid hP
  have HM := Lib.hid hm
  have HT := Lib.hid hT
  have FL := Lib.hid hl
  clear hcS hcZ hP hm hT hl
  go_enter Tryd.func44, Tryd.ntmps44
  go_wp2_with fail
  refine C.out.mono ?_
  rintro e w1 ⟨rfl, hb⟩
  have B1 := Lib.hid hb
  have BZ : Blk (w1.alloc (.cells cZ 98)) w1.heap.size 98 cZ := Blk.new w1 _ _
  have B2 : Hid (Below w.heap.size w ((w1.alloc (.cells cZ 98)).setRow w1.heap.size cS)) := Lib.hid (below_setRow (hb.alloc hb.size _) hb.size)
  have H2 : Hid (Has ((w1.alloc (.cells cZ 98)).setRow w1.heap.size cS) w1.heap.size (nats (flat (rs.take 0)))) := Lib.hid ⟨ShaD.start, List.replicate 64 0, by
    show Hsh _ _ _ _ (nats []).length
    unfold Hsh
    rw [show (nats []).length = 0 from rfl, ← CS.out]
    exact setRow_heap _ _ _ _ _ _ BZ, Hst.start⟩
  have GS := Lib.hid hb.size
  unfold Blk at BZ
  clear hb C B1
  go_wp2_with (first
    | (refine wpList_store_row rfl _ _ _ rfl w1.heap.size cS rfl rfl 98 _ BZ (by rw [S1]; kernel_rfl) (by rw [S1, SZ]) one ?_))
  clear hz HZ SZ S1 one CS BZ
  generalize (w1.alloc (.cells cZ 98)).setRow w1.heap.size cS = w2 at *
  obtain ⟨g, hg⟩ : ∃ g, g = w1.heap.size := ⟨_, rfl⟩
  rw [← hg] at H2 GS ⊢
  clear hg
  have G2 := Lib.hid (World.grownBy.refl w2 (some g))
  have TL : Hid ((0 : Nat) < g) := Lib.hid (Nat.lt_of_lt_of_le HT.out.lt GS.out)
  have T2 : Hid (∀ W : World, w2.grownBy W (some g) → Tab W) := Lib.hid fun W hW => by
    obtain ⟨t, fr, q⟩ := HT.out.up B2.out
    exact ⟨t, fr, (hW.block _ (HT.out.up B2.out).lt (fun e => by have := TL.out; injection e with e; omega)).trans q⟩
  have B3 : Hid (∀ W : World, w2.grownBy W (some g) → Below w.heap.size w W) := Lib.hid fun W hW => B2.out.grown hW B2.out.size fun j e => by have := GS.out; injection e with e; omega
  go_loopw [12] (fun kv wr => ∃ j : Nat, kv = .int .i64 (j : Int) ∧ j ≤ m ∧ Hid (Has wr g (nats (flat (rs.take j)))) ∧ Hid (w2.grownBy wr (some g))) (fun kv _ => m - (intOf kv).toNat)
  case atStart => exact ⟨0, rfl, by omega, H2, G2⟩
  case round =>
    obtain ⟨j, rfl, hj, HH, HG⟩ := hrel
    clear H2 G2
    by_cases hlt : j < m
    · obtain ⟨b, rfl, ha⟩ : ∃ b, A = some ⟨b, 0, none⟩ ∧ All w B b rs := by
        rcases HP.out with q | q
        · have := HM.out; rw [q] at this; simp at this; omega
        · exact q
      have hk' : j < rs.length := by rw [HM.out]; exact hlt
      have hr := Lib.hid (List.getElem?_eq_getElem hk')
      generalize rs[j] = r at hr
      obtain ⟨hc, hh⟩ := ha.2 j r hr.out
      have hbw := ha.1
      have hc' := ((B3.out wr HG.out).cell (p := ⟨b, j, none⟩) (by show b < w.heap.size; omega)).trans hc
      have hh' := hh.below ((B3.out wr HG.out).mono hB)
      have HF := Lib.hid (flat_take hr.out)
      have tl := total_le rs (j + 1)
      have tk := total_take hr.out
      have LL : (nats (flat (rs.take j))).length ≤ 1099511627776 := by
        rw [nats_len]
        have : (flat rs).length = (flat (rs.take j)).length + (flat (rs.drop j)).length := by
          rw [← List.length_append, ← flat_append, List.take_append_drop]
        have := FL.out
        omega
      have TK := Lib.hid (take_no g (nats (flat (rs.take j))) r.A r.n r.c r.l wr HH.out LL (by omega) (hh'.more (by have := (B3.out wr HG.out).size; omega)) (fun hn b' o' e => by
        obtain ⟨b2, o2, e2, hb2, _⟩ := hh.2.2.2.2 hn
        rw [e2] at e
        injection e with e
        injection e with e3 e4
        have := GS.out
        omega) (T2.out wr HG.out) TL.out)
      rw [← nats_app, ← HF.out] at TK
      clear hc hh hh' tl tk LL HH HF
      go_wp2_with fail
      refine TK.out.mono ?_
      rintro e w3 ⟨rfl, h3, g3⟩
      have H3 := Lib.hid h3
      have G3 := Lib.hid (HG.out.trans g3)
      clear h3 g3 TK hc'
      go_wp2_with fail
      go_roundw
      case rel => exact ⟨j + 1, by go_num, by omega, H3, G3⟩
      case measure => simp [intOf]; omega
    · obtain rfl : j = m := by omega
      have HA : Hid (Has wr g (nats (flat rs))) := Lib.hid (by
        have := HH.out
        rwa [List.take_of_length_le (by rw [HM.out]; exact Nat.le_refl _)] at this)
      obtain ⟨X, hX⟩ : ∃ X, X = nats (flat rs) := ⟨_, rfl⟩
      rw [← hX] at HA
      have XE := Lib.hid hX
      have XL : X.length ≤ 1048576 := by rw [hX, nats_len, FL.out]; exact ht
      obtain ⟨S0, Bk0, hh0, hst0⟩ := HA.out
      obtain ⟨n, hn⟩ : ∃ n, n = X.length := ⟨_, rfl⟩
      have NE := Lib.hid hn
      rw [← hn] at hh0 XL
      have k72 : wr.cell? ⟨g, 72, none⟩ = some (.int .i64 (n : Int)) := (Blk.cell hh0 72).trans (hcells_n hst0.sl hst0.len)
      have GL := Lib.hid (Blk.lt hh0)
      have PC := Lib.hid (padding_no n (by omega) wr)
      generalize wr = w3 at *
      clear hX hh0 hst0 HH hlt hj hn HP FL ht hm2
      go_wp2_with fail
      refine PC.out.mono ?_
      rintro e w4 ⟨v4, rfl, o4, hb⟩
      obtain ⟨A4, c4, rfl, h4⟩ := o4.slice
      obtain ⟨g4, rfl, hg4, _⟩ := o4.form (by omega)
      have H4 := Lib.hid (show Has w4 g X from by
        obtain ⟨S1, Bk1, q1, q2⟩ := HA.out
        exact ⟨S1, Bk1, q1.up hb, q2⟩)
      have G4 := Lib.hid (HG.out.trans (grown_of (some g) hb (Nat.le_refl _)))
      have PL : Hid (X ++ nats (ints (padL n)) = pad X) := Lib.hid (by rw [nats_ints, NE.out]; rfl)
      have zb : zeros n < 64 := by unfold zeros; omega
      have TK := Lib.hid (take_no g X _ _ _ _ w4 H4.out (by rw [← NE.out]; omega) (by omega) h4 (fun _ b' o' e => by
        injection e with e
        injection e with e3 e4
        have := GL.out
        omega) (T2.out w4 G4.out) TL.out)
      rw [PL.out] at TK
      clear o4 h4 hb k72 PC PL zb
      go_wp2_with fail
      refine TK.out.mono ?_
      rintro e w5 ⟨rfl, h5, g5⟩
      have G5 := Lib.hid (G4.out.trans g5)
      obtain ⟨S, Bk, hh, hst⟩ := h5
      have SF := Lib.hid (final_of hst)
      have S8 := hst.sl
      have SM := Lib.hid hst.sm
      have mk : ∀ W : World, (Instr.makeSlice 25 (.int .i64 0) (.int .i64 32)).run Tryd.prog W = .ok (.slice (some ⟨W.heap.size, 0, none⟩) 0 32) (W.alloc (.cells (bcells (List.replicate 32 0)) 5)) := fun W => make_lc 0 32 (by decide) (by decide) W
      have BW := Lib.hid (B3.out w5 G5.out)
      have O5 := Lib.hid (owns_lc w5 w.heap.size 0 32 BW.out.size (by decide) (by decide))
      have B5 := Lib.hid (BW.out.alloc BW.out.size (.cells (bcells (List.replicate 32 0)) 5))
      have hh2 := Blk.alloc hh (.cells (bcells (List.replicate 32 0)) 5)
      generalize bcells (List.replicate 32 0) = cM at *
      clear TK H4 G4 g5 hh hst HA HG G5 BW
      go_wp2_with (first
        | (refine wpList_load_state rfl (.tmp 24) rfl g _ S Bk rfl S8 hh2 ?_))
      clear mk hh2
      have IX := Lib.hid (fun (j : Nat) (hj : j < 8) (W : World) => run_index_u (ty := 96) Tryd.underlying96 S8 hj W)
      have SL := Lib.hid S8
      generalize ucells S = cF at *
      generalize w5.alloc (.cells cM 5) = w6 at *
      clear S8
      go_loopw [6, 26] (fun ov kv wr => ∃ (j q : Nat), kv = .int .i64 (j : Int) ∧ j ≤ 8 ∧ Hid (q = 4 * j) ∧ Hid (Owns wr w.heap.size ov q (ints ((S.take j).flatMap four))) ∧ Hid (Below w.heap.size w wr)) (fun _ kv _ => 8 - (intOf kv).toNat)
      case atStart => exact ⟨0, 0, rfl, by omega, Lib.hid rfl, O5, B5⟩
      case round =>
        obtain ⟨j, q, rfl, hj, HQ, HO, HB⟩ := hrel
        clear O5 B5
        by_cases hlt : j < 8
        · have ix := IX.out j hlt wr
          have xb := SM.out.get j
          have FN := Lib.hid (flat_next (F := S) (j := j) (by rw [SL.out]; exact hlt))
          generalize S.getD j 0 = x at *
          unfold M at xb
          have e1 : IntKind.u8.wrap ((x : Int) / 16777216) = (x : Int) / 16777216 := by rw [IntKind.wrap_u8]; omega
          have e2 : IntKind.u8.wrap ((x : Int) / 65536) = (x : Int) / 65536 % 256 := by rw [IntKind.wrap_u8]
          have e3 : IntKind.u8.wrap ((x : Int) / 256) = (x : Int) / 256 % 256 := by rw [IntKind.wrap_u8]
          have e4 : IntKind.u8.wrap (x : Int) = (x : Int) % 256 := by rw [IntKind.wrap_u8]
          have QB : q ≤ 32 := by have := HQ.out; omega
          have HQ2 : Hid (q + 4 = 4 * (j + 1)) := Lib.hid (by have := HQ.out; omega)
          have HBS := HB.out.size
          have B4 : Bytes [(x : Int) / 16777216, (x : Int) / 65536 % 256, (x : Int) / 256 % 256, (x : Int) % 256] := fun z hz => by simp at hz; omega
          have L4 := Lib.hid (Holds.lit wr [(x : Int) / 16777216, (x : Int) / 65536 % 256, (x : Int) / 256 % 256, (x : Int) % 256] #[.int .u8 ((x : Int) / 16777216), .int .u8 ((x : Int) / 65536 % 256), .int .u8 ((x : Int) / 256 % 256), .int .u8 ((x : Int) % 256)] rfl (by simp [maxLen]) B4)
          have F4 := Lib.hid (four_nat x)
          clear B4
          go_wp2_with (at_builtin
                       refine wpList_append_bytes rfl (.tmp 29) (.tmp 41) rfl w.heap.size _ q _ rfl (HO.out.alloc _) _ _ 4 4 _ rfl L4.out (by omega) (by simp; omega) ?_
                       intro v1 w9 o9 g9 hat9)
          have OX : Hid (Owns w9 w.heap.size v1 (q + 4) (ints ((S.take (j + 1)).flatMap four))) := Lib.hid (by rw [FN.out, ShaO.ints_app, ← F4.out]; exact o9)
          have BX := Lib.hid ((HB.out.alloc HBS _).grown g9 (by simp; omega) fun g hg => (HO.out.lt g hg).1)
          clear o9 g9 hat9 HO HB HBS L4
          go_roundw
          case rel => exact ⟨j + 1, q + 4, by go_num, by omega, HQ2, OX, BX⟩
          case measure => simp [intOf]; omega
        · obtain rfl : j = 8 := by omega
          have OF : Hid (Owns wr w.heap.size _ 32 (ints (digest (nats (flat rs))))) := Lib.hid (by
            have := HO.out
            rw [List.take_of_length_le (by rw [SL.out]; exact Nat.le_refl _), HQ.out, SF.out, XE.out] at this
            exact this)
          have BF := HB
          clear HO HB
          go_wp2_with fail
          go_ret
          exact ⟨_, rfl, OF.out, BF.out⟩
end Go.Proofs.YtdnkbefpbehllaaDoor.Dig9

