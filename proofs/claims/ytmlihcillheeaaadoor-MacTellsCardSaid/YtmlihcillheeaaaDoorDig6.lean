/- The code's hash: its cells; what it stands for; the contract of started. -/
import Derived.Test.YtmlihcillheeaaaDoorDig5
set_option linter.unusedVariables false
namespace Go.Proofs.YtmlihcillheeaaaDoor.Dig6
open Go.RowKit Go.PlainAid Go.Proofs.YtmlihcillheeaaaDoor.Sums Go.Proofs.YtmlihcillheeaaaDoor.Mem Go.Proofs.YtmlihcillheeaaaDoor.Blk Go.Proofs.YtmlihcillheeaaaDoor.Bits Go.Proofs.YtmlihcillheeaaaDoor.Bits3 Go.Proofs.YtmlihcillheeaaaDoor.Ints Go.Proofs.YtmlihcillheeaaaDoor.IntsO Go.Proofs.YtmlihcillheeaaaDoor.ShaD Go.Proofs.YtmlihcillheeaaaDoor.Dig1 Go.Proofs.YtmlihcillheeaaaDoor.OpsU Go.Proofs.YtmlihcillheeaaaDoor.Dig2 Go.Proofs.YtmlihcillheeaaaDoor.Dig3 Go.Proofs.YtmlihcillheeaaaDoor.Dig4 Go.Proofs.YtmlihcillheeaaaDoor.Dig5

/-! ### What a hash stands for: plain facts -/
/-- The state S and the block Bk of a hash that has taken the bytes L. -/
structure Hst (L S Bk : List Nat) : Prop where
  len : Bk.length = 64
  byt : ∀ x ∈ Bk, x < 256
  sl : S.length = 8
  sm : W32 S
  st : S = bgo (L.length / 64) ShaD.start (L.take (64 * (L.length / 64)))
  bk : Bk.take (L.length % 64) = L.drop (64 * (L.length / 64))
theorem start_len : ShaD.start.length = 8 := by decide
theorem start_lt : W32 ShaD.start := fun x hx => K_lt x (List.mem_of_mem_drop hx)
theorem Hst.start : Hst [] ShaD.start (List.replicate 64 0) := ⟨by simp, fun x hx => by rw [List.eq_of_mem_replicate hx]; decide, start_len, start_lt, rfl, rfl⟩
/-- The block after m bytes more. -/
def fit (Bk x : List Nat) (r : Nat) : List Nat := Bk.take r ++ x ++ Bk.drop (r + x.length)
theorem fit_len {Bk x : List Nat} {r : Nat} (h : Bk.length = 64) (hr : r + x.length ≤ 64) : (fit Bk x r).length = 64 := by
  unfold fit
  simp only [List.length_append, List.length_take, List.length_drop]; omega
theorem fit_byt {Bk x : List Nat} {r : Nat} (h : ∀ y ∈ Bk, y < 256) (hx : ∀ y ∈ x, y < 256) : ∀ y ∈ fit Bk x r, y < 256 := by
  intro y hy
  unfold fit at hy
  rcases List.mem_append.1 hy with q | q
  · rcases List.mem_append.1 q with q | q
    · exact h y (List.mem_of_mem_take q)
    · exact hx y q
  · exact h y (List.mem_of_mem_drop q)
theorem fit_take {Bk x : List Nat} {r : Nat} (h : Bk.length = 64) (hr : r + x.length ≤ 64) : (fit Bk x r).take (r + x.length) = Bk.take r ++ x := by
  unfold fit
  have e : (Bk.take r ++ x).length = r + x.length := by simp only [List.length_append, List.length_take]; omega
  rw [List.take_append_of_le_length (by rw [e]; exact Nat.le_refl _), List.take_of_length_le (by rw [e]; exact Nat.le_refl _)]
theorem Hst.less {L S Bk x : List Nat} (h : Hst L S Bk) (hx : ∀ y ∈ x, y < 256) (hl : L.length % 64 + x.length < 64) : Hst (L ++ x) S (fit Bk x (L.length % 64)) := by
  have d : (L ++ x).length / 64 = L.length / 64 := by rw [List.length_append]; omega
  have r : (L ++ x).length % 64 = L.length % 64 + x.length := by rw [List.length_append]; omega
  have le : 64 * (L.length / 64) ≤ L.length := by omega
  refine ⟨fit_len h.len (by omega), fit_byt h.byt hx, h.sl, h.sm, ?_, ?_⟩
  · rw [d, List.take_append_of_le_length le]
    exact h.st
  · rw [r, d, fit_take h.len (by omega), h.bk, List.drop_append_of_le_length le]
theorem Hst.more {L S Bk x : List Nat} (h : Hst L S Bk) (hx : ∀ y ∈ x, y < 256) (hl : L.length % 64 + x.length = 64) : Hst (L ++ x) (round S (fit Bk x (L.length % 64))) (fit Bk x (L.length % 64)) := by
  have d : (L ++ x).length / 64 = L.length / 64 + 1 := by rw [List.length_append]; omega
  have r : (L ++ x).length % 64 = 0 := by rw [List.length_append]; omega
  have le : 64 * (L.length / 64) ≤ L.length := by omega
  have fl := fit_len (r := L.length % 64) (x := x) h.len (by omega)
  have ft : fit Bk x (L.length % 64) = L.drop (64 * (L.length / 64)) ++ x := by
    have := fit_take (r := L.length % 64) (x := x) h.len (by omega)
    rw [hl, List.take_of_length_le (by rw [fl]; exact Nat.le_refl _), h.bk] at this
    exact this
  refine ⟨fl, fit_byt h.byt hx, round_len _ _, round_lt _ _, ?_, ?_⟩
  · have e : (L ++ x).take (64 * (L.length / 64 + 1)) = L.take (64 * (L.length / 64)) ++ fit Bk x (L.length % 64) := by
      rw [ft, List.take_of_length_le (by rw [List.length_append]; omega), ← List.append_assoc, List.take_append_drop]
    rw [d, e, bgo_app _ 1 _ _ _ (by rw [List.length_take]; omega), ← h.st]
    have one : ∀ s m, bgo 1 s m = round s (m.take 64) := fun s m => by rw [bgo, bgo]
    rw [one, List.take_of_length_le (by rw [fl]; exact Nat.le_refl _)]
  · have e : L.length + x.length = 64 * ((L ++ x).length / 64) := by rw [d]; omega
    rw [r, List.take_zero, ← e, List.drop_of_length_le (by rw [List.length_append]; exact Nat.le_refl _)]
/-- All of it, when nothing is left. -/
theorem Hst.done {L S Bk : List Nat} (h : Hst L S Bk) (hl : L.length % 64 = 0) : S = bgo (L.length / 64) ShaD.start L := by
  rw [h.st, List.take_of_length_le (by omega)]

/-! ### Its cells -/
def hcells (S Bk : List Nat) (n : Nat) : Array Value := (((S.map fun z : Nat => Value.int .u32 (z : Int)) ++ Bk.map fun z : Nat => Value.int .u8 (z : Int)) ++ [Value.int .i64 (n : Int)]).toArray
/-- The hash at block g. -/
def Hsh (w : World) (g : Nat) (S Bk : List Nat) (n : Nat) : Prop := Blk w g 45 (hcells S Bk n)
section
variable {w w' : World} {g n : Nat} {S Bk : List Nat}
theorem hcells_size (S Bk : List Nat) (n : Nat) : (hcells S Bk n).size = S.length + Bk.length + 1 := by simp [hcells]; omega
theorem hcells_s (hs : S.length = 8) {i : Nat} (h : i < 8) : (hcells S Bk n)[i]? = some (.int .u32 ((S.getD i 0 : Nat) : Int)) := by
  unfold hcells
  rw [List.getElem?_toArray, List.append_assoc, List.getElem?_append_left (by simp; omega), List.getElem?_map, List.getD_eq_getElem?_getD, List.getElem?_eq_getElem (by omega)]
  rfl
theorem hcells_b (hs : S.length = 8) (hb : Bk.length = 64) {i : Nat} (h : i < 64) : (hcells S Bk n)[8 + i]? = some (.int .u8 ((Bk.getD i 0 : Nat) : Int)) := by
  unfold hcells
  rw [List.getElem?_toArray, List.append_assoc, List.getElem?_append_right (by simp; omega), List.getElem?_append_left (by simp; omega), List.getElem?_map, List.length_map, hs, show 8 + i - 8 = i by omega, List.getD_eq_getElem?_getD, List.getElem?_eq_getElem (by omega)]
  rfl
theorem hcells_n (hs : S.length = 8) (hb : Bk.length = 64) : (hcells S Bk n)[72]? = some (.int .i64 (n : Int)) := by
  unfold hcells
  rw [List.getElem?_toArray, List.getElem?_append_right (by simp; omega)]
  simp [hs, hb]
theorem hcells_set (hs : S.length = 8) {i z : Nat} (h : i < 8) : (hcells S Bk n).setIfInBounds i (.int .u32 (z : Int)) = hcells (S.set i z) Bk n := by
  unfold hcells
  rw [List.setIfInBounds_toArray, List.append_assoc, List.set_append_left _ _ (by simp; omega), List.map_set, List.append_assoc]
theorem hcells_setn (hs : S.length = 8) (hb : Bk.length = 64) {m : Nat} : (hcells S Bk n).setIfInBounds 72 (.int .i64 (m : Int)) = hcells S Bk m := by
  unfold hcells
  rw [List.setIfInBounds_toArray, List.set_append_right _ _ (by simp; omega)]
  simp [hs, hb]
theorem hcells_one (S Bk : List Nat) (n : Nat) : (hcells S Bk n).all (·.oneCell') = true := by
  rw [Array.all_eq_true_iff_forall_mem]
  intro x hx
  simp only [hcells, List.mem_toArray, List.mem_append, List.mem_map, List.mem_singleton] at hx
  rcases hx with (⟨z, _, rfl⟩ | ⟨z, _, rfl⟩) | rfl <;> rfl
theorem Hsh.up (h : Hsh w g S Bk n) (hb : Below w.heap.size w w') : Hsh w' g S Bk n := Blk.below h hb (Blk.lt h)
end
theorem zero_h (w : World) : (zeroValue 45).run Tryd.prog w = .ok (.agg (hcells (List.replicate 8 0) (List.replicate 64 0) 0)) w := by kernel_rfl

set_option maxHeartbeats 1000000 in
set_option maxRecDepth 100000 in
theorem started_no (w : World) (hT : Tab w) : Calls Tryd.prog 18 #[] w fun e w' => e = .returned (.agg (hcells ShaD.start (List.replicate 64 0) 0)) ∧ Below w.heap.size w w' := by
  have hz := zero_h
  obtain ⟨f, hf⟩ : ∃ f : Nat → Nat, f = fun i => ShaD.start.getD i 0 := ⟨_, rfl⟩
  have FI : Hid (∀ i, f i = K.getD (64 + i) 0) := Lib.hid fun i => by
    rw [hf]
    show (List.drop 64 K).getD i 0 = _
    rw [List.getD_eq_getElem?_getD, List.getElem?_drop, ← List.getD_eq_getElem?_getD]
  have FA : Hid ((List.range 8).map f = ShaD.start) := Lib.hid (by rw [hf]; exact all_getD start_len)
  have F0 : fil f 8 0 = List.replicate 8 0 := fil_zero _ _
  rw [← F0] at hz
  obtain ⟨Z, hZ⟩ : ∃ Z, Z = List.replicate 64 0 := ⟨_, rfl⟩
  have ZL : Hid (Z.length = 64) := Lib.hid (by rw [hZ, List.length_replicate])
  rw [← hZ] at hz ⊢
  have N0 : Hid (Hsh ((w.alloc (.cells (hcells (fil f 8 0) Z 0) 45)).alloc (.cells (hcells (fil f 8 0) Z 0) 45)) w.heap.size (fil f 8 0) Z 0) := Lib.hid ((Blk.new w _ _).alloc _)
  have N1 : Hid (Hsh ((w.alloc (.cells (hcells (fil f 8 0) Z 0) 45)).alloc (.cells (hcells (fil f 8 0) Z 0) 45)) (w.heap.size + 1) (fil f 8 0) Z 0) := Lib.hid (by
    have := Blk.new (w.alloc (.cells (hcells (fil f 8 0) Z 0) 45)) 45 (hcells (fil f 8 0) Z 0)
    rwa [show (w.alloc (.cells (hcells (fil f 8 0) Z 0) 45)).heap.size = w.heap.size + 1 by simp] at this)
  have B0 := Lib.hid (((Below.refl w.heap.size w).alloc (Nat.le_refl _) (.cells (hcells (fil f 8 0) Z 0) 45)).alloc (by simp) (.cells (hcells (fil f 8 0) Z 0) 45))
  have T0 := Lib.hid (hT.up B0.out)
  have TL := Lib.hid hT.lt
  have HZ : ((hcells (fil f 8 0) Z 0) = #[]) = False := eq_false fun e => by
    have := congrArg Array.size e
    rw [hcells_size] at this
    simp at this
  have SZ : (hcells (fil f 8 0) Z 0).size = 73 := by rw [hcells_size, fil_len, ZL.out]
  obtain ⟨cZ, hcZ⟩ : ∃ cZ, cZ = hcells (fil f 8 0) Z 0 := ⟨_, rfl⟩
  rw [← hcZ] at hz N0 N1 B0 T0 HZ SZ
  have CZ := Lib.hid hcZ
  have N0' : Hid (Blk ((w.alloc (.cells cZ 45)).alloc (.cells cZ 45)) w.heap.size 45 cZ) := Lib.hid (by have := N0.out; unfold Hsh at this; rwa [← hcZ] at this)
  clear hf F0 hZ hT hcZ N0
  go_enter Tryd.func18, Tryd.ntmps18
  go_wp2_with fail
  clear hz HZ
  generalize (w.alloc (.cells cZ 45)).alloc (.cells cZ 45) = w1 at *
  go_loopw [3] (fun kv wr => ∃ j : Nat, kv = .int .i64 (j : Int) ∧ j ≤ 8 ∧ Hid (Hsh wr (w.heap.size + 1) (fil f 8 j) Z 0) ∧ Hid (Blk wr w.heap.size 45 cZ) ∧ Hid (Tab wr) ∧ Hid (Below w.heap.size w wr)) (fun kv _ => 8 - (intOf kv).toNat)
  case atStart => exact ⟨0, rfl, by omega, N1, N0', T0, B0⟩
  case round =>
    obtain ⟨j, rfl, hj, HH, HN, HT, HB⟩ := hrel
    clear N1 N0' T0 B0
    by_cases hlt : j < 8
    · have kc := HT.out.cell (64 + j) (by omega)
      rw [← FI.out] at kc
      have c0 : wr.cell? ⟨w.heap.size + 1, j, none⟩ = some (.int .u32 (((fil f 8 j).getD j 0 : Nat) : Int)) := (Blk.cell HH.out j).trans (hcells_s (fil_len _ _ _) hlt)
      have f0 := Blk.frozen HH.out j
      have H2 : Hid (Hsh (wr.setCell ⟨w.heap.size + 1, j, none⟩ (.int .u32 ((f j : Nat) : Int))) (w.heap.size + 1) (fil f 8 (j + 1)) Z 0) := Lib.hid (by
        have := Blk.put HH.out j (.int .u32 ((f j : Nat) : Int))
        rw [hcells_set (fil_len _ _ _) hlt, fil_set] at this
        exact this)
      have N2 : Hid (Blk (wr.setCell ⟨w.heap.size + 1, j, none⟩ (.int .u32 ((f j : Nat) : Int))) w.heap.size 45 cZ) := Lib.hid (Blk.far HN.out (p := ⟨w.heap.size + 1, j, none⟩) (by simp) _)
      have B2 : Hid (Below w.heap.size w (wr.setCell ⟨w.heap.size + 1, j, none⟩ (.int .u32 ((f j : Nat) : Int)))) := Lib.hid (HB.out.setCell (p := ⟨w.heap.size + 1, j, none⟩) (by simp) _)
      have T2 : Hid (Tab (wr.setCell ⟨w.heap.size + 1, j, none⟩ (.int .u32 ((f j : Nat) : Int)))) := Lib.hid (HT.out.below ((Below.refl w.heap.size wr).setCell (p := ⟨w.heap.size + 1, j, none⟩) (by simp) _) TL.out)
      generalize (fil f 8 j).getD j 0 = old at *
      generalize f j = y at *
      obtain ⟨i, hi⟩ : ∃ i, i = 64 + j := ⟨_, rfl⟩
      rw [← hi] at kc
      have f1 : IntKind.i64.wrap (64 + (j : Int)) = (i : Int) := by rw [IntWalk.i64_in _ (by omega)]; omega
      have il : i < 72 := by omega
      clear hi HH HN HT HB
      go_wp2_with fail
      go_roundw
      case rel => exact ⟨j + 1, by go_num, by omega, H2, N2, T2, B2⟩
      case measure => simp [intOf]; omega
    · obtain rfl : j = 8 := by omega
      have RH : Hid (Hsh wr (w.heap.size + 1) ShaD.start Z 0) := Lib.hid (by have := HH.out; rwa [fil_full, FA.out] at this)
      obtain ⟨cR, hcR⟩ : ∃ cR, cR = hcells ShaD.start Z 0 := ⟨_, rfl⟩
      have CE := Lib.hid hcR
      have RR := RH.out
      have SF := HN.out
      have sz : cR.size = 73 := by rw [hcR, hcells_size, start_len, ZL.out]
      have one : cR.all (·.oneCell') = true := by rw [hcR]; exact hcells_one _ _ _
      have BF := Lib.hid HB.out
      unfold Hsh at RR
      unfold Blk at RR SF
      rw [← hcR] at RR
      clear HH HN HT HB hlt hj RH FA FI hcR CZ ZL
      go_wp2_with (first
        | (refine wpList_load_row rfl _ _ rfl (w.heap.size + 1) rfl 45 cR (0, 0) _ RR (Tryd.underlying45) rfl (by rw [sz]; kernel_rfl) ?_)
        | (refine wpList_store_row rfl _ _ _ rfl w.heap.size cR rfl rfl 45 _ SF (by rw [sz]; kernel_rfl) (by rw [sz, SZ]) one ?_))
      exact bodyPost_ret (results_cell_row rfl _ _ w.heap.size 45 cR (0, 0) _ rfl (setRow_heap _ _ _ _ _ _ SF) Tryd.underlying45 rfl (by rw [sz]; kernel_rfl)) rfl ⟨by rw [CE.out], below_setRow BF.out (Nat.le_refl _)⟩
end Go.Proofs.YtmlihcillheeaaaDoor.Dig6
