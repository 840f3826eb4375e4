/- Contracts of the code's closure that makes a key, and of the function that answers it. -/
import Derived.Test.YtmlihcillheeaaaDoorDig9
import Derived.Test.YtmlihcillheeaaaDoorMacD
set_option linter.unusedVariables false
namespace Go.Proofs.YtmlihcillheeaaaDoor.Mac1
open Go.RowKit Go.PlainAid Go.Proofs.YtmlihcillheeaaaDoor.Sums Go.Proofs.YtmlihcillheeaaaDoor.Mem Go.Proofs.YtmlihcillheeaaaDoor.Blk Go.Proofs.YtmlihcillheeaaaDoor.Bits3 Go.Proofs.YtmlihcillheeaaaDoor.Ints Go.Proofs.YtmlihcillheeaaaDoor.Both Go.Proofs.YtmlihcillheeaaaDoor.CutA Go.Proofs.YtmlihcillheeaaaDoor.ShaD Go.Proofs.YtmlihcillheeaaaDoor.ShaO Go.Proofs.YtmlihcillheeaaaDoor.Dig1 Go.Proofs.YtmlihcillheeaaaDoor.OpsU Go.Proofs.YtmlihcillheeaaaDoor.Dig6 Go.Proofs.YtmlihcillheeaaaDoor.Dig7 Go.Proofs.YtmlihcillheeaaaDoor.Dig8 Go.Proofs.YtmlihcillheeaaaDoor.Dig9 Go.Proofs.YtmlihcillheeaaaDoor.MacD

/-- A key with zeros behind it. -/
def padK (key : List Nat) : List Nat := key ++ List.replicate (64 - key.length) 0
theorem padK_len {key : List Nat} (h : key.length ≤ 64) : (padK key).length = 64 := by
  unfold padK
  rw [List.length_append, List.length_replicate]; omega
theorem padK_byt {key : List Nat} (h : Byt key) : Byt (padK key) := by
  intro x hx
  rcases List.mem_append.1 hx with q | q
  · exact h x q
  · rw [List.eq_of_mem_replicate q]; decide
theorem kOf_len {key : List Nat} : (kOf key).length ≤ 64 := by
  unfold kOf
  split
  · rw [digest_len]; decide
  · omega
/-- Each byte of a key unlike x. -/
def unl (P : List Nat) (x : Nat) : List Nat := P.map fun k => k ^^^ x
theorem unl_len (P : List Nat) (x : Nat) : (unl P x).length = P.length := by simp [unl]
theorem unl_pad {key : List Nat} (h : key.length ≤ 64) (x : Nat) : unl (padK key) x = withK key x := by
  have hl := padK_len h
  unfold padK at hl
  unfold unl withK padK
  apply List.ext_getElem
  · rw [List.length_map, hl, List.length_map, List.length_range]
  · intro i h1 h2
    rw [List.getElem_map, List.getElem_map, List.getElem_range]
    by_cases hi : i < key.length
    · rw [if_pos hi, List.getElem_append_left hi, List.getD_eq_getElem?_getD, List.getElem?_eq_getElem hi, Nat.xor_comm]
      rfl
    · rw [if_neg hi, List.getElem_append_right (by omega), List.getElem_replicate, Nat.zero_xor]
theorem unl_next {P : List Nat} {j x : Nat} (h : j < P.length) : ints (unl (P.take j) x) ++ [((P.getD j 0 ^^^ x : Nat) : Int)] = ints (unl (P.take (j + 1)) x) := by
  have e : P.take (j + 1) = P.take j ++ [P.getD j 0] := by
    rw [List.take_add_one, List.getD_eq_getElem?_getD, List.getElem?_eq_getElem h]; rfl
  rw [e]
  unfold unl ints
  rw [List.map_append, List.map_append]
  rfl

theorem run_index_b {ty : TypeId} {n : Nat} (hu : Tryd.prog.underlying ty = some (.array n 5)) {l : List Nat} {j : Nat} (hl : l.length = n) (hj : j < n) (w : World) :
    (Instr.index ty (.agg (bcells l)) (.int .i64 (j : Int))).run Tryd.prog w = .ok (.int .u8 ((l.getD j 0 : Nat) : Int)) w := by
  obtain ⟨inf, hif, _, hsz, _⟩ := info_parts byte_info
  have hg := bcells_get l j (by omega)
  have h1 : (0 : Int) ≤ (j : Int) ∧ (j : Int) < (n : Int) := by omega
  have ha : (isAgg 5).run Tryd.prog w = .ok false w := by kernel_rfl
  simp [Instr.index, run_underlying hu, asIntOf, sizeOf, typeInfo, hif, hsz, hj, part, ha, hg, Result.andThen]

set_option maxHeartbeats 1000000 in
set_option maxRecDepth 100000 in
theorem keyed_no (g : Nat) (P : List Nat) (x : Nat) (hx : x < 256) (hl : P.length = 64) (hb : Byt P) (w : World) (h : Blk w g 43 (bcells P)) :
    Calls Tryd.prog 21 #[.int .u8 (x : Int), .pointer (some ⟨g, 0, none⟩)] w fun e w' => ∃ v, e = .returned v ∧ Owns w' w.heap.size v 64 (ints (unl P x)) ∧ Below w.heap.size w w' := by
  have mk : ∀ W : World, (Instr.makeSlice 22 (.int .i64 0) (.int .i64 64)).run Tryd.prog W = .ok (.slice (some ⟨W.heap.size, 0, none⟩) 0 64) (W.alloc (.cells (bcells (List.replicate 64 0)) 5)) := fun W => make_lc 0 64 (by decide) (by decide) W
  have O0 := Lib.hid (owns_lc w w.heap.size 0 64 (Nat.le_refl _) (by decide) (by decide))
  have B0 := Lib.hid ((Below.refl w.heap.size w).alloc (Nat.le_refl _) (.cells (bcells (List.replicate 64 0)) 5))
  have h2 := Blk.alloc h (.cells (bcells (List.replicate 64 0)) 5)
  unfold Blk at h2
  have IX := Lib.hid (fun (j : Nat) (hj : j < 64) (W : World) => run_index_b (ty := 43) Tryd.underlying43 hl hj W)
  have PL := Lib.hid hl
  have PB := Lib.hid (fun j => getD_byt hb j)
  have XB := Lib.hid hx
  have sz : (bcells P).size = 64 := by simp [bcells, hl]
  generalize bcells P = cP at *
  generalize bcells (List.replicate 64 0) = Z at *
  clear hl hb h hx
  go_enter Tryd.func21, Tryd.ntmps21
  go_wp2_with (first
    | (refine wpList_load_row rfl _ _ rfl g rfl 43 cP (0, 0) _ h2 (Tryd.underlying43) rfl (by rw [sz]; kernel_rfl) ?_))
  clear mk h2 sz
  generalize w.alloc (.cells Z 5) = w1 at *
  go_loopw [4, 9] (fun ov kv wr => ∃ j : Nat, kv = .int .i64 (j : Int) ∧ j ≤ 64 ∧ Hid (Owns wr w.heap.size ov j (ints (unl (P.take j) x))) ∧ Hid (Below w.heap.size w wr)) (fun _ kv _ => 64 - (intOf kv).toNat)
  case atStart => exact ⟨0, rfl, by omega, O0, B0⟩
  case round =>
    obtain ⟨j, rfl, hj, HO, HB⟩ := hrel
    clear O0 B0
    by_cases hlt : j < 64
    · have ix := IX.out j hlt wr
      have NX := Lib.hid (unl_next (x := x) (show j < P.length by rw [PL.out]; exact hlt))
      have pb := PB.out j
      generalize P.getD j 0 = a at *
      have e1 : bits .xor .u8 (a : Int) (x : Int) = ((a ^^^ x : Nat) : Int) := Bits3.u8_xor pb XB.out
      have YB : Bytes [((a ^^^ x : Nat) : Int)] := fun z hz => by
        have := xor_byt pb XB.out
        simp at hz
        omega
      generalize a ^^^ x = y at *
      have L1 := Lib.hid (Holds.lit wr [(y : Int)] #[.int .u8 (y : Int)] rfl (by simp [maxLen]) YB)
      have HBS := HB.out.size
      clear YB
      go_wp2_with (at_builtin
                   refine wpList_append_bytes rfl (.tmp 12) (.tmp 16) rfl w.heap.size _ j _ rfl (HO.out.alloc _) _ _ 1 1 _ rfl L1.out (by omega) (by simp; omega) ?_
                   intro v1 w9 o9 g9 hat9)
      rw [NX.out] at o9
      have OX := Lib.hid o9
      have BX := Lib.hid ((HB.out.alloc HBS _).grown g9 (by simp; omega) fun g hg => (HO.out.lt g hg).1)
      clear o9 g9 hat9 HO HB HBS L1 ix e1
      go_roundw
      case rel => exact ⟨j + 1, by go_num, by omega, OX, BX⟩
      case measure => simp [intOf]; omega
    · obtain rfl : j = 64 := by omega
      have OF : Hid (Owns wr w.heap.size _ 64 (ints (unl P x))) := Lib.hid (by
        have := HO.out
        rwa [List.take_of_length_le (by rw [PL.out]; exact Nat.le_refl _)] at this)
      have BF := HB
      clear HO HB
      go_wp2_with fail
      go_ret
      exact ⟨_, rfl, OF.out, BF.out⟩

/-! ### The key is padded -/
theorem zero_64 (w : World) : (zeroValue 43).run Tryd.prog w = .ok (.agg (bcells (List.replicate 64 0))) w := by kernel_rfl
theorem cut_64 (g : Nat) (w : World) : (Instr.sliceAt 43 (.pointer (some ⟨g, 0, none⟩)) none none none).run Tryd.prog w = .ok (.slice (some ⟨g, 0, none⟩) 64 64) w := by
  have he : (sizeOf (Tryd.prog.elem 43)).run Tryd.prog w = .ok 1 w := by kernel_rfl
  have hl : Tryd.prog.arrayLen 43 = 64 := by kernel_rfl
  have e := run_sliceAt_array_all (P := Tryd.prog) (w := w) (t := 43) (a := ⟨g, 0, none⟩) (ht := (by kernel_rfl))
  rw [e, he, hl]
  simp [Result.andThen_ok, slicedAt, add_plain]
theorem bcells_app (a b : List Nat) : (bcells a).toList ++ (bcells b).toList = (bcells (a ++ b)).toList := by simp [bcells]
theorem fit_key (N : Nat) (k : List Nat) : ((bcells (List.replicate N 0)).toList.take 0 ++ (bcells k).toList ++ (bcells (List.replicate N 0)).toList.drop (0 + k.length)).toArray = bcells (k ++ List.replicate (N - k.length) 0) := by
  simp [bcells, List.drop_replicate]
/-- The key is copied to the array's beginning. -/
theorem copy_key (w : World) (g : Nat) (A : Option Addr) (n c : Nat) (ks : List Int) (B : Nat) (hg : Blk w g 43 (bcells (List.replicate 64 0))) (h : Holds w B A n c ks) (hn : n ≤ 64) (ty : TypeId) :
    (Builtin.copy_ #[22, 22] ty #[.slice (some ⟨g, 0, none⟩) 64 64, .slice A n c]).run Tryd.prog w = .ok (.int .i64 (n : Int)) (w.setRow g (bcells (padK (nats ks)))) := by
  have kl : (nats ks).length = n := (nats_len ks).trans h.1
  have cl : (bcells (nats ks)).toList.length = n := by simp [bcells, kl]
  have R : ((bcells (List.replicate 64 0)).toList.take 0 ++ (bcells (nats ks)).toList ++ (bcells (List.replicate 64 0)).toList.drop (0 + (bcells (nats ks)).toList.length)).toArray = bcells (padK (nats ks)) := by
    rw [show (bcells (nats ks)).toList.length = (nats ks).length by simp [bcells]]
    exact fit_key 64 _
  rcases A with _ | ad
  · have hn0 : n = 0 := by
      rcases Nat.eq_zero_or_pos n with h0 | h0
      · exact h0
      · obtain ⟨_, _, e, _⟩ := h.2.2.2.2 h0
        cases e
    subst hn0
    have k0 : nats ks = [] := List.eq_nil_of_length_eq_zero kl
    have e : padK (nats ks) = List.replicate 64 0 := by rw [k0]; rfl
    rw [e, setRow_self w g _ _ _ hg]
    obtain ⟨i, hi, hz, hsz, hby⟩ := info_parts byte_info
    simp [Builtin.copy_, run_underlying Tryd.underlying22, sizeOf, typeInfo, hi, Builtin.lenOf, Builtin.firstCells, storeCells]
    rfl
  · have e := run_copy_row (P := Tryd.prog) w 22 22 ty 5 g 0 64 64 ad n c (bcells (List.replicate 64 0)) 43 (bcells (nats ks)).toList Tryd.underlying22 (by kernel_rfl) hg (by rw [cl]; exact (Nat.min_eq_left hn).symm) (fun j v hv => ?_) (by rw [cl]; simp [bcells]; omega) (fun v hv => ?_)
    · rw [e, R, cl]
      rfl
    · have hj : j < n := by
        have := (List.getElem?_eq_some_iff.1 hv).1
        rwa [cl] at this
      obtain ⟨b, o, e2, _, hc⟩ := h.2.2.2.2 (by omega)
      injection e2 with e2
      subst e2
      have hz : ks[j]? = some (ks.getD j 0) := by
        rw [List.getD_eq_getElem?_getD, List.getElem?_eq_getElem (by rw [h.1]; exact hj)]; rfl
      rw [add_plain, hc j _ hz, nats_getD h.2.2.2.1 j, ← bcells_get (nats ks) j (by omega), ← Array.getElem?_toList]
      exact hv
    · obtain ⟨z, _, rfl⟩ := List.mem_map.1 (show v ∈ (nats ks).map (fun n : Nat => Value.int .u8 (n : Int)) from by simpa only [bcells] using hv)
      rfl
end Go.Proofs.YtmlihcillheeaaaDoor.Mac1
