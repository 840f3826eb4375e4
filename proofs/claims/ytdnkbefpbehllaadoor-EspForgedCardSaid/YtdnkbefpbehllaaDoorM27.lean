/- Contracts of the code's closure that makes a key, and of the function that answers it. -/
import Derived.Test.YtdnkbefpbehllaaDoorM26
import Derived.Test.YtdnkbefpbehllaaDoorM11
import Derived.Lib.SlBytesConst
set_option linter.unusedVariables false
namespace Go.Proofs.YtdnkbefpbehllaaDoor.Mac1
open Go.RowKit Go.PlainAid Go.Proofs.YtdnkbefpbehllaaDoor.Sums Go.Proofs.YtdnkbefpbehllaaDoor.Mem Go.Proofs.YtdnkbefpbehllaaDoor.Blk Go.Proofs.YtdnkbefpbehllaaDoor.Bits3 Go.Proofs.YtdnkbefpbehllaaDoor.Ints Go.Proofs.YtdnkbefpbehllaaDoor.Both Go.Proofs.YtdnkbefpbehllaaDoor.CutA Go.Proofs.YtdnkbefpbehllaaDoor.ShaD Go.Proofs.YtdnkbefpbehllaaDoor.ShaO Go.Proofs.YtdnkbefpbehllaaDoor.Dig1 Go.Proofs.YtdnkbefpbehllaaDoor.OpsU Go.Proofs.YtdnkbefpbehllaaDoor.Dig6 Go.Proofs.YtdnkbefpbehllaaDoor.Dig7 Go.Proofs.YtdnkbefpbehllaaDoor.Dig8 Go.Proofs.YtdnkbefpbehllaaDoor.Dig9 Go.Proofs.YtdnkbefpbehllaaDoor.MacD

/-- A key with zeros behind it. -/
def padK (key : List Nat) : List Nat := key ++ List.replicate (64 - key.length) 0
theorem padK_len {key : List Nat} (h : key.length ≤ 64) : (padK key).length = 64 := by
  unfold padK
  rw [List.length_append, List.length_replicate]; omega
theorem padK_byt {key : List Nat} (h : Byt key) : Byt (padK key) := by
  intro x hx
  rcases List.mem_append.1 hx with q | q
  · exact h x q
  · rw [List.eq_of_mem_replicate q]; decide
theorem kOf_len {key : List Nat} : (kOf key).length ≤ 64 := by
  unfold kOf
  split
  · rw [digest_len]; decide
  · omega
/-- Each byte of a key unlike x. -/
def unl (P : List Nat) (x : Nat) : List Nat := P.map fun k => k ^^^ x
theorem unl_len (P : List Nat) (x : Nat) : (unl P x).length = P.length := by simp [unl]
theorem unl_pad {key : List Nat} (h : key.length ≤ 64) (x : Nat) : unl (padK key) x = withK key x := by
  have hl := padK_len h
  unfold padK at hl
  unfold unl withK padK
  apply List.ext_getElem
  · rw [List.length_map, hl, List.length_map, List.length_range]
  · intro i h1 h2
    rw [List.getElem_map, List.getElem_map, List.getElem_range]
    by_cases hi : i < key.length
    · rw [if_pos hi, List.getElem_append_left hi, List.getD_eq_getElem?_getD, List.getElem?_eq_getElem hi, Nat.xor_comm]
      rfl
    · rw [if_neg hi, List.getElem_append_right (by omega), List.getElem_replicate, Nat.zero_xor]
theorem unl_next {P : List Nat} {j x : Nat} (h : j < P.length) : ints (unl (P.take j) x) ++ [((P.getD j 0 ^^^ x : Nat) : Int)] = ints (unl (P.take (j + 1)) x) := by
  have e : P.take (j + 1) = P.take j ++ [P.getD j 0] := by
    rw [List.take_add_one, List.getD_eq_getElem?_getD, List.getElem?_eq_getElem h]; rfl
  rw [e]
  unfold unl ints
  rw [List.map_append, List.map_append]
  rfl

theorem run_index_b {ty : TypeId} {n : Nat} (hu : Tryd.prog.underlying ty = some (.array n 5)) {l : List Nat} {j : Nat} (hl : l.length = n) (hj : j < n) (w : World) :
    (Instr.index ty (.agg (bcells l)) (.int .i64 (j : Int))).run Tryd.prog w = .ok (.int .u8 ((l.getD j 0 : Nat) : Int)) w := by
  obtain ⟨inf, hif, _, hsz, _⟩ := info_parts byte_info
  have hg := bcells_get l j (by omega)
  have h1 : (0 : Int) ≤ (j : Int) ∧ (j : Int) < (n : Int) := by omega
  have ha : (isAgg 5).run Tryd.prog w = .ok false w := by kernel_rfl
  simp [Instr.index, run_underlying hu, asIntOf, sizeOf, typeInfo, hif, hsz, hj, part, ha, hg, Result.andThen]

set_option maxHeartbeats 1000000 in
set_option maxRecDepth 100000 in
theorem keyed_no (g : Nat) (P : List Nat) (x : Nat) (hx : x < 256) (hl : P.length = 64) (hb : Byt P) (w : World) (h : Blk w g 93 (bcells P)) :
    Calls Tryd.prog 48 #[.int .u8 (x : Int), .pointer (some ⟨g, 0, none⟩)] w fun e w' => ∃ v, e = .returned v ∧ Owns w' w.heap.size v 64 (ints (unl P x)) ∧ Below w.heap.size w w' := by
  have mk : ∀ W : World, (Instr.makeSlice 25 (.int .i64 0) (.int .i64 64)).run Tryd.prog W = .ok (.slice (some ⟨W.heap.size, 0, none⟩) 0 64) (W.alloc (.cells (bcells (List.replicate 64 0)) 5)) := fun W => make_lc 0 64 (by decide) (by decide) W
  have O0 := Lib.hid (owns_lc w w.heap.size 0 64 (Nat.le_refl _) (by decide) (by decide))
  have B0 := Lib.hid ((Below.refl w.heap.size w).alloc (Nat.le_refl _) (.cells (bcells (List.replicate 64 0)) 5))
  have h2 := Blk.alloc h (.cells (bcells (List.replicate 64 0)) 5)
  unfold Blk at h2
  have IX := Lib.hid (fun (j : Nat) (hj : j < 64) (W : World) => run_index_b (ty := 93) Tryd.underlying93 hl hj W)
  have PL := Lib.hid hl
  have PB := Lib.hid (fun j => getD_byt hb j)
  have XB := Lib.hid hx
  have sz : (bcells P).size = 64 := by simp [bcells, hl]
  generalize bcells P = cP at *
  generalize bcells (List.replicate 64 0) = Z at *
  clear hl hb h hx
  go_enter Tryd.func48, Tryd.ntmps48
  go_wp2_with (first
    | (refine wpList_load_row rfl _ _ rfl g rfl 93 cP (0, 0) _ h2 (Tryd.underlying93) rfl (by rw [sz]; kernel_rfl) ?_))
  clear mk h2 sz
  generalize w.alloc (.cells Z 5) = w1 at *
  go_loopw [4, 9] (fun ov kv wr => ∃ j : Nat, kv = .int .i64 (j : Int) ∧ j ≤ 64 ∧ Hid (Owns wr w.heap.size ov j (ints (unl (P.take j) x))) ∧ Hid (Below w.heap.size w wr)) (fun _ kv _ => 64 - (intOf kv).toNat)
  case atStart => exact ⟨0, rfl, by omega, O0, B0⟩
  case round =>
    obtain ⟨j, rfl, hj, HO, HB⟩ := hrel
    clear O0 B0
    by_cases hlt : j < 64
    · have ix := IX.out j hlt wr
      have NX := Lib.hid (unl_next (x := x) (show j < P.length by rw [PL.out]; exact hlt))
      have pb := PB.out j
      generalize P.getD j 0 = a at *
      have e1 : bits .xor .u8 (a : Int) (x : Int) = ((a ^^^ x : Nat) : Int) := Bits3.u8_xor pb XB.out
      have YB : Bytes [((a ^^^ x : Nat) : Int)] := fun z hz => by
        have := xor_byt pb XB.out
        simp at hz
        omega
      generalize a ^^^ x = y at *
      have L1 := Lib.hid (Holds.lit wr [(y : Int)] #[.int .u8 (y : Int)] rfl (by simp [maxLen]) YB)
      have HBS := HB.out.size
      clear YB
      go_wp2_with (at_builtin
                   refine wpList_append_bytes rfl (.tmp 12) (.tmp 16) rfl w.heap.size _ j _ rfl (HO.out.alloc _) _ _ 1 1 _ rfl L1.out (by omega) (by simp; omega) ?_
                   intro v1 w9 o9 g9 hat9)
      rw [NX.out] at o9
      have OX := Lib.hid o9
      have BX := Lib.hid ((HB.out.alloc HBS _).grown g9 (by simp; omega) fun g hg => (HO.out.lt g hg).1)
      clear o9 g9 hat9 HO HB HBS L1 ix e1
      go_roundw
      case rel => exact ⟨j + 1, by go_num, by omega, OX, BX⟩
      case measure => simp [intOf]; omega
    · obtain rfl : j = 64 := by omega
      have OF : Hid (Owns wr w.heap.size _ 64 (ints (unl P x))) := Lib.hid (by
        have := HO.out
        rwa [List.take_of_length_le (by rw [PL.out]; exact Nat.le_refl _)] at this)
      have BF := HB
      clear HO HB
      go_wp2_with fail
      go_ret
      exact ⟨_, rfl, OF.out, BF.out⟩

/-! ### The key is padded -/
theorem zero_64 (w : World) : (zeroValue 93).run Tryd.prog w = .ok (.agg (bcells (List.replicate 64 0))) w := by kernel_rfl
theorem cut_64 (g : Nat) (w : World) : (Instr.sliceAt 93 (.pointer (some ⟨g, 0, none⟩)) none none none).run Tryd.prog w = .ok (.slice (some ⟨g, 0, none⟩) 64 64) w := by
  have he : (sizeOf (Tryd.prog.elem 93)).run Tryd.prog w = .ok 1 w := by kernel_rfl
  have hl : Tryd.prog.arrayLen 93 = 64 := by kernel_rfl
  have e := run_sliceAt_array_all (P := Tryd.prog) (w := w) (t := 93) (a := ⟨g, 0, none⟩) (ht := (by kernel_rfl))
  rw [e, he, hl]
  simp [Result.andThen_ok, slicedAt, add_plain]
theorem bcells_app (a b : List Nat) : (bcells a).toList ++ (bcells b).toList = (bcells (a ++ b)).toList := by simp [bcells]
theorem fit_key (N : Nat) (k : List Nat) : ((bcells (List.replicate N 0)).toList.take 0 ++ (bcells k).toList ++ (bcells (List.replicate N 0)).toList.drop (0 + k.length)).toArray = bcells (k ++ List.replicate (N - k.length) 0) := by
  simp [bcells, List.drop_replicate]
/-- The key is copied to the array's beginning. -/
theorem copy_key (w : World) (g : Nat) (A : Option Addr) (n c : Nat) (ks : List Int) (B : Nat) (hg : Blk w g 93 (bcells (List.replicate 64 0))) (h : Holds w B A n c ks) (hn : n ≤ 64) (ty : TypeId) :
    (Builtin.copy_ #[25, 25] ty #[.slice (some ⟨g, 0, none⟩) 64 64, .slice A n c]).run Tryd.prog w = .ok (.int .i64 (n : Int)) (w.setRow g (bcells (padK (nats ks)))) := by
  have kl : (nats ks).length = n := (nats_len ks).trans h.1
  have cl : (bcells (nats ks)).toList.length = n := by simp [bcells, kl]
  have R : ((bcells (List.replicate 64 0)).toList.take 0 ++ (bcells (nats ks)).toList ++ (bcells (List.replicate 64 0)).toList.drop (0 + (bcells (nats ks)).toList.length)).toArray = bcells (padK (nats ks)) := by
    rw [show (bcells (nats ks)).toList.length = (nats ks).length by simp [bcells]]
    exact fit_key 64 _
  rcases A with _ | ad
  · have hn0 : n = 0 := by
      rcases Nat.eq_zero_or_pos n with h0 | h0
      · exact h0
      · obtain ⟨_, _, e, _⟩ := h.2.2.2.2 h0
        cases e
    subst hn0
    have k0 : nats ks = [] := List.eq_nil_of_length_eq_zero kl
    have e : padK (nats ks) = List.replicate 64 0 := by rw [k0]; rfl
    rw [e, setRow_self w g _ _ _ hg]
    obtain ⟨i, hi, hz, hsz, hby⟩ := info_parts byte_info
    simp [Builtin.copy_, run_underlying Tryd.underlying25, sizeOf, typeInfo, hi, Builtin.lenOf, Builtin.firstCells, storeCells]
    rfl
  · have e := run_copy_row (P := Tryd.prog) w 25 25 ty 5 g 0 64 64 ad n c (bcells (List.replicate 64 0)) 93 (bcells (nats ks)).toList Tryd.underlying25 (by kernel_rfl) hg (by rw [cl]; exact (Nat.min_eq_left hn).symm) (fun j v hv => ?_) (by rw [cl]; simp [bcells]; omega) (fun v hv => ?_)
    · rw [e, R, cl]
      rfl
    · have hj : j < n := by
        have := (List.getElem?_eq_some_iff.1 hv).1
        rwa [cl] at this
      obtain ⟨b, o, e2, _, hc⟩ := h.2.2.2.2 (by omega)
      injection e2 with e2
      subst e2
      have hz : ks[j]? = some (ks.getD j 0) := by
        rw [List.getD_eq_getElem?_getD, List.getElem?_eq_getElem (by rw [h.1]; exact hj)]; rfl
      rw [add_plain, hc j _ hz, nats_getD h.2.2.2.1 j, ← bcells_get (nats ks) j (by omega), ← Array.getElem?_toList]
      exact hv
    · obtain ⟨z, _, rfl⟩ := List.mem_map.1 (show v ∈ (nats ks).map (fun n : Nat => Value.int .u8 (n : Int)) from by simpa only [bcells] using hv)
      rfl
end Go.Proofs.YtdnkbefpbehllaaDoor.Mac1

/- The document's examples hold. -/
set_option linter.unusedVariables false
namespace Go.Proofs.YtdnkbefpbehllaaDoor.DigA
open Go.RowKit Go.PlainAid Go.Proofs.YtdnkbefpbehllaaDoor.Sums Go.Proofs.YtdnkbefpbehllaaDoor.Mem Go.Proofs.YtdnkbefpbehllaaDoor.Blk Go.Proofs.YtdnkbefpbehllaaDoor.Bits3 Go.Proofs.YtdnkbefpbehllaaDoor.Ints Go.Proofs.YtdnkbefpbehllaaDoor.Both Go.Proofs.YtdnkbefpbehllaaDoor.ShaD Go.Proofs.YtdnkbefpbehllaaDoor.ShaC Go.Proofs.YtdnkbefpbehllaaDoor.Dig1 Go.Proofs.YtdnkbefpbehllaaDoor.Dig9

theorem nums_str {l : List Int} (h : Bytes l) : nums (strOfNums l) = l := by
  simp only [strOfNums, nums, List.map_map]
  refine (List.map_congr_left fun z hz => ?_).trans (List.map_id l)
  have := h z hz
  simp only [Function.comp, id]
  rw [UInt8.toNat_ofNat_of_lt' (by simp [UInt8.size]; omega)]
  omega
theorem str_inj {a b : List Int} (ha : Bytes a) (hb : Bytes b) (h : strOfNums a = strOfNums b) : a = b := by rw [← nums_str ha, ← nums_str hb, h]
theorem abc_str : strOfNums (ints (digest (nats [97, 98, 99]))) = ⟨#[186, 120, 22, 191, 143, 1, 207, 234, 65, 65, 64, 222, 93, 174, 34, 35, 176, 3, 97, 163, 150, 23, 122, 156, 180, 16, 255, 97, 242, 0, 21, 173]⟩ := by
  rw [show nats [97, 98, 99] = [97, 98, 99] from rfl, abc]
  kernel_rfl
theorem Holds.laid (w : World) (l : List Nat) (cs : Array Value) (fz : Nat × Nat) (n g : Nat) (hc : cs = bcells l) (hb : ∀ x ∈ l, x < 256) (hn : l.length = n) (hg : w.heap.size = g) (hm : n ≤ 1048576) : Holds (w.alloc (.cells cs 5 fz)) (g + 1) (some ⟨g, 0, none⟩) n n (ints l) := by
  subst hc hn hg
  refine ⟨by simp [ints], Nat.le_refl _, by simp only [maxLen]; omega, fun z hz => ints_in hb z hz, fun _ => ⟨w.heap.size, 0, rfl, by omega, fun j z hz => ?_⟩⟩
  have hj : j < l.length := by
    rcases Nat.lt_or_ge j l.length with h' | h'
    · exact h'
    · rw [List.getElem?_eq_none (by simpa [ints] using h')] at hz; cases hz
  rw [Nat.zero_add, cell_of_row _ w.heap.size j _ 5 fz (heap_alloc_new w _), bcells_get l j hj, ← ints_getD, List.getD_eq_getElem?_getD, hz]
  rfl
theorem cvt (w : World) (C : Array Value) (n : Nat) : (convert 25 25 (.slice (some ⟨w.heap.size, 0, none⟩) n n)).run Tryd.prog (w.alloc (.cells C 5)) = .ok (.slice (some ⟨w.heap.size, 0, none⟩) n n) (w.alloc (.cells C 5 (C.size, C.size + 1))) :=
  Lib.run_convert_bytes_const w 25 5 C n n Tryd.underlying25 Tryd.underlying5
theorem parts_lit {W : World} {B : Nat} (hB : B ≤ W.heap.size) (rs : List Row) (cs : Array Value) (t : TypeId) (hc : cs.toList = rs.map fun r => Value.slice r.A r.n r.c) (h : ∀ r ∈ rs, Holds W B r.A r.n r.c r.l) (g : Nat) (hg : W.heap.size = g) :
    Parts (W.alloc (.cells cs t)) (g + 1) (some ⟨g, 0, none⟩) rs := by
  subst hg
  exact .inr ⟨_, rfl, All.lit hB rs cs t hc h⟩
theorem flat_len {rs : List Row} (h : ∀ r ∈ rs, r.l.length = r.n) : (flat rs).length = total rs := by
  induction rs with
  | nil => rfl
  | cons r rs ih =>
    have e1 : flat (r :: rs) = r.l ++ flat rs := rfl
    have e2 : total (r :: rs) = r.n + total rs := rfl
    rw [e1, e2, List.length_append, ih fun q hq => h q (by simp [hq]), h r (by simp)]

end Go.Proofs.YtdnkbefpbehllaaDoor.DigA

/- Contracts of the code: masked, Full, Tag. -/
set_option linter.unusedVariables false
namespace Go.Proofs.YtdnkbefpbehllaaDoor.Mac2
open Go.RowKit Go.PlainAid Go.Proofs.YtdnkbefpbehllaaDoor.Sums Go.Proofs.YtdnkbefpbehllaaDoor.Mem Go.Proofs.YtdnkbefpbehllaaDoor.Blk Go.Proofs.YtdnkbefpbehllaaDoor.Bits3 Go.Proofs.YtdnkbefpbehllaaDoor.Ints Go.Proofs.YtdnkbefpbehllaaDoor.Both Go.Proofs.YtdnkbefpbehllaaDoor.CutA Go.Proofs.YtdnkbefpbehllaaDoor.ShaD Go.Proofs.YtdnkbefpbehllaaDoor.ShaO Go.Proofs.YtdnkbefpbehllaaDoor.Dig1 Go.Proofs.YtdnkbefpbehllaaDoor.Dig9 Go.Proofs.YtdnkbefpbehllaaDoor.DigA Go.Proofs.YtdnkbefpbehllaaDoor.MacD Go.Proofs.YtdnkbefpbehllaaDoor.Mac1

theorem wpList_copy_key {w : World} {ops : Array Oper} {rest : List Oper} {o : Oper} {a : Act} {Q : Exit → Act → World → Prop} (hgd : o.guard = none) (d s : Operand)
    (ho : o.op = .call { callee := .builtin .copy, args := #[d, s], argTypes := #[25, 25] }) (g : Nat) (A : Option Addr) (n c : Nat) (ks : List Int) (B : Nat) (Z : Array Value) (hZ : Z = bcells (List.replicate 64 0))
    (hd : a.eval d = .slice (some ⟨g, 0, none⟩) 64 64) (hs : a.eval s = .slice A n c) (hg : Blk w g 93 Z) (h : Holds w B A n c ks) (hn : n ≤ 64)
    (K : wpList Tryd.prog ops Q rest (a.put o.dst (.int .i64 (n : Int))) (w.setRow g (bcells (padK (nats ks))))) : wpList Tryd.prog ops Q (o :: rest) a w := by
  refine wpList_plain hgd fun K' hK => ?_
  subst hZ
  have hr := copy_key w g A n c ks B hg h hn o.type
  unfold Oper.wp execOp
  simp only [ho, resolve, invoke, builtin, Sem.run_bind, Sem.run_pure, Result.andThen_ok, List.map_toArray, List.map_cons, List.map_nil, hd, hs, hr]
  exact hK _ _ K

/-- A digest of rows that are put together at the call. -/
theorem of_lit {w : World} {B : Nat} (hB : B ≤ w.heap.size) (rs : List Row) (cs : Array Value) (hc : cs.toList = rs.map fun r => Value.slice r.A r.n r.c) (h : ∀ r ∈ rs, Holds w B r.A r.n r.c r.l)
    (g m : Nat) (hg : w.heap.size = g) (hm : rs.length = m) (h1 : m ≤ 1000) (h2 : total rs ≤ 1048576) (hT : Tab w) (D : List Nat) (hD : nats (flat rs) = D) :
    Calls Tryd.prog 44 #[.slice (some ⟨g, 0, none⟩) m m] (w.alloc (.cells cs 25)) fun e w' => ∃ A' c', e = .returned (.slice A' 32 c') ∧ Owns w' w.heap.size (.slice A' 32 c') 32 (ints (digest D)) ∧ Below w.heap.size w w' := by
  subst hg
  have P := parts_lit hB rs cs 25 hc h w.heap.size rfl
  have B1 := (Below.refl w.heap.size w).alloc (Nat.le_refl _) (.cells cs 25)
  have sz : (w.alloc (.cells cs 25)).heap.size = w.heap.size + 1 := by simp
  refine (of_no _ m m rs _ _ P hm (by rw [sz]; exact Nat.le_refl _) (by omega) (flat_len fun r hr => (h r hr).1) h2 (hT.up B1)).mono ?_
  rintro e w' ⟨v, rfl, o, hb⟩
  rw [hD] at o
  obtain ⟨A', c', rfl, _⟩ := o.slice
  exact ⟨A', c', rfl, o.mono (by rw [sz]; omega), B1.trans (hb.mono (by rw [sz]; omega))⟩
theorem nats_one (A : Option Addr) (n c : Nat) (l : List Int) : nats (flat [⟨A, n, c, l⟩]) = nats l := by simp [flat]

set_option maxHeartbeats 1000000 in
set_option maxRecDepth 100000 in
theorem masked_any (A : Option Addr) (n c : Nat) (ks : List Int) (w : World) (B : Nat) (h : Holds w B A n c ks) (hB : B ≤ w.heap.size) (hn : n ≤ 1000000) (hT : Tab w) :
    Calls Tryd.prog 43 #[.slice A n c] w fun e w' => ∃ g, e = .returned (.func (.func 48) #[] #[.pointer (some ⟨g, 0, none⟩)]) ∧ w.heap.size ≤ g ∧ Blk w' g 93 (bcells (padK (kOf (nats ks)))) ∧ Below w.heap.size w w' := by
  have hz := zero_64
  have CU := fun (g : Nat) (W : World) => cut_64 g W
  have KL : (nats ks).length = n := (nats_len ks).trans h.1
  obtain ⟨Z, hZ⟩ : ∃ Z, Z = bcells (List.replicate 64 0) := ⟨_, rfl⟩
  rw [← hZ] at hz
  have SZ : Z.size = 64 := by rw [hZ]; simp [bcells]
  have HZ : (Z = #[]) = False := eq_false fun e => by rw [e] at SZ; simp at SZ
  have ZE := Lib.hid hZ
  have HK := Lib.hid h
  clear hZ h
  by_cases hk : 64 < n
  · have KE : Hid (kOf (nats ks) = digest (nats ks)) := Lib.hid (by unfold kOf; rw [if_pos (by rw [KL]; exact hk)])
    rw [KE.out]
    have C := Lib.hid (of_lit hB [⟨A, n, c, ks⟩] #[.slice A n c] rfl (mem1 HK.out) w.heap.size 1 rfl rfl (by decide) (by show n + 0 ≤ 1048576; omega) hT _ (nats_one A n c ks))
    have gk : decide ((64 : Int) < (n : Int)) = true := decide_eq_true (by omega)
    obtain ⟨D, hD⟩ : ∃ D, D = digest (nats ks) := ⟨_, rfl⟩
    rw [← hD] at C ⊢
    clear hk KE KL HK hD hT
    go_enter Tryd.func43, Tryd.ntmps43
    go_wp2_with fail
    refine C.out.mono ?_
    rintro e w1 ⟨Ak, ck, rfl, o1, hb⟩
    have H1 := o1.holds
    have BZ : Blk (w1.alloc (.cells Z 93)) w1.heap.size 93 Z := Blk.new w1 _ _
    have H2 := Lib.hid (H1.below ((Below.refl w1.heap.size w1).alloc (Nat.le_refl _) (.cells Z 93)))
    have B1 := Lib.hid (hb.alloc hb.size (.cells Z 93))
    have GS := Lib.hid hb.size
    clear hb o1 H1 C
    go_wp2_with (first
      | (refine wpList_copy_key rfl _ _ rfl w1.heap.size Ak 32 ck _ w1.heap.size Z ZE.out rfl rfl BZ H2.out (by decide) ?_))
    go_ret
    refine ⟨w1.heap.size, rfl, GS.out, ?_, below_setRow B1.out GS.out⟩
    rw [nats_ints]
    exact setRow_heap _ _ _ _ _ _ BZ
  · have KE : Hid (kOf (nats ks) = nats ks) := Lib.hid (by unfold kOf; rw [if_neg (by rw [KL]; exact hk)])
    rw [KE.out]
    have gk : decide ((64 : Int) < (n : Int)) = false := decide_eq_false (by omega)
    have BZ : Blk (w.alloc (.cells Z 93)) w.heap.size 93 Z := Blk.new w _ _
    have H2 := Lib.hid ((HK.out.more hB).below ((Below.refl w.heap.size w).alloc (Nat.le_refl _) (.cells Z 93)))
    have B1 := Lib.hid ((Below.refl w.heap.size w).alloc (Nat.le_refl _) (.cells Z 93))
    have hk2 : n ≤ 64 := by omega
    clear hk KE KL HK hT
    go_enter Tryd.func43, Tryd.ntmps43
    go_wp2_with (first
      | (refine wpList_copy_key rfl _ _ rfl w.heap.size A n c _ w.heap.size Z ZE.out rfl rfl BZ H2.out hk2 ?_))
    go_ret
    exact ⟨w.heap.size, rfl, Nat.le_refl _, setRow_heap _ _ _ _ _ _ BZ, below_setRow B1.out (Nat.le_refl _)⟩
end Go.Proofs.YtdnkbefpbehllaaDoor.Mac2

