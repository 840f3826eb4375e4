/- Slices of rows. No function is named. -/
import Derived.Test.YtdnkbefpbehllaaDoorM03
import Derived.Test.YtdnkbefpbehllaaDoorM01
import Derived.Test.YtdnkbefpbehllaaDoorM14
import Derived.WalkSpells
import Derived.Lib.SliceRun
import Derived.Laws.Cover3
set_option linter.unusedVariables false
namespace Go.Proofs.YtdnkbefpbehllaaDoor.CutA
open Go.RowKit Go.Proofs.YtdnkbefpbehllaaDoor.Sums Go.Proofs.YtdnkbefpbehllaaDoor.Mem Go.Proofs.YtdnkbefpbehllaaDoor.Blk Go.Proofs.YtdnkbefpbehllaaDoor.Steps

theorem byte_elem (w : World) : (sizeOf (Tryd.prog.elem 25)).run Tryd.prog w = .ok 1 w := by kernel_rfl

theorem cut_lh (b p n c l h : Nat) (w : World) (h1 : l ≤ h) (h2 : h ≤ c) (h3 : l < c) :
    (Instr.sliceAt 25 (.slice (some ⟨b, p, none⟩) n c) (some (.int .i64 (l : Int))) (some (.int .i64 (h : Int))) none).run Tryd.prog w = .ok (.slice (some ⟨b, p + l, none⟩) (h - l) (c - l)) w := by
  have e := run_slice_lh (P := Tryd.prog) (w := w) (t := 25) (a := some ⟨b, p, none⟩) (len := n) (cap := c) (ht := (by kernel_rfl)) .i64 .i64 (l : Int) (h : Int) (by omega) (by omega) (by omega)
  have ne : ¬ c = l := by omega
  rw [run_sliceAt_slice (P := Tryd.prog) (h := (by kernel_rfl)), e, byte_elem]
  simp only [Result.andThen_ok, sliced, Int.toNat_natCast, if_neg ne, Option.map_some, Nat.mul_one, add_plain]

theorem cut_l (b p n c l : Nat) (w : World) (h1 : l ≤ n) (h2 : n ≤ c) (h3 : l < c) :
    (Instr.sliceAt 25 (.slice (some ⟨b, p, none⟩) n c) (some (.int .i64 (l : Int))) none none).run Tryd.prog w = .ok (.slice (some ⟨b, p + l, none⟩) (n - l) (c - l)) w := by
  have e := run_slice_l (P := Tryd.prog) (w := w) (t := 25) (a := some ⟨b, p, none⟩) (len := n) (cap := c) (ht := (by kernel_rfl)) .i64 (l : Int) (by omega) (by omega)
  have ne : ¬ c = l := by omega
  rw [run_sliceAt_slice (P := Tryd.prog) (h := (by kernel_rfl)), e, byte_elem]
  simp only [Result.andThen_ok, sliced, Int.toNat_natCast, if_neg ne, Option.map_some, Nat.mul_one, add_plain]

/-- Where a slice from a place on begins. -/
def adr (b p c lo : Nat) : Addr := if c = lo then ⟨b, p, none⟩ else ⟨b, p + lo, none⟩
theorem cutA_lh (b p n c l h : Nat) (w : World) (h1 : l ≤ h) (h2 : h ≤ c) :
    (Instr.sliceAt 25 (.slice (some ⟨b, p, none⟩) n c) (some (.int .i64 (l : Int))) (some (.int .i64 (h : Int))) none).run Tryd.prog w = .ok (.slice (some (adr b p c l)) (h - l) (c - l)) w := by
  have e := run_slice_lh (P := Tryd.prog) (w := w) (t := 25) (a := some ⟨b, p, none⟩) (len := n) (cap := c) (ht := (by kernel_rfl)) .i64 .i64 (l : Int) (h : Int) (by omega) (by omega) (by omega)
  rw [run_sliceAt_slice (P := Tryd.prog) (h := (by kernel_rfl)), e, byte_elem]
  unfold adr
  by_cases ne : c = l
  · simp only [Result.andThen_ok, sliced, Int.toNat_natCast, if_pos ne]
  · simp only [Result.andThen_ok, sliced, Int.toNat_natCast, if_neg ne, Option.map_some, Nat.mul_one, add_plain]
theorem cutA_l (b p n c l : Nat) (w : World) (h1 : l ≤ n) (h2 : n ≤ c) :
    (Instr.sliceAt 25 (.slice (some ⟨b, p, none⟩) n c) (some (.int .i64 (l : Int))) none none).run Tryd.prog w = .ok (.slice (some (adr b p c l)) (n - l) (c - l)) w := by
  have e := run_slice_l (P := Tryd.prog) (w := w) (t := 25) (a := some ⟨b, p, none⟩) (len := n) (cap := c) (ht := (by kernel_rfl)) .i64 (l : Int) (by omega) (by omega)
  rw [run_sliceAt_slice (P := Tryd.prog) (h := (by kernel_rfl)), e, byte_elem]
  unfold adr
  by_cases ne : c = l
  · simp only [Result.andThen_ok, sliced, Int.toNat_natCast, if_pos ne]
  · simp only [Result.andThen_ok, sliced, Int.toNat_natCast, if_neg ne, Option.map_some, Nat.mul_one, add_plain]
theorem cutA_holds {w : World} {B b p n c lo hi : Nat} {l : List Int} (h : Holds w B (some ⟨b, p, none⟩) n c l) (h1 : lo ≤ hi) (h2 : hi ≤ n) : Holds w B (some (adr b p c lo)) (hi - lo) (c - lo) ((l.drop lo).take (hi - lo)) := by
  have hnc := h.2.1
  by_cases hz : hi = lo
  · subst hz
    have hcm := h.2.2.1
    rw [Nat.sub_self, List.take_zero]
    exact ⟨rfl, Nat.zero_le _, by omega, fun _ h => (by cases h), fun h => absurd h (by omega)⟩
  · obtain ⟨b', o', e, hh⟩ := h.from_ (k := lo) (by omega)
    injection e with e
    injection e with e1 e2
    subst e1 e2
    have ne : ¬ c = lo := by omega
    unfold adr
    rw [if_neg ne]
    exact hh.upto (by omega)
theorem cutA_rest {w : World} {B b p n c lo : Nat} {l : List Int} (h : Holds w B (some ⟨b, p, none⟩) n c l) (h1 : lo ≤ n) : Holds w B (some (adr b p c lo)) (n - lo) (c - lo) (l.drop lo) := by
  have := cutA_holds h h1 (Nat.le_refl n)
  rwa [List.take_of_length_le (by rw [List.length_drop, h.1]; exact Nat.le_refl _)] at this

end Go.Proofs.YtdnkbefpbehllaaDoor.CutA

/- The contract of the code's Block. -/
set_option linter.unusedVariables false
namespace Go.Proofs.YtdnkbefpbehllaaDoor.Aes6
open Go.RowKit Go.PlainAid Go.Proofs.YtdnkbefpbehllaaDoor.Sums Go.Proofs.YtdnkbefpbehllaaDoor.Mem Go.Proofs.YtdnkbefpbehllaaDoor.Blk Go.Proofs.YtdnkbefpbehllaaDoor.Bits3 Go.Proofs.YtdnkbefpbehllaaDoor.Ints Go.Proofs.YtdnkbefpbehllaaDoor.CutA Go.Proofs.YtdnkbefpbehllaaDoor.AesF Go.Proofs.YtdnkbefpbehllaaDoor.AesB Go.Proofs.YtdnkbefpbehllaaDoor.AesR2 Go.Proofs.YtdnkbefpbehllaaDoor.AesR3 Go.Proofs.YtdnkbefpbehllaaDoor.Aes1 Go.Proofs.YtdnkbefpbehllaaDoor.Aes2 Go.Proofs.YtdnkbefpbehllaaDoor.Aes3 Go.Proofs.YtdnkbefpbehllaaDoor.Aes4 Go.Proofs.YtdnkbefpbehllaaDoor.Aes5

/-- A whole array read out of a row of bytes, at a place. -/
theorem run_loadVar_at (w : World) (b p : Nat) (ty : TypeId) (l : List Nat) (d : TypeDesc) (hu : Tryd.prog.underlying ty = some d) (hd : (match d with | .struct _ | .array _ _ => true | _ => false) = true)
    (hi : (Tryd.prog.info? ty).map (·.size) = some l.length) (h : ∀ j, j < l.length → w.cell? ⟨b, p + j, none⟩ = some (.int .u8 ((l.getD j 0 : Nat) : Int))) : (loadVar ty ⟨b, p, none⟩).run Tryd.prog w = .ok (.agg (bcells l)) w := by
  have hl : (loadCells ⟨b, p, none⟩ (bcells l).toList.length).run Tryd.prog w = .ok (bcells l).toList.toArray w :=
    run_loadCells_list (P := Tryd.prog) w ⟨b, p, none⟩ (bcells l).toList (fun j v hv => by
      rw [add_plain]
      have hj : j < l.length := by
        rcases Nat.lt_or_ge j l.length with h | h
        · exact h
        · rw [List.getElem?_eq_none (by simpa [bcells] using h)] at hv; cases hv
      rw [h j hj]
      have e := bcells_get l j hj
      rw [← e]
      simpa using hv)
  have hlen : (bcells l).toList.length = l.length := by simp [bcells]
  cases hq : Tryd.prog.info? ty with
  | none => simp [hq] at hi
  | some i =>
    have hs : i.size = l.length := by simpa [hq] using hi
    have hagg : (isAgg ty).run Tryd.prog w = .ok true w := by
      unfold isAgg
      rw [Sem.run_bind, run_underlying hu w]
      cases d <;> simp_all
    rw [hlen] at hl
    simp [loadVar, Sem.run_bind, hagg, sizeOf, typeInfo, hq, hs, hl]
theorem wpList_load_at {ops : Array Oper} {rest : List Oper} {o : Oper} {a : Act} {w : World} {Q : Exit → Act → World → Prop} (hgd : o.guard = none) (ty : TypeId) (x : Operand) (ho : o.op = .load ty x)
    (b p : Nat) (l : List Nat) (hx : a.eval x = .pointer (some ⟨b, p, none⟩)) (hr : (loadVar ty ⟨b, p, none⟩).run Tryd.prog w = .ok (.agg (bcells l)) w)
    (h : wpList Tryd.prog ops Q rest (a.put o.dst (.agg (bcells l))) w) : wpList Tryd.prog ops Q (o :: rest) a w :=
  wpList_plain hgd fun _ hK => by
    unfold Oper.wp execOp
    simp only [ho, hx, Instr.loadAt, Instr.sureAddr, Sem.run_bind, Sem.run_pure, Result.andThen_ok, hr]
    exact hK _ _ h
theorem ARow.setRow {w : World} {g : Nat} {t : TypeId} {l : List Nat} (h : ARow w g t l) (m : List Nat) : ARow (w.setRow g (bcells m)) g t m := setRow_heap _ _ _ _ _ _ h
theorem ARow.farRow {w : World} {g k : Nat} {t : TypeId} {l : List Nat} (h : ARow w g t l) (hk : k ≠ g) (cs : Array Value) : ARow (w.setRow k cs) g t l := by
  unfold ARow Blk at *
  unfold World.setRow
  simp only [Array.getElem?_modify]
  rw [if_neg hk]
  exact h
theorem sub_is (l : List Nat) : ((List.range 16).map fun i => ((List.range 16).map fun i => Box (l.getD i 0)).getD (src i) 0) = sub l := by
  show _ = (List.range 16).map fun i => Box (l.getD (src i) 0)
  refine List.map_congr_left fun i hi => ?_
  have h : i < 16 := List.mem_range.1 hi
  have hs : src i < 16 := by unfold src; omega
  rw [List.getD_eq_getElem?_getD, List.getElem?_map, List.getElem?_range hs]
  rfl

set_option maxHeartbeats 1000000 in
theorem sched_no (n : Nat) (hn : n ≤ 1000) (w : World) : Calls Tryd.prog 52 #[.int .i64 (n : Int)] w fun e w' => e = .returned (.int .i64 ((16 * (n / 4 + 7) : Nat) : Int)) ∧ w = w' := by
  have e1 : (n : Int).tdiv 4 = (n : Int) / 4 := Int.tdiv_eq_ediv_of_nonneg (by omega)
  have e2 : IntKind.i64.wrap ((n : Int) / 4) = (n : Int) / 4 := IntWalk.i64_in _ (by omega)
  have e3 : IntKind.i64.wrap ((n : Int) / 4 + 7) = (n : Int) / 4 + 7 := IntWalk.i64_in _ (by omega)
  have e4 : IntKind.i64.wrap (16 * ((n : Int) / 4 + 7)) = ((16 * (n / 4 + 7) : Nat) : Int) := by rw [IntWalk.i64_in _ (by omega)]; omega
  obtain ⟨r, hr⟩ : ∃ r, r = 16 * (n / 4 + 7) := ⟨_, rfl⟩
  rw [← hr] at e4 ⊢
  clear hr
  go_enter Tryd.func52, Tryd.ntmps52
  go_wp2_with fail
  go_ret
  exact ⟨rfl, rfl⟩
theorem sched_16 (w : World) : Calls Tryd.prog 52 #[.int .i64 16] w fun e w' => e = .returned (.int .i64 176) ∧ w = w' := sched_no 16 (by decide) w
theorem sched_32 (w : World) : Calls Tryd.prog 52 #[.int .i64 32] w fun e w' => e = .returned (.int .i64 240) ∧ w = w' := sched_no 32 (by decide) w

/-- A block, or keys, of a wrong length. -/
def goodB (n m : Nat) : Bool := (decide (n = 176) || decide (n = 240)) && decide (m = 16)
set_option maxHeartbeats 2000000 in
theorem block_bad (A Ai : Option Addr) (n c m ci : Nat) (w : World) (hn : n ≤ 140737488355328) (hm : m ≤ 140737488355328) (hb : goodB n m = false) :
    Calls Tryd.prog 59 #[.slice A n c, .slice Ai m ci] w fun e w' => e = .returned (.tuple #[.slice none 0 0, .int .i64 1]) ∧ w = w' := by
  have C1 := Lib.hid sched_16
  have C2 := Lib.hid sched_32
  by_cases h1 : n = 176
  · subst h1
    have h3 : m ≠ 16 := fun e => by subst e; simp [goodB] at hb
    have g3 : ((m : Int) != 16) = true := by simp; omega
    clear hb h3
    go_enter Tryd.func59, Tryd.ntmps59
    go_wp2_with fail
    refine (C1.out _).mono ?_
    rintro e w' ⟨rfl, rfl⟩
    go_wp2_with fail
    go_ret2
    exact ⟨rfl, rfl⟩
  · have g1 : ((n : Int) != 176) = true := by simp; omega
    by_cases h2 : n = 240
    · subst h2
      have h3 : m ≠ 16 := fun e => by subst e; simp [goodB] at hb
      have g3 : ((m : Int) != 16) = true := by simp; omega
      clear hb h3 h1
      go_enter Tryd.func59, Tryd.ntmps59
      go_wp2_with fail
      refine (C1.out _).mono ?_
      rintro e w' ⟨rfl, rfl⟩
      go_wp2_with fail
      refine (C2.out _).mono ?_
      rintro e w' ⟨rfl, rfl⟩
      go_wp2_with fail
      go_ret2
      exact ⟨rfl, rfl⟩
    · have g2 : ((n : Int) != 240) = true := by simp; omega
      clear hb h1 h2
      go_enter Tryd.func59, Tryd.ntmps59
      go_wp2_with fail
      refine (C1.out _).mono ?_
      rintro e w' ⟨rfl, rfl⟩
      go_wp2_with fail
      refine (C2.out _).mono ?_
      rintro e w' ⟨rfl, rfl⟩
      go_wp2_with fail
      go_ret2
      exact ⟨rfl, rfl⟩
end Go.Proofs.YtdnkbefpbehllaaDoor.Aes6

/- The contract of the code's Block: what may be. -/
set_option linter.unusedVariables false
namespace Go.Proofs.YtdnkbefpbehllaaDoor.Aes7
open Go.RowKit Go.PlainAid Go.Proofs.YtdnkbefpbehllaaDoor.Sums Go.Proofs.YtdnkbefpbehllaaDoor.Mem Go.Proofs.YtdnkbefpbehllaaDoor.Blk Go.Proofs.YtdnkbefpbehllaaDoor.Bits3 Go.Proofs.YtdnkbefpbehllaaDoor.Ints Go.Proofs.YtdnkbefpbehllaaDoor.CutA Go.Proofs.YtdnkbefpbehllaaDoor.AesF Go.Proofs.YtdnkbefpbehllaaDoor.AesB Go.Proofs.YtdnkbefpbehllaaDoor.AesR2 Go.Proofs.YtdnkbefpbehllaaDoor.AesR3 Go.Proofs.YtdnkbefpbehllaaDoor.Aes1 Go.Proofs.YtdnkbefpbehllaaDoor.Aes2 Go.Proofs.YtdnkbefpbehllaaDoor.Aes3 Go.Proofs.YtdnkbefpbehllaaDoor.Aes4 Go.Proofs.YtdnkbefpbehllaaDoor.Aes5 Go.Proofs.YtdnkbefpbehllaaDoor.Aes6

theorem nats_drop (l : List Int) (k : Nat) : nats (l.drop k) = (nats l).drop k := by simp [nats, List.map_drop]
theorem boxed_byt {l : List Nat} (h : Byt l) : Byt ((List.range 16).map fun i => Box (l.getD i 0)) := row_byt fun i _ => Box_lt (h.get _)
theorem boxed_len (l : List Nat) : ((List.range 16).map fun i => Box (l.getD i 0)).length = 16 := by simp
theorem slice_all (g : Nat) (w : World) : (Instr.sliceAt 116 (.pointer (some ⟨g, 0, none⟩)) none none none).run Tryd.prog w = .ok (.slice (some ⟨g, 0, none⟩) 16 16) w := by
  have he : (sizeOf (Tryd.prog.elem 116)).run Tryd.prog w = .ok 1 w := by kernel_rfl
  have hl : Tryd.prog.arrayLen 116 = 16 := by kernel_rfl
  rw [run_sliceAt_array_all w 116 ⟨g, 0, none⟩ (by kernel_rfl), he, hl]
  simp only [Result.andThen_ok, slicedAt, Nat.sub_zero]
  rw [if_neg (by omega), Nat.zero_mul, add_plain]
/-- A block unlike the keys' first sixteen bytes, after its bytes' Box and its rows' turning: what the three calls answer. -/
theorem plus_is (l : List Nat) (h16 : l.length = 16) (hl : Byt l) (A : Option Addr) (n c : Nat) (ks : List Int) (KS : List Nat) (hk : nats ks = KS) (B : Nat) (w : World) (h : Holds w B A n c ks) (hB : B ≤ w.heap.size) (hn16 : 16 ≤ n) :
    Calls Tryd.prog 62 #[.agg (bcells l), .slice A n c] w fun e w' => e = .returned (.agg (bcells (wth l KS))) ∧ Below w.heap.size w w' := by
  subst hk
  exact bplus l h16 hl A n c ks B w h hB hn16
theorem shift_is (l : List Nat) (w : World) : Calls Tryd.prog 64 #[.agg (bcells ((List.range 16).map fun i => Box (l.getD i 0)))] w fun e w' => e = .returned (.agg (bcells (sub l))) ∧ Below w.heap.size w w' := by
  rw [← sub_is]
  exact bshifted _ (boxed_len l) w
def lenV : Value → Nat
  | .slice _ n _ => n
  | _ => 0
/-- What holds of a block in memory and what is to come. -/
structure St (w0 wr : World) (gs gx : Nat) (l : List Nat) : Prop where
  row : ARow wr gs 116 l
  byt : Byt l
  len : l.length = 16
  box : ARow wr gx 114 boxes
  bel : Below w0.heap.size w0 wr
  ge : w0.heap.size ≤ gs
  ne : gs ≠ gx

set_option maxHeartbeats 4000000 in
set_option maxRecDepth 100000 in
theorem block_no (A : Option Addr) (n c : Nat) (ks : List Int) (Ai : Option Addr) (ci : Nat) (ins : List Int) (w : World) (B : Nat) (h : Holds w B A n c ks) (hi : Holds w B Ai 16 ci ins) (hB : B ≤ w.heap.size) (hn : n = 176 ∨ n = 240) :
    Calls Tryd.prog 59 #[.slice A n c, .slice Ai 16 ci] w fun e w' => ∃ g, e = .returned (.tuple #[.slice (some ⟨g, 0, none⟩) 16 16, .int .i64 0]) ∧ w.heap.size ≤ g ∧ ARow w' g 116 (block (nats ks) (nats ins)) ∧ Below w.heap.size w w' := by
  obtain ⟨N, hN⟩ : ∃ N, n = 16 * (N + 1) := ⟨n / 16 - 1, by omega⟩
  obtain ⟨q, p, rfl, _⟩ := h.2.2.2.2 (by omega)
  obtain ⟨qi, pi, rfl, _⟩ := hi.2.2.2.2 (by omega)
  have KB := Lib.hid (nats_byt h.2.2.2.1)
  have IB := Lib.hid (nats_byt hi.2.2.2.1)
  have IL : Hid ((nats ins).length = 16) := Lib.hid ((nats_len ins).trans hi.1)
  have KL : (nats ks).length = n := (nats_len ks).trans h.1
  have RE : Hid (rounds N (wth (nats ins) (nats ks)) ((nats ks).drop 16) = block (nats ks) (nats ins)) := Lib.hid (by
    unfold block
    rw [KL, hN, Nat.mul_div_cancel_left _ (by decide)]
    rfl)
  have NBI := Lib.hid (fun i => nats_getD hi.2.2.2.1 i)
  have KD := Lib.hid (fun k => nats_drop ks k)
  obtain ⟨KK, hKK⟩ : ∃ KK, KK = nats ks := ⟨_, rfl⟩
  obtain ⟨II, hII⟩ : ∃ II, II = nats ins := ⟨_, rfl⟩
  have KW := Lib.hid hKK.symm
  rw [← hKK] at KB RE KD ⊢
  rw [← hII] at IB IL RE NBI ⊢
  obtain ⟨R, hR⟩ : ∃ R, R = block KK II := ⟨_, rfl⟩
  rw [← hR] at RE ⊢
  have HK := Lib.hid h
  have HI := Lib.hid hi
  have NN := Lib.hid hN
  have N2 : Hid (10 ≤ N ∧ N ≤ 14) := Lib.hid (by omega)
  have hz : ∀ v : World, (zeroValue 116).run Tryd.prog v = .ok (.agg (bcells (List.replicate 16 0))) v := zero_16
  obtain ⟨Z, hZ⟩ : ∃ Z, Z = List.replicate 16 0 := ⟨_, rfl⟩
  rw [← hZ] at hz
  have ZL : Hid (Z.length = 16) := Lib.hid (by rw [hZ, List.length_replicate])
  have hat : ∀ v : World, (Instr.arrayAt 116 (.slice (some ⟨qi, pi, none⟩) 16 ci)).run Tryd.prog v = .ok (.pointer (some ⟨qi, pi, none⟩)) v := fun v => run_arrayAt v 116 _ 16 _ 16 ci Tryd.underlying116 (Nat.le_refl _)
  have C1 := Lib.hid sched_16
  have C2 := Lib.hid sched_32
  have D1 : Hid (∀ wb, Below w.heap.size w wb → (loadVar 116 ⟨qi, pi, none⟩).run Tryd.prog wb = .ok (.agg (bcells II)) wb) := Lib.hid fun wb hb => by
    refine run_loadVar_at wb qi pi _ II _ Tryd.underlying116 rfl (by rw [IL.out]; kernel_rfl) fun j hj => ?_
    rw [IL.out] at hj
    have := cell_getD (HI.out.below (hb.mono hB)) j hj
    rwa [NBI.out j] at this
  have CS := Lib.hid (fun (W : World) => cut_l q p n c 16 W (by omega) h.2.1 (by have := h.2.1; omega))
  have HD : Hid (Holds w B (some ⟨q, p + 16, none⟩) (n - 16) (c - 16) (ks.drop 16)) := Lib.hid (by
    obtain ⟨b', o', e, r⟩ := h.from_ (show 16 < n by omega)
    injection e with e
    injection e with e1 e2
    subst e1 e2
    exact r)
  clear hZ h hi hKK hII hR KL hN
  rcases hn with rfl | rfl
  · obtain rfl : N = 10 := by have := NN.out; omega
    have nv : 176 - 16 = 160 := rfl
    go_enter Tryd.func59, Tryd.ntmps59
    go_wp2_with fail
    refine (C1.out _).mono ?_
    rintro e w' ⟨rfl, rfl⟩
    go_wp2_with fail
    refine (boxes_no w).mono ?_
    rintro e w1 ⟨gx, rfl, hgx, hr, hb⟩
    have hl := D1.out w1 hb
    have HX := Lib.hid hr
    have HB1 := Lib.hid hb
    clear hr hb
    go_wp2_with (first
      | (refine wpList_load_at rfl _ _ rfl qi pi II rfl hl ?_))
    clear hl
    refine (plus_is II IL.out IB.out _ _ _ ks KK KW.out B w1 (HK.out.below (HB1.out.mono hB)) (by have := HB1.out.size; omega) (by decide)).mono ?_
    rintro e w2 ⟨rfl, hb⟩
    have HX2 : Hid (ARow (w2.alloc (.cells (bcells Z) 116)) gx 114 boxes) := Lib.hid ((HX.out.up hb).alloc _)
    have HB2 := Lib.hid (HB1.out.trans (hb.mono HB1.out.size))
    have HS : ARow (w2.alloc (.cells (bcells Z) 116)) w2.heap.size 116 Z := ARow.new w2 _ _
    have HN : Hid (w2.heap.size ≠ gx) := Lib.hid (by have := (HX.out.up hb).lt; omega)
    have W2 : Hid (Byt (wth II KK) ∧ (wth II KK).length = 16) := Lib.hid ⟨wth_byt IB.out KB.out, row_len _⟩
    obtain ⟨l0, hl0⟩ : ∃ l0, l0 = wth II KK := ⟨_, rfl⟩
    rw [← hl0] at W2 RE ⊢
    have s0 : (bcells l0).size = 16 := by rw [bcells_size, W2.out.2]
    have sZ : (bcells Z).size = 16 := by rw [bcells_size, ZL.out]
    have o0 := bcells_one l0
    have ST0 : Hid (St w ((w2.alloc (.cells (bcells Z) 116)).setRow w2.heap.size (bcells l0)) w2.heap.size gx l0) := Lib.hid
      ⟨ARow.setRow HS l0, W2.out.1, W2.out.2, ARow.farRow HX2.out HN.out _, below_setRow (HB2.out.alloc HB2.out.size _) HB2.out.size, HB2.out.size, HN.out⟩
    clear hb hl0 HX HX2 HB1 HB2 hgx
    unfold ARow at HS
    have cs : ∀ W : World, (Instr.sliceAt 25 (.slice (some ⟨q, p, none⟩) 176 c) (some (.int .i64 16)) none none).run Tryd.prog W = .ok (.slice (some ⟨q, p + 16, none⟩) 160 (c - 16)) W := CS.out
    go_wp2_with (first
      | (refine wpList_store_row rfl _ _ _ rfl w2.heap.size (bcells l0) rfl rfl 116 _ HS (by rw [s0]; kernel_rfl) (by rw [s0, sZ]) o0 ?_))
    clear cs CS HS s0 sZ o0 hz hat W2 D1
    generalize (w2.alloc (.cells (bcells Z) 116)).setRow w2.heap.size (bcells l0) = w3 at *
    generalize w2.heap.size = gs at *
    go_loopw [0] (fun kv wr => ∃ (m nn pp cc : Nat) (l : List Nat), kv = .slice (some ⟨q, pp, none⟩) nn cc ∧ Hid (m < 10 ∧ nn = 16 * (10 - m)) ∧ Hid (Holds w B (some ⟨q, pp, none⟩) nn cc (ks.drop (16 * (m + 1)))) ∧ Hid (rounds (10 - m) l (KK.drop (16 * (m + 1))) = R) ∧ Hid (St w wr gs gx l)) (fun kv _ => lenV kv)
    case atStart => exact ⟨0, 160, p + 16, c - 16, l0, rfl, Lib.hid ⟨by decide, rfl⟩, HD.out |> Lib.hid, RE, ST0⟩
    case round =>
      obtain ⟨m, nn, pp, cc, l, rfl, HM, HH, HE, HS⟩ := hrel
      clear RE ST0 HD
      generalize wr = wo at *
      have sto := HS.out
      have r1 := sto.row
      have sl := sto.len
      have sb : (bcells l).size = 16 := by rw [bcells_size, sl]
      unfold ARow at r1
      clear sl sto
      by_cases hlt : 16 < nn
      · have gk : decide ((16 : Int) < (nn : Int)) = true := decide_eq_true (by omega)
        have gk' : decide (16 < nn) = true := decide_eq_true hlt
        go_wp2_with (first
          | (refine wpList_load_row rfl _ _ rfl gs rfl 116 (bcells l) (0, 0) _ r1 (Tryd.underlying116) rfl (by rw [sb]; kernel_rfl) ?_))
        clear r1 sb gk gk'
        refine (bboxed l HS.out.len HS.out.byt gx wo HS.out.box).mono ?_
        rintro e w4 ⟨rfl, hb1⟩
        go_wp2_with fail
        refine (shift_is l w4).mono ?_
        rintro e w5 ⟨rfl, hb2⟩
        go_wp2_with fail
        refine (bmixed (sub l) (row_len _) (sub_byt HS.out.byt) w5).mono ?_
        rintro e w6 ⟨rfl, hb3⟩
        have B6 := Lib.hid ((hb1.trans (hb2.mono hb1.size)).trans (hb3.mono (hb1.trans (hb2.mono hb1.size)).size))
        clear hb1 hb2 hb3
        go_wp2_with fail
        refine (plus_is (mixl (sub l)) (row_len _) (mixl_byt (sub_byt HS.out.byt)) _ _ _ (ks.drop (16 * (m + 1))) _ (KD.out _) B w6 (HH.out.below ((HS.out.bel.trans (B6.out.mono HS.out.bel.size)).mono hB)) (by have := HS.out.bel.size; have := B6.out.size; omega) (by omega)).mono ?_
        rintro e w7 ⟨rfl, hb⟩
        have B7 := Lib.hid (B6.out.trans (hb.mono B6.out.size))
        have BE := Lib.hid (HS.out.bel.trans (B7.out.mono HS.out.bel.size))
        have r7 : ARow w7 gs 116 l := ARow.up HS.out.row B7.out
        have x7 : Hid (ARow w7 gx 114 boxes) := Lib.hid (ARow.up HS.out.box B7.out)
        have MM := HM.out
        have E2 : Hid (rounds (10 - (m + 1)) (wth (mixl (sub l)) (KK.drop (16 * (m + 1)))) (KK.drop (16 * (m + 1 + 1))) = R) := Lib.hid (by
          have := HE.out
          rw [show 10 - m = (10 - (m + 1)) + 1 by omega, rounds, List.drop_drop, if_neg (by omega)] at this
          rw [show 16 * (m + 1 + 1) = 16 * (m + 1) + 16 by omega]
          exact this)
        have H2 : Hid (Holds w B (some ⟨q, pp + 16, none⟩) (nn - 16) (cc - 16) (ks.drop (16 * (m + 1 + 1)))) := Lib.hid (by
          obtain ⟨b', o', e, r⟩ := HH.out.from_ (show 16 < nn by omega)
          injection e with e
          injection e with e1 e2
          subst e1 e2
          rw [List.drop_drop] at r
          rw [show 16 * (m + 1 + 1) = 16 * (m + 1) + 16 by omega]
          exact r)
        have cs : ∀ W : World, (Instr.sliceAt 25 (.slice (some ⟨q, pp, none⟩) nn cc) (some (.int .i64 16)) none none).run Tryd.prog W = .ok (.slice (some ⟨q, pp + 16, none⟩) (nn - 16) (cc - 16)) W := fun W => cut_l q pp nn cc 16 W (by omega) HH.out.2.1 (by have := HH.out.2.1; omega)
        have M2 : Hid (m + 1 < 10 ∧ nn - 16 = 16 * (10 - (m + 1))) := Lib.hid (by omega)
        have W7 : Hid (Byt (wth (mixl (sub l)) (KK.drop (16 * (m + 1)))) ∧ (wth (mixl (sub l)) (KK.drop (16 * (m + 1)))).length = 16) := Lib.hid ⟨wth_byt (mixl_byt (sub_byt HS.out.byt)) (KB.out.drop _), row_len _⟩
        obtain ⟨l7, hl7⟩ : ∃ l7, l7 = wth (mixl (sub l)) (KK.drop (16 * (m + 1))) := ⟨_, rfl⟩
        rw [← hl7] at E2 W7 ⊢
        have s7 : (bcells l7).size = 16 := by rw [bcells_size, W7.out.2]
        have sL : (bcells l).size = 16 := by rw [bcells_size, HS.out.len]
        have o7 := bcells_one l7
        have S7 : Hid (St w (w7.setRow gs (bcells l7)) gs gx l7) := Lib.hid
          ⟨ARow.setRow r7 l7, W7.out.1, W7.out.2, ARow.farRow x7.out HS.out.ne _, below_setRow BE.out HS.out.ge, HS.out.ge, HS.out.ne⟩
        clear hb hl7 B6 B7 BE x7 HM MM HH HE HS W7
        unfold ARow at r7
        go_wp2_with (first
          | (refine wpList_store_row rfl _ _ _ rfl gs (bcells l7) rfl rfl 116 _ r7 (by rw [s7]; kernel_rfl) (by rw [s7, sL]) o7 ?_))
        go_roundw
        case rel => exact ⟨m + 1, nn - 16, pp + 16, cc - 16, l7, rfl, M2, H2, E2, S7⟩
        case measure => simp [lenV]; omega
      · have gk : decide ((16 : Int) < (nn : Int)) = false := decide_eq_false (by omega)
        have gk' : decide (16 < nn) = false := decide_eq_false hlt
        have SA := slice_all gs
        obtain rfl : nn = 16 := by have := HM.out; omega
        have mv : 10 - m = 1 := by have := HM.out; omega
        go_wp2_with (first
          | (refine wpList_load_row rfl _ _ rfl gs rfl 116 (bcells l) (0, 0) _ r1 (Tryd.underlying116) rfl (by rw [sb]; kernel_rfl) ?_))
        clear r1 sb gk gk'
        refine (bboxed l HS.out.len HS.out.byt gx wo HS.out.box).mono ?_
        rintro e w4 ⟨rfl, hb1⟩
        go_wp2_with fail
        refine (shift_is l w4).mono ?_
        rintro e w5 ⟨rfl, hb2⟩
        have B6 := Lib.hid (hb1.trans (hb2.mono hb1.size))
        clear hb1 hb2
        go_wp2_with fail
        refine (plus_is (sub l) (row_len _) (sub_byt HS.out.byt) _ _ _ (ks.drop (16 * (m + 1))) _ (KD.out _) B w5 (HH.out.below ((HS.out.bel.trans (B6.out.mono HS.out.bel.size)).mono hB)) (by have := HS.out.bel.size; have := B6.out.size; omega) (by omega)).mono ?_
        rintro e w7 ⟨rfl, hb⟩
        have B7 := Lib.hid (B6.out.trans (hb.mono B6.out.size))
        have BE := Lib.hid (HS.out.bel.trans (B7.out.mono HS.out.bel.size))
        have r7 : ARow w7 gs 116 l := ARow.up HS.out.row B7.out
        have LR : wth (sub l) (KK.drop (16 * (m + 1))) = R := by
          have := HE.out
          rw [mv] at this
          exact this
        have RL : Hid (R.length = 16) := Lib.hid (by rw [← LR]; exact row_len _)
        rw [LR]
        have s7 : (bcells R).size = 16 := by rw [bcells_size, RL.out]
        have sL : (bcells l).size = 16 := by rw [bcells_size, HS.out.len]
        have o7 := bcells_one R
        have S7 : Hid (ARow (w7.setRow gs (bcells R)) gs 116 R ∧ Below w.heap.size w (w7.setRow gs (bcells R)) ∧ w.heap.size ≤ gs) := Lib.hid
          ⟨ARow.setRow r7 R, below_setRow BE.out HS.out.ge, HS.out.ge⟩
        clear hb B6 B7 BE HM HH HE HS LR mv
        unfold ARow at r7
        go_wp2_with (first
          | (refine wpList_store_row rfl _ _ _ rfl gs (bcells R) rfl rfl 116 _ r7 (by rw [s7]; kernel_rfl) (by rw [s7, sL]) o7 ?_))
        go_ret2
        exact ⟨gs, rfl, S7.out.2.2, S7.out.1, S7.out.2.1⟩
  · obtain rfl : N = 14 := by have := NN.out; omega
    have nv : 240 - 16 = 224 := rfl
    go_enter Tryd.func59, Tryd.ntmps59
    go_wp2_with fail
    refine (C1.out _).mono ?_
    rintro e w' ⟨rfl, rfl⟩
    go_wp2_with fail
    refine (C2.out _).mono ?_
    rintro e w' ⟨rfl, rfl⟩
    go_wp2_with fail
    refine (boxes_no w).mono ?_
    rintro e w1 ⟨gx, rfl, hgx, hr, hb⟩
    have hl := D1.out w1 hb
    have HX := Lib.hid hr
    have HB1 := Lib.hid hb
    clear hr hb
    go_wp2_with (first
      | (refine wpList_load_at rfl _ _ rfl qi pi II rfl hl ?_))
    clear hl
    refine (plus_is II IL.out IB.out _ _ _ ks KK KW.out B w1 (HK.out.below (HB1.out.mono hB)) (by have := HB1.out.size; omega) (by decide)).mono ?_
    rintro e w2 ⟨rfl, hb⟩
    have HX2 : Hid (ARow (w2.alloc (.cells (bcells Z) 116)) gx 114 boxes) := Lib.hid ((HX.out.up hb).alloc _)
    have HB2 := Lib.hid (HB1.out.trans (hb.mono HB1.out.size))
    have HS : ARow (w2.alloc (.cells (bcells Z) 116)) w2.heap.size 116 Z := ARow.new w2 _ _
    have HN : Hid (w2.heap.size ≠ gx) := Lib.hid (by have := (HX.out.up hb).lt; omega)
    have W2 : Hid (Byt (wth II KK) ∧ (wth II KK).length = 16) := Lib.hid ⟨wth_byt IB.out KB.out, row_len _⟩
    obtain ⟨l0, hl0⟩ : ∃ l0, l0 = wth II KK := ⟨_, rfl⟩
    rw [← hl0] at W2 RE ⊢
    have s0 : (bcells l0).size = 16 := by rw [bcells_size, W2.out.2]
    have sZ : (bcells Z).size = 16 := by rw [bcells_size, ZL.out]
    have o0 := bcells_one l0
    have ST0 : Hid (St w ((w2.alloc (.cells (bcells Z) 116)).setRow w2.heap.size (bcells l0)) w2.heap.size gx l0) := Lib.hid
      ⟨ARow.setRow HS l0, W2.out.1, W2.out.2, ARow.farRow HX2.out HN.out _, below_setRow (HB2.out.alloc HB2.out.size _) HB2.out.size, HB2.out.size, HN.out⟩
    clear hb hl0 HX HX2 HB1 HB2 hgx
    unfold ARow at HS
    have cs : ∀ W : World, (Instr.sliceAt 25 (.slice (some ⟨q, p, none⟩) 240 c) (some (.int .i64 16)) none none).run Tryd.prog W = .ok (.slice (some ⟨q, p + 16, none⟩) 224 (c - 16)) W := CS.out
    go_wp2_with (first
      | (refine wpList_store_row rfl _ _ _ rfl w2.heap.size (bcells l0) rfl rfl 116 _ HS (by rw [s0]; kernel_rfl) (by rw [s0, sZ]) o0 ?_))
    clear cs CS HS s0 sZ o0 hz hat W2 D1
    generalize (w2.alloc (.cells (bcells Z) 116)).setRow w2.heap.size (bcells l0) = w3 at *
    generalize w2.heap.size = gs at *
    go_loopw [0] (fun kv wr => ∃ (m nn pp cc : Nat) (l : List Nat), kv = .slice (some ⟨q, pp, none⟩) nn cc ∧ Hid (m < 14 ∧ nn = 16 * (14 - m)) ∧ Hid (Holds w B (some ⟨q, pp, none⟩) nn cc (ks.drop (16 * (m + 1)))) ∧ Hid (rounds (14 - m) l (KK.drop (16 * (m + 1))) = R) ∧ Hid (St w wr gs gx l)) (fun kv _ => lenV kv)
    case atStart => exact ⟨0, 224, p + 16, c - 16, l0, rfl, Lib.hid ⟨by decide, rfl⟩, HD.out |> Lib.hid, RE, ST0⟩
    case round =>
      obtain ⟨m, nn, pp, cc, l, rfl, HM, HH, HE, HS⟩ := hrel
      clear RE ST0 HD
      generalize wr = wo at *
      have sto := HS.out
      have r1 := sto.row
      have sl := sto.len
      have sb : (bcells l).size = 16 := by rw [bcells_size, sl]
      unfold ARow at r1
      clear sl sto
      by_cases hlt : 16 < nn
      · have gk : decide ((16 : Int) < (nn : Int)) = true := decide_eq_true (by omega)
        have gk' : decide (16 < nn) = true := decide_eq_true hlt
        go_wp2_with (first
          | (refine wpList_load_row rfl _ _ rfl gs rfl 116 (bcells l) (0, 0) _ r1 (Tryd.underlying116) rfl (by rw [sb]; kernel_rfl) ?_))
        clear r1 sb gk gk'
        refine (bboxed l HS.out.len HS.out.byt gx wo HS.out.box).mono ?_
        rintro e w4 ⟨rfl, hb1⟩
        go_wp2_with fail
        refine (shift_is l w4).mono ?_
        rintro e w5 ⟨rfl, hb2⟩
        go_wp2_with fail
        refine (bmixed (sub l) (row_len _) (sub_byt HS.out.byt) w5).mono ?_
        rintro e w6 ⟨rfl, hb3⟩
        have B6 := Lib.hid ((hb1.trans (hb2.mono hb1.size)).trans (hb3.mono (hb1.trans (hb2.mono hb1.size)).size))
        clear hb1 hb2 hb3
        go_wp2_with fail
        refine (plus_is (mixl (sub l)) (row_len _) (mixl_byt (sub_byt HS.out.byt)) _ _ _ (ks.drop (16 * (m + 1))) _ (KD.out _) B w6 (HH.out.below ((HS.out.bel.trans (B6.out.mono HS.out.bel.size)).mono hB)) (by have := HS.out.bel.size; have := B6.out.size; omega) (by omega)).mono ?_
        rintro e w7 ⟨rfl, hb⟩
        have B7 := Lib.hid (B6.out.trans (hb.mono B6.out.size))
        have BE := Lib.hid (HS.out.bel.trans (B7.out.mono HS.out.bel.size))
        have r7 : ARow w7 gs 116 l := ARow.up HS.out.row B7.out
        have x7 : Hid (ARow w7 gx 114 boxes) := Lib.hid (ARow.up HS.out.box B7.out)
        have MM := HM.out
        have E2 : Hid (rounds (14 - (m + 1)) (wth (mixl (sub l)) (KK.drop (16 * (m + 1)))) (KK.drop (16 * (m + 1 + 1))) = R) := Lib.hid (by
          have := HE.out
          rw [show 14 - m = (14 - (m + 1)) + 1 by omega, rounds, List.drop_drop, if_neg (by omega)] at this
          rw [show 16 * (m + 1 + 1) = 16 * (m + 1) + 16 by omega]
          exact this)
        have H2 : Hid (Holds w B (some ⟨q, pp + 16, none⟩) (nn - 16) (cc - 16) (ks.drop (16 * (m + 1 + 1)))) := Lib.hid (by
          obtain ⟨b', o', e, r⟩ := HH.out.from_ (show 16 < nn by omega)
          injection e with e
          injection e with e1 e2
          subst e1 e2
          rw [List.drop_drop] at r
          rw [show 16 * (m + 1 + 1) = 16 * (m + 1) + 16 by omega]
          exact r)
        have cs : ∀ W : World, (Instr.sliceAt 25 (.slice (some ⟨q, pp, none⟩) nn cc) (some (.int .i64 16)) none none).run Tryd.prog W = .ok (.slice (some ⟨q, pp + 16, none⟩) (nn - 16) (cc - 16)) W := fun W => cut_l q pp nn cc 16 W (by omega) HH.out.2.1 (by have := HH.out.2.1; omega)
        have M2 : Hid (m + 1 < 14 ∧ nn - 16 = 16 * (14 - (m + 1))) := Lib.hid (by omega)
        have W7 : Hid (Byt (wth (mixl (sub l)) (KK.drop (16 * (m + 1)))) ∧ (wth (mixl (sub l)) (KK.drop (16 * (m + 1)))).length = 16) := Lib.hid ⟨wth_byt (mixl_byt (sub_byt HS.out.byt)) (KB.out.drop _), row_len _⟩
        obtain ⟨l7, hl7⟩ : ∃ l7, l7 = wth (mixl (sub l)) (KK.drop (16 * (m + 1))) := ⟨_, rfl⟩
        rw [← hl7] at E2 W7 ⊢
        have s7 : (bcells l7).size = 16 := by rw [bcells_size, W7.out.2]
        have sL : (bcells l).size = 16 := by rw [bcells_size, HS.out.len]
        have o7 := bcells_one l7
        have S7 : Hid (St w (w7.setRow gs (bcells l7)) gs gx l7) := Lib.hid
          ⟨ARow.setRow r7 l7, W7.out.1, W7.out.2, ARow.farRow x7.out HS.out.ne _, below_setRow BE.out HS.out.ge, HS.out.ge, HS.out.ne⟩
        clear hb hl7 B6 B7 BE x7 HM MM HH HE HS W7
        unfold ARow at r7
        go_wp2_with (first
          | (refine wpList_store_row rfl _ _ _ rfl gs (bcells l7) rfl rfl 116 _ r7 (by rw [s7]; kernel_rfl) (by rw [s7, sL]) o7 ?_))
        go_roundw
        case rel => exact ⟨m + 1, nn - 16, pp + 16, cc - 16, l7, rfl, M2, H2, E2, S7⟩
        case measure => simp [lenV]; omega
      · have gk : decide ((16 : Int) < (nn : Int)) = false := decide_eq_false (by omega)
        have gk' : decide (16 < nn) = false := decide_eq_false hlt
        have SA := slice_all gs
        obtain rfl : nn = 16 := by have := HM.out; omega
        have mv : 14 - m = 1 := by have := HM.out; omega
        go_wp2_with (first
          | (refine wpList_load_row rfl _ _ rfl gs rfl 116 (bcells l) (0, 0) _ r1 (Tryd.underlying116) rfl (by rw [sb]; kernel_rfl) ?_))
        clear r1 sb gk gk'
        refine (bboxed l HS.out.len HS.out.byt gx wo HS.out.box).mono ?_
        rintro e w4 ⟨rfl, hb1⟩
        go_wp2_with fail
        refine (shift_is l w4).mono ?_
        rintro e w5 ⟨rfl, hb2⟩
        have B6 := Lib.hid (hb1.trans (hb2.mono hb1.size))
        clear hb1 hb2
        go_wp2_with fail
        refine (plus_is (sub l) (row_len _) (sub_byt HS.out.byt) _ _ _ (ks.drop (16 * (m + 1))) _ (KD.out _) B w5 (HH.out.below ((HS.out.bel.trans (B6.out.mono HS.out.bel.size)).mono hB)) (by have := HS.out.bel.size; have := B6.out.size; omega) (by omega)).mono ?_
        rintro e w7 ⟨rfl, hb⟩
        have B7 := Lib.hid (B6.out.trans (hb.mono B6.out.size))
        have BE := Lib.hid (HS.out.bel.trans (B7.out.mono HS.out.bel.size))
        have r7 : ARow w7 gs 116 l := ARow.up HS.out.row B7.out
        have LR : wth (sub l) (KK.drop (16 * (m + 1))) = R := by
          have := HE.out
          rw [mv] at this
          exact this
        have RL : Hid (R.length = 16) := Lib.hid (by rw [← LR]; exact row_len _)
        rw [LR]
        have s7 : (bcells R).size = 16 := by rw [bcells_size, RL.out]
        have sL : (bcells l).size = 16 := by rw [bcells_size, HS.out.len]
        have o7 := bcells_one R
        have S7 : Hid (ARow (w7.setRow gs (bcells R)) gs 116 R ∧ Below w.heap.size w (w7.setRow gs (bcells R)) ∧ w.heap.size ≤ gs) := Lib.hid
          ⟨ARow.setRow r7 R, below_setRow BE.out HS.out.ge, HS.out.ge⟩
        clear hb B6 B7 BE HM HH HE HS LR mv
        unfold ARow at r7
        go_wp2_with (first
          | (refine wpList_store_row rfl _ _ _ rfl gs (bcells R) rfl rfl 116 _ r7 (by rw [s7]; kernel_rfl) (by rw [s7, sL]) o7 ?_))
        go_ret2
        exact ⟨gs, rfl, S7.out.2.2, S7.out.1, S7.out.2.1⟩
end Go.Proofs.YtdnkbefpbehllaaDoor.Aes7

