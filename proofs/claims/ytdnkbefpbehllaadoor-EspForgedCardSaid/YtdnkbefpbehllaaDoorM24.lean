/- Steps of a region whose order is open: numbers of 32 bits: places of arrays, loads, stores, turned into others, sums and bits. No function is named. -/
import Derived.Test.YtdnkbefpbehllaaDoorM05
import Derived.Test.YtdnkbefpbehllaaDoorM20
import Derived.Test.YtdnkbefpbehllaaDoorM15
import Derived.Lib.QuietBelow
import Derived.BigQuiet
import Derived.Deep.QuietTactic
set_option linter.unusedVariables false
namespace Go.Proofs.YtdnkbefpbehllaaDoor.OpsU
open Go.RowKit Go.Proofs.YtdnkbefpbehllaaDoor.Sums Go.Proofs.YtdnkbefpbehllaaDoor.Mem Go.Proofs.YtdnkbefpbehllaaDoor.Blk Go.Proofs.YtdnkbefpbehllaaDoor.Bits Go.Proofs.YtdnkbefpbehllaaDoor.Bits3 Go.Proofs.YtdnkbefpbehllaaDoor.Ints Go.Proofs.YtdnkbefpbehllaaDoor.Steps Go.Proofs.YtdnkbefpbehllaaDoor.Free Go.Proofs.YtdnkbefpbehllaaDoor.Ops Go.Proofs.YtdnkbefpbehllaaDoor.ShaD Go.Proofs.YtdnkbefpbehllaaDoor.Dig1

theorem u32_info : (Tryd.prog.info? 94).map (fun i => (i.zero, i.size, i.bytes)) = some (some (.int .u32 0), 1, 4) := by kernel_rfl
theorem st_uarr_at {o : Oper} {a : Act} {w : World} {K : Act → World → Prop} {Q : Exit → Act → World → Prop} {ty : TypeId} {n : Nat} (hu : Tryd.prog.underlying ty = some (.array n 94)) (x y : Operand) (ho : o.op = .indexAddr ty x y)
    (b i : Nat) (k : IntKind) (z : Int) (hx : a.eval x = .pointer (some ⟨b, 0, none⟩)) (hy : a.eval y = .int k z) (hz : z = (i : Int)) (hi : i < n)
    (h : K (a.put o.dst (.pointer (some ⟨b, i, none⟩))) w) : Step Tryd.prog o a w K Q := by
  subst hz
  refine wp_value (.pointer (some ⟨b, i, none⟩)) ?_ h
  obtain ⟨inf, hif, _, hsz, _⟩ := info_parts u32_info
  have h1 : (0 : Int) ≤ (i : Int) ∧ (i : Int) < (n : Int) := by omega
  simp [execOp, ho, hx, hy, Instr.indexAt, Instr.sureAddr, asIntOf, Sem.run_bind, run_underlying hu w, sizeOf, typeInfo, hif, hsz, h1, hi, Result.andThen, add_plain]
theorem st_store_u {o : Oper} {a : Act} {w : World} {K : Act → World → Prop} {Q : Exit → Act → World → Prop} (x y : Operand) (ho : o.op = .store 94 x y) (ad : Addr) (hx : a.eval x = .pointer (some ad)) (z : Int) (hy : a.eval y = .int .u32 z)
    (u : Value) (hc : w.cell? ad = some u) (hf : w.frozen? ad = false) (hK : K (a.put o.dst undef) (w.setCell ad (.int .u32 z))) : Step Tryd.prog o a w K Q := by
  have hz : (sizeOf 94).run Tryd.prog w = .ok 1 w := by kernel_rfl
  have hr : (storeVar 94 ad (.int .u32 z)).run Tryd.prog w = .ok () (w.setCell ad (.int .u32 z)) := by
    simp [storeVar, Value.cells, storeCells, Addr.add, hz, Result.andThen]
    rw [run_store Tryd.prog w ad _ _ (by rfl)]
    simp [hc, hf]
  constructor
  unfold Oper.wp execOp
  simp only [ho, hx, hy, Instr.storeAt, Instr.sureAddr, Sem.run_bind, Sem.run_pure, Result.andThen_ok, hr]
  exact hK
theorem conv_8_32 (z : Int) (w : World) (h0 : 0 ≤ z) (h1 : z ≤ 255) : (convert 5 94 (.int .u8 z)).run Tryd.prog w = .ok (.int .u32 z) w := by
  have e : IntKind.u32.wrap z = z := by rw [IntKind.wrap_u32]; omega
  have u1 := Tryd.underlying94
  have u2 := Tryd.underlying5
  simp [convert, run_underlying u1, run_underlying u2, Conv.intToInt, e]
theorem b_shl32 (a c : Int) (k : Nat) (x y : Operand) (w : World) (hk : k ≤ 32) (h : IntKind.u32.wrap (a * 2 ^ k) = c) : (do eqGuard .shl 94 x y (.int .u32 a) (.int .u64 (k : Int)); binOp .shl 94 (.int .u32 a) (.int .u64 (k : Int)) : Sem Value).run Tryd.prog w = .ok (.int .u32 c) w := by
  simp [go_sem, eqGuard, h]
theorem b_or32 (a b c : Int) (x y : Operand) (w : World) (h : bits .or .u32 a b = c) : (do eqGuard .or 94 x y (.int .u32 a) (.int .u32 b); binOp .or 94 (.int .u32 a) (.int .u32 b) : Sem Value).run Tryd.prog w = .ok (.int .u32 c) w := by
  subst h
  kernel_rfl
theorem b_add32 (a b c : Int) (x y : Operand) (w : World) (h : IntKind.u32.wrap (a + b) = c) : (do eqGuard .add 94 x y (.int .u32 a) (.int .u32 b); binOp .add 94 (.int .u32 a) (.int .u32 b) : Sem Value).run Tryd.prog w = .ok (.int .u32 c) w := by
  subst h
  kernel_rfl
theorem or_sh (a b i : Nat) (h : b < 2 ^ i) : a * 2 ^ i ||| b = a * 2 ^ i + b := by
  have e := Nat.shiftLeft_add_eq_or_of_lt h a
  rw [Nat.shiftLeft_eq] at e
  exact e.symm
theorem be_or {a b c d : Nat} (ha : a < 256) (hb : b < 256) (hc : c < 256) (hd : d < 256) : a * 16777216 ||| b * 65536 = a * 16777216 + b * 65536 ∧ (a * 16777216 + b * 65536) ||| c * 256 = a * 16777216 + b * 65536 + c * 256 ∧ (a * 16777216 + b * 65536 + c * 256) ||| d = 16777216 * a + 65536 * b + 256 * c + d := by
  have e1 := or_sh a (b * 65536) 24 (by omega)
  have e2 := or_sh (a * 256 + b) (c * 256) 16 (by omega)
  have e3 := or_sh (a * 65536 + b * 256 + c) d 8 (by omega)
  simp only [Nat.reducePow] at e1 e2 e3
  refine ⟨e1, ?_, ?_⟩
  · rw [show a * 16777216 + b * 65536 = (a * 256 + b) * 65536 by omega]; exact e2
  · rw [show a * 16777216 + b * 65536 + c * 256 = (a * 65536 + b * 256 + c) * 256 by omega, e3]; omega

/-! ### The words, one by one -/
def wstep (l : List Nat) (i : Nat) : Nat := (l.getD (i - 16) 0 + lo0 (l.getD (i - 15) 0) + l.getD (i - 7) 0 + lo1 (l.getD (i - 2) 0)) % M
theorem getD_app_left {a b : List Nat} {i : Nat} (h : i < a.length) : (a ++ b).getD i 0 = a.getD i 0 := by
  rw [List.getD_eq_getElem?_getD, List.getElem?_append_left h, ← List.getD_eq_getElem?_getD]
theorem wgo_pre : ∀ (n : Nat) (w : List Nat) (i : Nat), i < w.length → (wgo n w).getD i 0 = w.getD i 0
  | 0, _, _, _ => rfl
  | n + 1, w, i, h => by rw [wgo, wgo_pre n _ i (by rw [List.length_append]; omega), getD_app_left h]
theorem getD_snoc (w : List Nat) (x : Nat) : (w ++ [x]).getD w.length 0 = x := by simp
theorem wgo_last (n : Nat) (w : List Nat) : (wgo (n + 1) w).getD w.length 0 = wnext w := by
  have e : wgo (n + 1) w = wgo n (w ++ [wnext w]) := rfl
  rw [e]
  generalize wnext w = x
  exact (wgo_pre n _ _ (by simp)).trans (getD_snoc w x)
theorem wstep_eq {l k : List Nat} {i : Nat} (h : ∀ j, j < i → l.getD j 0 = k.getD j 0) (h16 : 16 ≤ i) : wstep l i = wstep k i := by
  have e1 := h (i - 16) (by omega)
  have e2 := h (i - 15) (by omega)
  have e3 := h (i - 7) (by omega)
  have e4 := h (i - 2) (by omega)
  simp only [wstep, e1, e2, e3, e4]
theorem wstep_next (w : List Nat) : wstep w w.length = wnext w := by simp only [wstep, wnext]
theorem wgo_step (n : Nat) : ∀ (w : List Nat) (i : Nat), 16 ≤ w.length → w.length ≤ i → i < w.length + n → (wgo n w).getD i 0 = wstep (wgo n w) i := by
  induction n with
  | zero => intro w i _ h1 h2; omega
  | succ n ih =>
    intro w i h16 h1 h2
    rcases Nat.lt_or_ge w.length i with q | q
    · have hl : (w ++ [wnext w]).length = w.length + 1 := by simp
      have := ih (w ++ [wnext w]) i (by rw [hl]; omega) (by rw [hl]; omega) (by rw [hl]; omega)
      simp only [wgo]
      exact this
    · have e0 : i = w.length := by omega
      subst e0
      exact (wgo_last n w).trans ((wstep_next w).symm.trans (wstep_eq (fun j hj => (wgo_pre (n + 1) w j hj).symm) h16))
theorem words_low {B : List Nat} {i : Nat} (h : i < 16) : (words B).getD i 0 = be B (4 * i) := by
  unfold words
  rw [wgo_pre _ _ _ (by simpa using h), List.getD_eq_getElem?_getD, List.getElem?_map, List.getElem?_range h]
  rfl
theorem words_high {B : List Nat} {i : Nat} (h : 16 ≤ i) (h2 : i < 64) : (words B).getD i 0 = wstep (words B) i := wgo_step 48 _ i (by simp) (by simpa using h) (by simpa using h2)
theorem words_all (B : List Nat) : (List.range 64).map (fun i => (words B).getD i 0) = words B := by
  apply List.ext_getElem
  · rw [words_len]; simp
  · intro i h1 h2
    simp only [List.getElem_map, List.getElem_range]
    rw [List.getD_eq_getElem?_getD, List.getElem?_eq_getElem h2]
    rfl
theorem add_m (a b : Nat) : IntKind.u32.wrap ((a % M : Nat) + (b : Nat) : Int) = (((a + b) % M : Nat) : Int) := by
  rw [IntKind.wrap_u32]; unfold M; omega
theorem add_z (a b : Nat) : IntKind.u32.wrap ((a : Nat) + (b : Nat) : Int) = (((a + b) % M : Nat) : Int) := by
  rw [IntKind.wrap_u32]; unfold M; omega
end Go.Proofs.YtdnkbefpbehllaaDoor.OpsU

/- The contract of the code: scheduled: the words of a block, as an array. -/
set_option linter.unusedVariables false
namespace Go.Proofs.YtdnkbefpbehllaaDoor.Dig2
open Go.RowKit Go.PlainAid Go.Proofs.YtdnkbefpbehllaaDoor.Sums Go.Proofs.YtdnkbefpbehllaaDoor.Mem Go.Proofs.YtdnkbefpbehllaaDoor.Blk Go.Proofs.YtdnkbefpbehllaaDoor.Bits Go.Proofs.YtdnkbefpbehllaaDoor.Bits3 Go.Proofs.YtdnkbefpbehllaaDoor.Ints Go.Proofs.YtdnkbefpbehllaaDoor.Steps Go.Proofs.YtdnkbefpbehllaaDoor.Free Go.Proofs.YtdnkbefpbehllaaDoor.Ops Go.Proofs.YtdnkbefpbehllaaDoor.CutA Go.Proofs.YtdnkbefpbehllaaDoor.ShaD Go.Proofs.YtdnkbefpbehllaaDoor.ShaW Go.Proofs.YtdnkbefpbehllaaDoor.Dig1 Go.Proofs.YtdnkbefpbehllaaDoor.OpsU

theorem zero_64 (w : World) : (zeroValue 121).run Tryd.prog w = .ok (.agg (ucells (List.replicate 64 0))) w := by kernel_rfl
theorem URow.new2 (w : World) (t u : TypeId) (l m : List Nat) : URow ((w.alloc (.cells (ucells l) t)).alloc (.cells (ucells m) u)) w.heap.size t l ∧ URow ((w.alloc (.cells (ucells l) t)).alloc (.cells (ucells m) u)) (w.heap.size + 1) u m ∧ Below w.heap.size w ((w.alloc (.cells (ucells l) t)).alloc (.cells (ucells m) u)) := by
  refine ⟨(URow.new w t l).alloc _, ?_, ((Below.refl _ _).alloc (Nat.le_refl _) _).alloc (by simp) _⟩
  have := URow.new (w.alloc (.cells (ucells l) t)) u m
  rwa [show (w.alloc (.cells (ucells l) t)).heap.size = w.heap.size + 1 by simp] at this
theorem byte_lt {l : List Int} (h : Bytes l) (i : Nat) : (nats l).getD i 0 < 256 := by
  rw [List.getD_eq_getElem?_getD]
  cases e : (nats l)[i]? with
  | none => decide
  | some z => exact nats_lt (fun z hz => h z hz) z (List.mem_of_getElem? e)
theorem getD_M {l : List Nat} (h : W32 l) (i : Nat) : l.getD i 0 < M := h.get i
theorem fil_at (f : Nat → Nat) {n j i : Nat} (h : i < n) (hj : i < j) : (fil f n j).getD i 0 = f i := by
  rw [List.getD_eq_getElem?_getD, fil, List.getElem?_map, List.getElem?_range h]
  show (if i < j then f i else 0) = f i
  rw [if_pos hj]
theorem lo0_M {x : Nat} (h : x < M) : lo0 x < M := xor_M (xor_M (rot_M h (by decide)) (rot_M h (by decide))) (Nat.lt_of_le_of_lt (Nat.div_le_self _ _) h)
theorem lo1_M {x : Nat} (h : x < M) : lo1 x < M := xor_M (xor_M (rot_M h (by decide)) (rot_M h (by decide))) (Nat.lt_of_le_of_lt (Nat.div_le_self _ _) h)
/-- The facts that the code's sums want. -/
theorem lo0_run {x r1 r2 : Nat} (h : x < M) (h1 : r1 = rot x 7) (h2 : r2 = rot x 18) : ∃ a, bits .xor .u32 (r1 : Int) (r2 : Int) = (a : Int) ∧ bits .xor .u32 (a : Int) ((x : Int) / 8) = ((lo0 x : Nat) : Int) := by
  have b1 : r1 < M := by rw [h1]; exact rot_M h (by decide)
  have b2 : r2 < M := by rw [h2]; exact rot_M h (by decide)
  refine ⟨r1 ^^^ r2, Dig1.u32_xor b1 b2, ?_⟩
  have e : (x : Int) / 8 = ((x / 8 : Nat) : Int) := by omega
  rw [e, Dig1.u32_xor (xor_M b1 b2) (Nat.lt_of_le_of_lt (Nat.div_le_self _ _) h), h1, h2]
  rfl
theorem lo1_run {x r1 r2 : Nat} (h : x < M) (h1 : r1 = rot x 17) (h2 : r2 = rot x 19) : ∃ a, bits .xor .u32 (r1 : Int) (r2 : Int) = (a : Int) ∧ bits .xor .u32 (a : Int) ((x : Int) / 1024) = ((lo1 x : Nat) : Int) := by
  have b1 : r1 < M := by rw [h1]; exact rot_M h (by decide)
  have b2 : r2 < M := by rw [h2]; exact rot_M h (by decide)
  refine ⟨r1 ^^^ r2, Dig1.u32_xor b1 b2, ?_⟩
  have e : (x : Int) / 1024 = ((x / 1024 : Nat) : Int) := by omega
  rw [e, Dig1.u32_xor (xor_M b1 b2) (Nat.lt_of_le_of_lt (Nat.div_le_self _ _) h), h1, h2]
  rfl
/-- Three sums, one after the other. -/
theorem sum_run (a b c d : Nat) : ∃ s t : Nat, IntKind.u32.wrap ((a : Int) + (b : Int)) = (s : Int) ∧ IntKind.u32.wrap ((s : Int) + (c : Int)) = (t : Int) ∧ IntKind.u32.wrap ((t : Int) + (d : Int)) = (((a + b + c + d) % M : Nat) : Int) :=
  ⟨(a + b) % M, (a + b + c) % M, by rw [IntKind.wrap_u32]; unfold M; omega, by rw [IntKind.wrap_u32]; unfold M; omega, by rw [IntKind.wrap_u32]; unfold M; omega⟩
theorem be_run {a b c d : Nat} (ha : a < 256) (hb : b < 256) (hc : c < 256) (hd : d < 256) : ∃ s1 s2 s3 t1 t2 : Nat, IntKind.u32.wrap ((a : Int) * 2 ^ 24) = (s1 : Int) ∧ IntKind.u32.wrap ((b : Int) * 2 ^ 16) = (s2 : Int) ∧ IntKind.u32.wrap ((c : Int) * 2 ^ 8) = (s3 : Int) ∧
    bits .or .u32 (s1 : Int) (s2 : Int) = (t1 : Int) ∧ bits .or .u32 (t1 : Int) (s3 : Int) = (t2 : Int) ∧ bits .or .u32 (t2 : Int) (d : Int) = ((16777216 * a + 65536 * b + 256 * c + d : Nat) : Int) := by
  have e := be_or ha hb hc hd
  refine ⟨a * 16777216, b * 65536, c * 256, a * 16777216 + b * 65536, a * 16777216 + b * 65536 + c * 256, ?_, ?_, ?_, ?_, ?_, ?_⟩
  · rw [IntKind.wrap_u32]; omega
  · rw [IntKind.wrap_u32]; omega
  · rw [IntKind.wrap_u32]; omega
  · rw [Dig1.u32_or (by unfold M; omega) (by unfold M; omega), e.1]
  · rw [Dig1.u32_or (by unfold M; omega) (by unfold M; omega), e.2.1]
  · rw [Dig1.u32_or (by unfold M; omega) (by unfold M; omega), e.2.2]

set_option maxHeartbeats 1000000 in
set_option maxRecDepth 100000 in
theorem scheduled_no (A : Option Addr) (c : Nat) (bs : List Int) (w : World) (B : Nat) (h : Holds w B A 64 c bs) (hB : B ≤ w.heap.size) :
    Calls Tryd.prog 66 #[.slice A 64 c] w fun e w' => e = .returned (.agg (ucells (words (nats bs)))) ∧ Below w.heap.size w w' := by
  obtain ⟨q, p, rfl, _⟩ := h.2.2.2.2 (by omega)
  have hnc := h.2.1
  have hcm := h.2.2.1
  unfold maxLen at hcm
  have NB := Lib.hid (fun i => nats_getD h.2.2.2.1 i)
  have NL := Lib.hid (byte_lt h.2.2.2.1)
  have WM := Lib.hid (fun i => getD_M (words_lt (nats_lt fun z hz => h.2.2.2.1 z hz)) i)
  have HK := Lib.hid h
  obtain ⟨BB, hBB⟩ : ∃ BB, BB = nats bs := ⟨_, rfl⟩
  rw [← hBB] at NL WM ⊢
  have NBB : Hid (∀ i, bs.getD i 0 = ((BB.getD i 0 : Nat) : Int)) := Lib.hid (by rw [hBB]; exact NB.out)
  have WLo := Lib.hid (fun i (hi : i < 16) => words_low (B := BB) hi)
  have WHi := Lib.hid (fun i (hi : 16 ≤ i) (hj : i < 64) => words_high (B := BB) hi hj)
  have WA := words_all BB
  obtain ⟨f, hf⟩ : ∃ f : Nat → Nat, f = fun i => (words BB).getD i 0 := ⟨_, rfl⟩
  have FI := Lib.hid (fun i => congrFun hf i)
  rw [← hf] at WA
  obtain ⟨WW, hWW⟩ : ∃ WW, WW = words BB := ⟨_, rfl⟩
  rw [← hWW] at WA WM FI WLo WHi ⊢
  have WAH := Lib.hid WA
  have hz : ∀ v : World, (zeroValue 121).run Tryd.prog v = .ok (.agg (ucells (List.replicate 64 0))) v := zero_64
  have N := URow.new2 w 121 121 (List.replicate 64 0) (List.replicate 64 0)
  have SZ : (ucells (List.replicate 64 0)).size = 64 := by rw [ucells_size, List.length_replicate]
  obtain ⟨Z, hZ⟩ : ∃ Z, Z = List.replicate 64 0 := ⟨_, rfl⟩
  rw [← hZ] at hz N SZ
  have FZ : Z = fil f 64 0 := by rw [fil_zero, hZ]
  have S0 := Lib.hid N.1
  have R0 : Hid (URow ((w.alloc (.cells (ucells Z) 121)).alloc (.cells (ucells Z) 121)) (w.heap.size + 1) 121 (fil f 64 0)) := Lib.hid (by rw [← FZ]; exact N.2.1)
  have B0 := Lib.hid N.2.2
  clear h hBB NB hf hWW WA N hZ FZ
  go_enter Tryd.func66, Tryd.ntmps66
  go_wp2_with fail
  clear hz
  generalize (w.alloc (.cells (ucells Z) 121)).alloc (.cells (ucells Z) 121) = w1 at *
  go_loopw [11] (fun kv wr => ∃ j : Nat, kv = .int .i64 (j : Int) ∧ j ≤ 16 ∧ Hid (URow wr w.heap.size 121 Z) ∧ Hid (URow wr (w.heap.size + 1) 121 (fil f 64 j)) ∧ Hid (Below w.heap.size w wr)) (fun kv _ => 16 - (intOf kv).toNat)
  case atStart => exact ⟨0, rfl, by omega, S0, R0, B0⟩
  case round =>
    obtain ⟨j, rfl, hj, HS, HR, HB⟩ := hrel
    clear S0 R0 B0
    by_cases hlt : j < 16
    · obtain ⟨a4, h4⟩ : ∃ a4, a4 = 4 * j := ⟨_, rfl⟩
      obtain ⟨a8, h8⟩ : ∃ a8, a8 = a4 + 4 := ⟨_, rfl⟩
      have f1 : IntKind.i64.wrap (4 * (j : Int)) = (a4 : Int) := by rw [IntWalk.i64_in _ (by omega)]; omega
      have f2 : IntKind.i64.wrap ((a4 : Int) + 4) = (a8 : Int) := by rw [IntWalk.i64_in _ (by omega)]; omega
      have slc : ∀ W : World, (Instr.sliceAt 25 (.slice (some ⟨q, p, none⟩) 64 c) (some (.int .i64 (a4 : Int))) (some (.int .i64 (a8 : Int))) none).run Tryd.prog W = .ok (.slice (some ⟨q, p + a4, none⟩) 4 (c - a4)) W := fun W => by
        have := cut_lh q p 64 c a4 a8 W (by omega) (by omega) (by omega)
        rwa [show a8 - a4 = 4 by omega] at this
      have YC : Hid (∀ w' : World, Below wr.drew.heap.size wr.drew w' → w'.cell? ⟨q, p + a4 + 0, none⟩ = some (.int .u8 ((BB.getD a4 0 : Nat) : Int)) ∧ w'.cell? ⟨q, p + a4 + 1, none⟩ = some (.int .u8 ((BB.getD (a4 + 1) 0 : Nat) : Int)) ∧ w'.cell? ⟨q, p + a4 + 2, none⟩ = some (.int .u8 ((BB.getD (a4 + 2) 0 : Nat) : Int)) ∧ w'.cell? ⟨q, p + a4 + 3, none⟩ = some (.int .u8 ((BB.getD (a4 + 3) 0 : Nat) : Int))) := Lib.hid fun w' hw => by
        have hh := HK.out.below ((HB.out.trans (((below_drewN (Below.refl wr.heap.size wr) 1).trans hw).mono HB.out.size)).mono hB)
        have c0 := cell_getD hh a4 (by omega)
        have c1 := cell_getD hh (a4 + 1) (by omega)
        have c2 := cell_getD hh (a4 + 2) (by omega)
        have c3 := cell_getD hh (a4 + 3) (by omega)
        rw [NBB.out] at c0 c1 c2 c3
        exact ⟨c0, by rw [Nat.add_assoc]; exact c1, by rw [Nat.add_assoc]; exact c2, by rw [Nat.add_assoc]; exact c3⟩
      have FJ : f j = 16777216 * BB.getD a4 0 + 65536 * BB.getD (a4 + 1) 0 + 256 * BB.getD (a4 + 2) 0 + BB.getD (a4 + 3) 0 := by rw [FI.out, WLo.out j hlt, ← h4]; rfl
      have g0 := NL.out a4
      have g1 := NL.out (a4 + 1)
      have g2 := NL.out (a4 + 2)
      have g3 := NL.out (a4 + 3)
      generalize BB.getD a4 0 = y0 at *
      generalize BB.getD (a4 + 1) 0 = y1 at *
      generalize BB.getD (a4 + 2) 0 = y2 at *
      generalize BB.getD (a4 + 3) 0 = y3 at *
      obtain ⟨s1, s2, s3, t1, t2, E1, E2, E3, E4, E5, E6⟩ := be_run g0 g1 g2 g3
      rw [← FJ] at E6
      have E1 := Lib.hid E1
      have E2 := Lib.hid E2
      have E3 := Lib.hid E3
      have E4 := Lib.hid E4
      have E5 := Lib.hid E5
      have E6 := Lib.hid E6
      have J64 : j < 64 := by omega
      clear h4 h8 FJ
      go_wp2_with fail
      refine wp_region_free [0, 1, 2, 3, 4, 5, 6, 7, 8, 9, 10, 11, 12, 13, 14, 15, 16, 17, 18, 19, 20, 21, 22] 23 [24] (fun w1 w2 => Below w1.heap.size w1 w2) (fun k' w' v => match k' with
        | 0 => v = .int .i64 ((j : Int))
        | 1 => v = .slice (some ⟨q, p + a4, none⟩) 4 (c - a4)
        | 2 => v = .pointer (some ⟨q, p + a4 + 0, none⟩)
        | 3 => v = .int .u8 ((y0 : Int))
        | 4 => v = .int .u32 ((y0 : Int))
        | 5 => v = .int .u32 ((s1 : Int))
        | 6 => v = .slice (some ⟨q, p + a4, none⟩) 4 (c - a4)
        | 7 => v = .pointer (some ⟨q, p + a4 + 1, none⟩)
        | 8 => v = .int .u8 ((y1 : Int))
        | 9 => v = .int .u32 ((y1 : Int))
        | 10 => v = .int .u32 ((s2 : Int))
        | 11 => v = .int .u32 ((t1 : Int))
        | 12 => v = .slice (some ⟨q, p + a4, none⟩) 4 (c - a4)
        | 13 => v = .pointer (some ⟨q, p + a4 + 2, none⟩)
        | 14 => v = .int .u8 ((y2 : Int))
        | 15 => v = .int .u32 ((y2 : Int))
        | 16 => v = .int .u32 ((s3 : Int))
        | 17 => v = .int .u32 ((t2 : Int))
        | 18 => v = .slice (some ⟨q, p + a4, none⟩) 4 (c - a4)
        | 19 => v = .pointer (some ⟨q, p + a4 + 3, none⟩)
        | 20 => v = .int .u8 ((y3 : Int))
        | 21 => v = .int .u32 ((y3 : Int))
        | _ => v = .int .u32 (((f j : Nat) : Int))) (by kernel_rfl) (by kernel_rfl) (Below.refl _ _) (fun _ _ _ h k => h.trans (k.mono h.size)) (fun k' w1 w2 v h => match k' with
        | 0 => fun x => x
        | 1 => fun x => x
        | 2 => fun x => x
        | 3 => fun x => x
        | 4 => fun x => x
        | 5 => fun x => x
        | 6 => fun x => x
        | 7 => fun x => x
        | 8 => fun x => x
        | 9 => fun x => x
        | 10 => fun x => x
        | 11 => fun x => x
        | 12 => fun x => x
        | 13 => fun x => x
        | 14 => fun x => x
        | 15 => fun x => x
        | 16 => fun x => x
        | 17 => fun x => x
        | 18 => fun x => x
        | 19 => fun x => x
        | 20 => fun x => x
        | 21 => fun x => x
        | _ + 22 => fun x => x) (fun _ _ _ _ _ h => h) ?_ _ (by rfl) ?_
      · refine obs_cons (by rfl) (fun vals w' hgr hdep K hK => ?_) (obs_cons (by rfl) (fun vals w' hgr hdep K hK => ?_) (obs_cons (by rfl) (fun vals w' hgr hdep K hK => ?_) (obs_cons (by rfl) (fun vals w' hgr hdep K hK => ?_) (obs_cons (by rfl) (fun vals w' hgr hdep K hK => ?_) (obs_cons (by rfl) (fun vals w' hgr hdep K hK => ?_) (obs_cons (by rfl) (fun vals w' hgr hdep K hK => ?_) (obs_cons (by rfl) (fun vals w' hgr hdep K hK => ?_) (obs_cons (by rfl) (fun vals w' hgr hdep K hK => ?_) (obs_cons (by rfl) (fun vals w' hgr hdep K hK => ?_) (obs_cons (by rfl) (fun vals w' hgr hdep K hK => ?_) (obs_cons (by rfl) (fun vals w' hgr hdep K hK => ?_) (obs_cons (by rfl) (fun vals w' hgr hdep K hK => ?_) (obs_cons (by rfl) (fun vals w' hgr hdep K hK => ?_) (obs_cons (by rfl) (fun vals w' hgr hdep K hK => ?_) (obs_cons (by rfl) (fun vals w' hgr hdep K hK => ?_) (obs_cons (by rfl) (fun vals w' hgr hdep K hK => ?_) (obs_cons (by rfl) (fun vals w' hgr hdep K hK => ?_) (obs_cons (by rfl) (fun vals w' hgr hdep K hK => ?_) (obs_cons (by rfl) (fun vals w' hgr hdep K hK => ?_) (obs_cons (by rfl) (fun vals w' hgr hdep K hK => ?_) (obs_cons (by rfl) (fun vals w' hgr hdep K hK => ?_) (obs_cons (by rfl) (fun vals w' hgr hdep K hK => ?_) (obs_nil)))))))))))))))))))))))
        · exact wp_move (.tmp 4) rfl _ (at_out _ (by kernel_rfl) rfl) (hK _ _ (Below.refl _ _) rfl)
        · exact wp_move (.tmp 5) rfl _ (at_out _ (by kernel_rfl) rfl) (hK _ _ (Below.refl _ _) rfl)
        · exact st_byte_at (.tmp 22) (.const (.int .i64 0)) rfl q (p + a4) 4 (c - a4) 0 ((at_dst 1 (by kernel_rfl)).trans (hdep 1 (by simp) (by kernel_rfl))) rfl (by omega) (hK _ _ (Below.refl _ _) rfl)
        · exact wp_load1 (.tmp 23) rfl ⟨q, p + a4 + 0, none⟩ ((at_dst 2 (by kernel_rfl)).trans (hdep 2 (by simp) (by kernel_rfl))) Tryd.underlying5 rfl _ ((YC.out w' hgr).1) (hK _ _ (Below.refl _ _) rfl)
        · exact wp_conv (.tmp 24) rfl _ _ ((at_dst 3 (by kernel_rfl)).trans (hdep 3 (by simp) (by kernel_rfl))) (conv_8_32 _ _ (by omega) (by omega)) (hK _ _ (Below.refl _ _) rfl)
        · exact wp_bin (.tmp 25) (.const (.int .u64 24)) rfl _ _ _ ((at_dst 4 (by kernel_rfl)).trans (hdep 4 (by simp) (by kernel_rfl))) rfl (b_shl32 _ _ 24 _ _ _ (by decide) E1.out) (hK _ _ (Below.refl _ _) rfl)
        · exact wp_move (.tmp 5) rfl _ (at_out _ (by kernel_rfl) rfl) (hK _ _ (Below.refl _ _) rfl)
        · exact st_byte_at (.tmp 27) (.const (.int .i64 1)) rfl q (p + a4) 4 (c - a4) 1 ((at_dst 6 (by kernel_rfl)).trans (hdep 6 (by simp) (by kernel_rfl))) rfl (by omega) (hK _ _ (Below.refl _ _) rfl)
        · exact wp_load1 (.tmp 28) rfl ⟨q, p + a4 + 1, none⟩ ((at_dst 7 (by kernel_rfl)).trans (hdep 7 (by simp) (by kernel_rfl))) Tryd.underlying5 rfl _ ((YC.out w' hgr).2.1) (hK _ _ (Below.refl _ _) rfl)
        · exact wp_conv (.tmp 29) rfl _ _ ((at_dst 8 (by kernel_rfl)).trans (hdep 8 (by simp) (by kernel_rfl))) (conv_8_32 _ _ (by omega) (by omega)) (hK _ _ (Below.refl _ _) rfl)
        · exact wp_bin (.tmp 30) (.const (.int .u64 16)) rfl _ _ _ ((at_dst 9 (by kernel_rfl)).trans (hdep 9 (by simp) (by kernel_rfl))) rfl (b_shl32 _ _ 16 _ _ _ (by decide) E2.out) (hK _ _ (Below.refl _ _) rfl)
        · exact wp_bin (.tmp 26) (.tmp 31) rfl _ _ _ ((at_dst 5 (by kernel_rfl)).trans (hdep 5 (by simp) (by kernel_rfl))) ((at_dst 10 (by kernel_rfl)).trans (hdep 10 (by simp) (by kernel_rfl))) (b_or32 _ _ _ _ _ _ E4.out) (hK _ _ (Below.refl _ _) rfl)
        · exact wp_move (.tmp 5) rfl _ (at_out _ (by kernel_rfl) rfl) (hK _ _ (Below.refl _ _) rfl)
        · exact st_byte_at (.tmp 33) (.const (.int .i64 2)) rfl q (p + a4) 4 (c - a4) 2 ((at_dst 12 (by kernel_rfl)).trans (hdep 12 (by simp) (by kernel_rfl))) rfl (by omega) (hK _ _ (Below.refl _ _) rfl)
        · exact wp_load1 (.tmp 34) rfl ⟨q, p + a4 + 2, none⟩ ((at_dst 13 (by kernel_rfl)).trans (hdep 13 (by simp) (by kernel_rfl))) Tryd.underlying5 rfl _ ((YC.out w' hgr).2.2.1) (hK _ _ (Below.refl _ _) rfl)
        · exact wp_conv (.tmp 35) rfl _ _ ((at_dst 14 (by kernel_rfl)).trans (hdep 14 (by simp) (by kernel_rfl))) (conv_8_32 _ _ (by omega) (by omega)) (hK _ _ (Below.refl _ _) rfl)
        · exact wp_bin (.tmp 36) (.const (.int .u64 8)) rfl _ _ _ ((at_dst 15 (by kernel_rfl)).trans (hdep 15 (by simp) (by kernel_rfl))) rfl (b_shl32 _ _ 8 _ _ _ (by decide) E3.out) (hK _ _ (Below.refl _ _) rfl)
        · exact wp_bin (.tmp 32) (.tmp 37) rfl _ _ _ ((at_dst 11 (by kernel_rfl)).trans (hdep 11 (by simp) (by kernel_rfl))) ((at_dst 16 (by kernel_rfl)).trans (hdep 16 (by simp) (by kernel_rfl))) (b_or32 _ _ _ _ _ _ E5.out) (hK _ _ (Below.refl _ _) rfl)
        · exact wp_move (.tmp 5) rfl _ (at_out _ (by kernel_rfl) rfl) (hK _ _ (Below.refl _ _) rfl)
        · exact st_byte_at (.tmp 39) (.const (.int .i64 3)) rfl q (p + a4) 4 (c - a4) 3 ((at_dst 18 (by kernel_rfl)).trans (hdep 18 (by simp) (by kernel_rfl))) rfl (by omega) (hK _ _ (Below.refl _ _) rfl)
        · exact wp_load1 (.tmp 40) rfl ⟨q, p + a4 + 3, none⟩ ((at_dst 19 (by kernel_rfl)).trans (hdep 19 (by simp) (by kernel_rfl))) Tryd.underlying5 rfl _ ((YC.out w' hgr).2.2.2) (hK _ _ (Below.refl _ _) rfl)
        · exact wp_conv (.tmp 41) rfl _ _ ((at_dst 20 (by kernel_rfl)).trans (hdep 20 (by simp) (by kernel_rfl))) (conv_8_32 _ _ (by omega) (by omega)) (hK _ _ (Below.refl _ _) rfl)
        · exact wp_bin (.tmp 38) (.tmp 42) rfl _ _ _ ((at_dst 17 (by kernel_rfl)).trans (hdep 17 (by simp) (by kernel_rfl))) ((at_dst 21 (by kernel_rfl)).trans (hdep 21 (by simp) (by kernel_rfl))) (b_or32 _ _ _ _ _ _ E6.out) (hK _ _ (Below.refl _ _) rfl)
      · intro vals w' hgr hG
        refine st_uarr_at Tryd.underlying121 (.tmp 3) (.tmp 21) rfl (w.heap.size + 1) j .i64 _ (at_out _ (by kernel_rfl) rfl) ((at_dst 0 (by kernel_rfl)).trans (hG 0 (by simp))) rfl J64 ?_
        have W8 : URow w' (w.heap.size + 1) 121 (fil f 64 j) := URow.up (show URow wr.drew (w.heap.size + 1) 121 (fil f 64 j) from HR.out) hgr
        refine wpAnyH_next 24 _ rfl rfl (by kernel_rfl) (st_store_u (.tmp 44) (.tmp 43) rfl ⟨w.heap.size + 1, j, none⟩ (put_tmps_eq (fill_size _ _ _) (by kernel_rfl)) _ (put_tmps_ne (by rfl) ((at_dst 22 (by kernel_rfl)).trans (hG 22 (by simp)))) _ (W8.cell j (by rw [fil_len]; exact J64)) (W8.free j) ⟨trivial, wpAnyH_done (by kernel_rfl) ?_ _⟩)
        have R2 : Hid (URow (w'.setCell ⟨w.heap.size + 1, j, none⟩ (.int .u32 ((f j : Nat) : Int))) (w.heap.size + 1) 121 (fil f 64 (j + 1))) := Lib.hid (by have := W8.put j (f j); rwa [fil_set] at this)
        have S2 : Hid (URow (w'.setCell ⟨w.heap.size + 1, j, none⟩ (.int .u32 ((f j : Nat) : Int))) w.heap.size 121 Z) := Lib.hid ((URow.up (show URow wr.drew w.heap.size 121 Z from HS.out) hgr).far (p := ⟨w.heap.size + 1, j, none⟩) (by simp) _)
        have B2 : Hid (Below w.heap.size w (w'.setCell ⟨w.heap.size + 1, j, none⟩ (.int .u32 ((f j : Nat) : Int)))) := Lib.hid (((below_drewN HB.out 1).trans (hgr.mono HB.out.size)).setCell (p := ⟨w.heap.size + 1, j, none⟩) (by simp) (.int .u32 ((f j : Nat) : Int)))
        clear hG hgr W8 HR HS HB YC
        simp only [fill, dstAt, List.getElem?_cons_zero, List.getElem?_cons_succ, Option.bind_some, Act.put, List.setIfInBounds_toArray, List.set_cons_zero, List.set_cons_succ]
        generalize w'.setCell ⟨w.heap.size + 1, j, none⟩ (.int .u32 ((f j : Nat) : Int)) = w9 at *
        generalize vals 0 = z0, vals 1 = z1, vals 2 = z2, vals 3 = z3, vals 4 = z4, vals 5 = z5, vals 6 = z6, vals 7 = z7, vals 8 = z8, vals 9 = z9, vals 10 = z10, vals 11 = z11, vals 12 = z12, vals 13 = z13, vals 14 = z14, vals 15 = z15, vals 16 = z16, vals 17 = z17, vals 18 = z18, vals 19 = z19, vals 20 = z20, vals 21 = z21, vals 22 = z22 at *
        go_wp2_with fail
        go_roundw
        case rel => exact ⟨j + 1, by go_num, by omega, S2, R2, B2⟩
        case measure => simp [intOf]; omega
    · obtain rfl : j = 16 := by omega
      generalize wr = wo at *
      clear hlt hj
      rw [show ((16 : Nat) : Int) = 16 from rfl]
      go_wp2_with fail
      go_loopw [6] (fun kv wr => ∃ j : Nat, kv = .int .i64 (j : Int) ∧ 16 ≤ j ∧ j ≤ 64 ∧ Hid (URow wr w.heap.size 121 Z) ∧ Hid (URow wr (w.heap.size + 1) 121 (fil f 64 j)) ∧ Hid (Below w.heap.size w wr)) (fun kv _ => 64 - (intOf kv).toNat)
      case atStart => exact ⟨16, rfl, by omega, by omega, HS, HR, HB⟩
      case round =>
        obtain ⟨j, rfl, h16, hj, KS, KR, KB⟩ := hrel
        clear HS HR HB
        by_cases hlt : j < 64
        · obtain ⟨i16, e16⟩ : ∃ i16, i16 = j - 16 := ⟨_, rfl⟩
          obtain ⟨i15, e15⟩ : ∃ i15, i15 = j - 15 := ⟨_, rfl⟩
          obtain ⟨i7, e7⟩ : ∃ i7, i7 = j - 7 := ⟨_, rfl⟩
          obtain ⟨i2, e2⟩ : ∃ i2, i2 = j - 2 := ⟨_, rfl⟩
          have FJ : f j = (f i16 + lo0 (f i15) + f i7 + lo1 (f i2)) % M := by rw [FI.out, FI.out, FI.out, FI.out, FI.out, WHi.out j h16 hlt, wstep, e16, e15, e7, e2]
          have l16 : i16 < 64 := by omega
          have l15 : i15 < 64 := by omega
          have l7 : i7 < 64 := by omega
          have l2 : i2 < 64 := by omega
          have w16 : IntKind.i64.wrap ((j : Int) - 16) = (i16 : Int) := by rw [IntWalk.i64_in _ (by omega)]; omega
          have w15 : IntKind.i64.wrap ((j : Int) - 15) = (i15 : Int) := by rw [IntWalk.i64_in _ (by omega)]; omega
          have w7 : IntKind.i64.wrap ((j : Int) - 7) = (i7 : Int) := by rw [IntWalk.i64_in _ (by omega)]; omega
          have w2 : IntKind.i64.wrap ((j : Int) - 2) = (i2 : Int) := by rw [IntWalk.i64_in _ (by omega)]; omega
          have q16 : (j : Int) - 16 = (i16 : Int) := by omega
          have q7 : (j : Int) - 7 = (i7 : Int) := by omega
          have c15 := KR.out.cell i15 (by rw [fil_len]; exact l15)
          have c2 := KR.out.cell i2 (by rw [fil_len]; exact l2)
          rw [fil_at f l15 (by omega)] at c15
          rw [fil_at f l2 (by omega)] at c2
          have CC : Hid (∀ W : World, URow W (w.heap.size + 1) 121 (fil f 64 j) → W.cell? ⟨w.heap.size + 1, i16, none⟩ = some (.int .u32 ((f i16 : Nat) : Int)) ∧ W.cell? ⟨w.heap.size + 1, i7, none⟩ = some (.int .u32 ((f i7 : Nat) : Int))) := Lib.hid fun W hW => by
            have k1 := hW.cell i16 (by rw [fil_len]; exact l16)
            have k2 := hW.cell i7 (by rw [fil_len]; exact l7)
            rw [fil_at f l16 (by omega)] at k1
            rw [fil_at f l7 (by omega)] at k2
            exact ⟨k1, k2⟩
          have m15 : f i15 < M := by rw [FI.out]; exact WM.out i15
          have m2 : f i2 < M := by rw [FI.out]; exact WM.out i2
          generalize f i16 = x16 at *
          generalize f i15 = x15 at *
          generalize f i7 = x7 at *
          generalize f i2 = x2 at *
          have C1 := Lib.hid (rotated_no x15 7 m15 (by decide) (by decide))
          have C2 := Lib.hid (rotated_no x15 18 m15 (by decide) (by decide))
          have C3 := Lib.hid (rotated_no x2 17 m2 (by decide) (by decide))
          have C4 := Lib.hid (rotated_no x2 19 m2 (by decide) (by decide))
          obtain ⟨r1, hr1⟩ : ∃ r, r = rot x15 7 := ⟨_, rfl⟩
          obtain ⟨r2, hr2⟩ : ∃ r, r = rot x15 18 := ⟨_, rfl⟩
          obtain ⟨r3, hr3⟩ : ∃ r, r = rot x2 17 := ⟨_, rfl⟩
          obtain ⟨r4, hr4⟩ : ∃ r, r = rot x2 19 := ⟨_, rfl⟩
          obtain ⟨a1, A1, A2⟩ := lo0_run m15 hr1 hr2
          obtain ⟨a3, A3, A4⟩ := lo1_run m2 hr3 hr4
          rw [← hr1] at C1
          rw [← hr2] at C2
          rw [← hr3] at C3
          rw [← hr4] at C4
          generalize lo0 x15 = y15 at *
          generalize lo1 x2 = y2 at *
          obtain ⟨s1, s2, E1, E2, E3⟩ := sum_run x16 y15 x7 y2
          rw [← FJ] at E3
          have E1 := Lib.hid E1
          have E2 := Lib.hid E2
          have E3 := Lib.hid E3
          clear hr1 hr2 hr3 hr4 m15 m2 FJ e16 e15 e7 e2
          go_wp2_with fail
          go_quiet (fail)
          have GS := Lib.hid (KS.out.drewN nq)
          have GR := Lib.hid (KR.out.drewN nq)
          have GB := Lib.hid (below_drewN KB.out nq)
          generalize wr.drewN nq = wy at *
          clear c15 c2 KS KR KB
          go_wp2_with fail
          refine (C1.out _).mono ?_
          rintro e w' ⟨rfl, rfl⟩
          go_wp2_with fail
          refine (C2.out _).mono ?_
          rintro e w' ⟨rfl, rfl⟩
          go_wp2_with fail
          refine (C3.out _).mono ?_
          rintro e w' ⟨rfl, rfl⟩
          go_wp2_with fail
          refine (C4.out _).mono ?_
          rintro e w' ⟨rfl, rfl⟩
          have ZC : Hid (∀ w' : World, Below wy.drew.heap.size wy.drew w' → URow w' (w.heap.size + 1) 121 (fil f 64 j)) := Lib.hid fun w' hw => URow.up (show URow wy.drew (w.heap.size + 1) 121 (fil f 64 j) from GR.out) hw
          go_wp2_with fail
          refine wp_region_free [0, 1, 2, 3, 4, 5, 6, 7, 8, 9, 10, 11, 12, 13] 14 [15] (fun w1 w2 => Below w1.heap.size w1 w2) (fun k' w' v => match k' with
            | 0 => v = .int .i64 ((j : Int))
            | 1 => v = .int .i64 ((j : Int))
            | 2 => v = .int .i64 ((i16 : Int))
            | 3 => v = .pointer (some ⟨w.heap.size + 1, i16, none⟩)
            | 4 => v = .int .u32 ((x16 : Int))
            | 5 => v = .int .u32 ((y15 : Int))
            | 6 => v = .int .u32 ((s1 : Int))
            | 7 => v = .int .i64 ((j : Int))
            | 8 => v = .int .i64 ((i7 : Int))
            | 9 => v = .pointer (some ⟨w.heap.size + 1, i7, none⟩)
            | 10 => v = .int .u32 ((x7 : Int))
            | 11 => v = .int .u32 ((s2 : Int))
            | 12 => v = .int .u32 ((y2 : Int))
            | _ => v = .int .u32 (((f j : Nat) : Int))) (by kernel_rfl) (by kernel_rfl) (Below.refl _ _) (fun _ _ _ h k => h.trans (k.mono h.size)) (fun k' w1 w2 v h => match k' with
            | 0 => fun x => x
            | 1 => fun x => x
            | 2 => fun x => x
            | 3 => fun x => x
            | 4 => fun x => x
            | 5 => fun x => x
            | 6 => fun x => x
            | 7 => fun x => x
            | 8 => fun x => x
            | 9 => fun x => x
            | 10 => fun x => x
            | 11 => fun x => x
            | 12 => fun x => x
            | _ + 13 => fun x => x) (fun _ _ _ _ _ h => h) ?_ _ (by rfl) ?_
          · refine obs_cons (by rfl) (fun vals w' hgr hdep K hK => ?_) (obs_cons (by rfl) (fun vals w' hgr hdep K hK => ?_) (obs_cons (by rfl) (fun vals w' hgr hdep K hK => ?_) (obs_cons (by rfl) (fun vals w' hgr hdep K hK => ?_) (obs_cons (by rfl) (fun vals w' hgr hdep K hK => ?_) (obs_cons (by rfl) (fun vals w' hgr hdep K hK => ?_) (obs_cons (by rfl) (fun vals w' hgr hdep K hK => ?_) (obs_cons (by rfl) (fun vals w' hgr hdep K hK => ?_) (obs_cons (by rfl) (fun vals w' hgr hdep K hK => ?_) (obs_cons (by rfl) (fun vals w' hgr hdep K hK => ?_) (obs_cons (by rfl) (fun vals w' hgr hdep K hK => ?_) (obs_cons (by rfl) (fun vals w' hgr hdep K hK => ?_) (obs_cons (by rfl) (fun vals w' hgr hdep K hK => ?_) (obs_cons (by rfl) (fun vals w' hgr hdep K hK => ?_) (obs_nil))))))))))))))
            · exact wp_move (.tmp 6) rfl _ (at_out _ (by kernel_rfl) rfl) (hK _ _ (Below.refl _ _) rfl)
            · exact wp_move (.tmp 6) rfl _ (at_out _ (by kernel_rfl) rfl) (hK _ _ (Below.refl _ _) rfl)
            · exact wp_bin (.tmp 75) (.const (.int .i64 16)) rfl _ _ _ ((at_dst 1 (by kernel_rfl)).trans (hdep 1 (by simp) (by kernel_rfl))) rfl ((b_sub _ _ _ _ _ (by omega) (by omega)).trans (by rw [q16])) (hK _ _ (Below.refl _ _) rfl)
            · exact st_uarr_at Tryd.underlying121 (.tmp 3) (.tmp 76) rfl (w.heap.size + 1) i16 .i64 _ (at_out _ (by kernel_rfl) rfl) ((at_dst 2 (by kernel_rfl)).trans (hdep 2 (by simp) (by kernel_rfl))) (by omega) (by omega) (hK _ _ (Below.refl _ _) rfl)
            · exact wp_load1 (.tmp 77) rfl ⟨w.heap.size + 1, i16, none⟩ ((at_dst 3 (by kernel_rfl)).trans (hdep 3 (by simp) (by kernel_rfl))) Tryd.underlying94 rfl _ ((CC.out w' (ZC.out w' hgr)).1) (hK _ _ (Below.refl _ _) rfl)
            · exact wp_move (.tmp 9) rfl _ (at_out _ (by kernel_rfl) rfl) (hK _ _ (Below.refl _ _) rfl)
            · exact wp_bin (.tmp 78) (.tmp 79) rfl _ _ _ ((at_dst 4 (by kernel_rfl)).trans (hdep 4 (by simp) (by kernel_rfl))) ((at_dst 5 (by kernel_rfl)).trans (hdep 5 (by simp) (by kernel_rfl))) (b_add32 _ _ _ _ _ _ E1.out) (hK _ _ (Below.refl _ _) rfl)
            · exact wp_move (.tmp 6) rfl _ (at_out _ (by kernel_rfl) rfl) (hK _ _ (Below.refl _ _) rfl)
            · exact wp_bin (.tmp 81) (.const (.int .i64 7)) rfl _ _ _ ((at_dst 7 (by kernel_rfl)).trans (hdep 7 (by simp) (by kernel_rfl))) rfl ((b_sub _ _ _ _ _ (by omega) (by omega)).trans (by rw [q7])) (hK _ _ (Below.refl _ _) rfl)
            · exact st_uarr_at Tryd.underlying121 (.tmp 3) (.tmp 82) rfl (w.heap.size + 1) i7 .i64 _ (at_out _ (by kernel_rfl) rfl) ((at_dst 8 (by kernel_rfl)).trans (hdep 8 (by simp) (by kernel_rfl))) (by omega) (by omega) (hK _ _ (Below.refl _ _) rfl)
            · exact wp_load1 (.tmp 83) rfl ⟨w.heap.size + 1, i7, none⟩ ((at_dst 9 (by kernel_rfl)).trans (hdep 9 (by simp) (by kernel_rfl))) Tryd.underlying94 rfl _ ((CC.out w' (ZC.out w' hgr)).2) (hK _ _ (Below.refl _ _) rfl)
            · exact wp_bin (.tmp 80) (.tmp 84) rfl _ _ _ ((at_dst 6 (by kernel_rfl)).trans (hdep 6 (by simp) (by kernel_rfl))) ((at_dst 10 (by kernel_rfl)).trans (hdep 10 (by simp) (by kernel_rfl))) (b_add32 _ _ _ _ _ _ E2.out) (hK _ _ (Below.refl _ _) rfl)
            · exact wp_move (.tmp 10) rfl _ (at_out _ (by kernel_rfl) rfl) (hK _ _ (Below.refl _ _) rfl)
            · exact wp_bin (.tmp 85) (.tmp 86) rfl _ _ _ ((at_dst 11 (by kernel_rfl)).trans (hdep 11 (by simp) (by kernel_rfl))) ((at_dst 12 (by kernel_rfl)).trans (hdep 12 (by simp) (by kernel_rfl))) (b_add32 _ _ _ _ _ _ E3.out) (hK _ _ (Below.refl _ _) rfl)
          · intro vals w' hgr hG
            refine st_uarr_at Tryd.underlying121 (.tmp 3) (.tmp 74) rfl (w.heap.size + 1) j .i64 _ (at_out _ (by kernel_rfl) rfl) ((at_dst 0 (by kernel_rfl)).trans (hG 0 (by simp))) rfl hlt ?_
            have W8 := ZC.out w' hgr
            refine wpAnyH_next 15 _ rfl rfl (by kernel_rfl) (st_store_u (.tmp 88) (.tmp 87) rfl ⟨w.heap.size + 1, j, none⟩ (put_tmps_eq (fill_size _ _ _) (by kernel_rfl)) _ (put_tmps_ne (by rfl) ((at_dst 13 (by kernel_rfl)).trans (hG 13 (by simp)))) _ (W8.cell j (by rw [fil_len]; exact hlt)) (W8.free j) ⟨trivial, wpAnyH_done (by kernel_rfl) ?_ _⟩)
            have R2 : Hid (URow (w'.setCell ⟨w.heap.size + 1, j, none⟩ (.int .u32 ((f j : Nat) : Int))) (w.heap.size + 1) 121 (fil f 64 (j + 1))) := Lib.hid (by have := W8.put j (f j); rwa [fil_set] at this)
            have S2 : Hid (URow (w'.setCell ⟨w.heap.size + 1, j, none⟩ (.int .u32 ((f j : Nat) : Int))) w.heap.size 121 Z) := Lib.hid ((URow.up (show URow wy.drew w.heap.size 121 Z from GS.out) hgr).far (p := ⟨w.heap.size + 1, j, none⟩) (by simp) _)
            have B2 : Hid (Below w.heap.size w (w'.setCell ⟨w.heap.size + 1, j, none⟩ (.int .u32 ((f j : Nat) : Int)))) := Lib.hid (((below_drewN GB.out 1).trans (hgr.mono GB.out.size)).setCell (p := ⟨w.heap.size + 1, j, none⟩) (by simp) (.int .u32 ((f j : Nat) : Int)))
            clear hG hgr W8 GR GS GB ZC CC
            simp only [fill, dstAt, List.getElem?_cons_zero, List.getElem?_cons_succ, Option.bind_some, Act.put, List.setIfInBounds_toArray, List.set_cons_zero, List.set_cons_succ]
            generalize w'.setCell ⟨w.heap.size + 1, j, none⟩ (.int .u32 ((f j : Nat) : Int)) = w9 at *
            generalize vals 0 = z0, vals 1 = z1, vals 2 = z2, vals 3 = z3, vals 4 = z4, vals 5 = z5, vals 6 = z6, vals 7 = z7, vals 8 = z8, vals 9 = z9, vals 10 = z10, vals 11 = z11, vals 12 = z12, vals 13 = z13 at *
            go_wp2_with fail
            go_roundw
            case rel => exact ⟨j + 1, by go_num, by omega, by omega, S2, R2, B2⟩
            case measure => simp [intOf]; omega
        · obtain rfl : j = 64 := by omega
          have RF : URow wr (w.heap.size + 1) 121 WW := by have := KR.out; rwa [fil_full, WAH.out] at this
          have SF := KS.out
          have WL : WW.length = 64 := by rw [← WAH.out]; simp
          have sz : (ucells WW).size = 64 := by rw [ucells_size, WL]
          have one := ucells_one WW
          obtain ⟨cR, hcR⟩ : ∃ cR, cR = ucells WW := ⟨_, rfl⟩
          have CE := Lib.hid hcR
          have BF := Lib.hid KB.out
          clear KR KS KB hlt hj FI h16 WAH WL WM WLo WHi
          unfold URow at RF SF
          rw [← hcR] at RF sz one
          clear hcR
          generalize ucells Z = cZ at *
          go_wp2_with (first
            | (refine wpList_load_row rfl _ _ rfl (w.heap.size + 1) rfl 121 cR (0, 0) _ RF (Tryd.underlying121) rfl (by rw [sz]; kernel_rfl) ?_)
            | (refine wpList_store_row rfl _ _ _ rfl w.heap.size cR rfl rfl 121 _ SF (by rw [sz]; kernel_rfl) (by rw [sz, SZ]) one ?_))
          exact bodyPost_ret (results_cell_row rfl _ _ w.heap.size 121 cR (0, 0) _ rfl (setRow_heap _ _ _ _ _ _ SF) Tryd.underlying121 rfl (by rw [sz]; kernel_rfl)) rfl ⟨by rw [CE.out], below_setRow BF.out (Nat.le_refl _)⟩
end Go.Proofs.YtdnkbefpbehllaaDoor.Dig2

/- The contract of the code's Words; an array's place by value. -/
set_option linter.unusedVariables false
namespace Go.Proofs.YtdnkbefpbehllaaDoor.Dig3
open Go.RowKit Go.PlainAid Go.Proofs.YtdnkbefpbehllaaDoor.Sums Go.Proofs.YtdnkbefpbehllaaDoor.Mem Go.Proofs.YtdnkbefpbehllaaDoor.Blk Go.Proofs.YtdnkbefpbehllaaDoor.Bits Go.Proofs.YtdnkbefpbehllaaDoor.Bits3 Go.Proofs.YtdnkbefpbehllaaDoor.Ints Go.Proofs.YtdnkbefpbehllaaDoor.IntsO Go.Proofs.YtdnkbefpbehllaaDoor.ShaD Go.Proofs.YtdnkbefpbehllaaDoor.Dig1 Go.Proofs.YtdnkbefpbehllaaDoor.OpsU Go.Proofs.YtdnkbefpbehllaaDoor.Dig2

theorem run_index_u {ty : TypeId} {n : Nat} (hu : Tryd.prog.underlying ty = some (.array n 94)) {l : List Nat} {j : Nat} (hl : l.length = n) (hj : j < n) (w : World) :
    (Instr.index ty (.agg (ucells l)) (.int .i64 (j : Int))).run Tryd.prog w = .ok (.int .u32 ((l.getD j 0 : Nat) : Int)) w := by
  obtain ⟨inf, hif, _, hsz, _⟩ := info_parts u32_info
  have hg := ucells_get l j (by omega)
  have h1 : (0 : Int) ≤ (j : Int) ∧ (j : Int) < (n : Int) := by omega
  have ha : (isAgg 94).run Tryd.prog w = .ok false w := by kernel_rfl
  simp [Instr.index, run_underlying hu, asIntOf, sizeOf, typeInfo, hif, hsz, hj, part, ha, hg, Result.andThen]

end Go.Proofs.YtdnkbefpbehllaaDoor.Dig3

