/- Steps of a region whose order is open: numbers of 32 bits: places of arrays, loads, stores, turned into others, sums and bits. No function is named. -/
import Derived.Test.YtmlihcillheeaaaDoorDig1
import Derived.Test.YtmlihcillheeaaaDoorShaW
set_option linter.unusedVariables false
namespace Go.Proofs.YtmlihcillheeaaaDoor.OpsU
open Go.RowKit Go.Proofs.YtmlihcillheeaaaDoor.Sums Go.Proofs.YtmlihcillheeaaaDoor.Mem Go.Proofs.YtmlihcillheeaaaDoor.Blk Go.Proofs.YtmlihcillheeaaaDoor.Bits Go.Proofs.YtmlihcillheeaaaDoor.Bits3 Go.Proofs.YtmlihcillheeaaaDoor.Ints Go.Proofs.YtmlihcillheeaaaDoor.Steps Go.Proofs.YtmlihcillheeaaaDoor.Free Go.Proofs.YtmlihcillheeaaaDoor.Ops Go.Proofs.YtmlihcillheeaaaDoor.ShaD Go.Proofs.YtmlihcillheeaaaDoor.Dig1

theorem u32_info : (Tryd.prog.info? 40).map (fun i => (i.zero, i.size, i.bytes)) = some (some (.int .u32 0), 1, 4) := by kernel_rfl
theorem st_uarr_at {o : Oper} {a : Act} {w : World} {K : Act → World → Prop} {Q : Exit → Act → World → Prop} {ty : TypeId} {n : Nat} (hu : Tryd.prog.underlying ty = some (.array n 40)) (x y : Operand) (ho : o.op = .indexAddr ty x y)
    (b i : Nat) (k : IntKind) (z : Int) (hx : a.eval x = .pointer (some ⟨b, 0, none⟩)) (hy : a.eval y = .int k z) (hz : z = (i : Int)) (hi : i < n)
    (h : K (a.put o.dst (.pointer (some ⟨b, i, none⟩))) w) : Step Tryd.prog o a w K Q := by
  subst hz
  refine wp_value (.pointer (some ⟨b, i, none⟩)) ?_ h
  obtain ⟨inf, hif, _, hsz, _⟩ := info_parts u32_info
  have h1 : (0 : Int) ≤ (i : Int) ∧ (i : Int) < (n : Int) := by omega
  simp [execOp, ho, hx, hy, Instr.indexAt, Instr.sureAddr, asIntOf, Sem.run_bind, run_underlying hu w, sizeOf, typeInfo, hif, hsz, h1, hi, Result.andThen, add_plain]
theorem st_store_u {o : Oper} {a : Act} {w : World} {K : Act → World → Prop} {Q : Exit → Act → World → Prop} (x y : Operand) (ho : o.op = .store 40 x y) (ad : Addr) (hx : a.eval x = .pointer (some ad)) (z : Int) (hy : a.eval y = .int .u32 z)
    (u : Value) (hc : w.cell? ad = some u) (hf : w.frozen? ad = false) (hK : K (a.put o.dst undef) (w.setCell ad (.int .u32 z))) : Step Tryd.prog o a w K Q := by
  have hz : (sizeOf 40).run Tryd.prog w = .ok 1 w := by kernel_rfl
  have hr : (storeVar 40 ad (.int .u32 z)).run Tryd.prog w = .ok () (w.setCell ad (.int .u32 z)) := by
    simp [storeVar, Value.cells, storeCells, Addr.add, hz, Result.andThen]
    rw [run_store Tryd.prog w ad _ _ (by rfl)]
    simp [hc, hf]
  constructor
  unfold Oper.wp execOp
  simp only [ho, hx, hy, Instr.storeAt, Instr.sureAddr, Sem.run_bind, Sem.run_pure, Result.andThen_ok, hr]
  exact hK
theorem conv_8_32 (z : Int) (w : World) (h0 : 0 ≤ z) (h1 : z ≤ 255) : (convert 5 40 (.int .u8 z)).run Tryd.prog w = .ok (.int .u32 z) w := by
  have e : IntKind.u32.wrap z = z := by rw [IntKind.wrap_u32]; omega
  have u1 := Tryd.underlying40
  have u2 := Tryd.underlying5
  simp [convert, run_underlying u1, run_underlying u2, Conv.intToInt, e]
theorem b_shl32 (a c : Int) (k : Nat) (x y : Operand) (w : World) (hk : k ≤ 32) (h : IntKind.u32.wrap (a * 2 ^ k) = c) : (do eqGuard .shl 40 x y (.int .u32 a) (.int .u64 (k : Int)); binOp .shl 40 (.int .u32 a) (.int .u64 (k : Int)) : Sem Value).run Tryd.prog w = .ok (.int .u32 c) w := by
  simp [go_sem, eqGuard, h]
theorem b_or32 (a b c : Int) (x y : Operand) (w : World) (h : bits .or .u32 a b = c) : (do eqGuard .or 40 x y (.int .u32 a) (.int .u32 b); binOp .or 40 (.int .u32 a) (.int .u32 b) : Sem Value).run Tryd.prog w = .ok (.int .u32 c) w := by
  subst h
  kernel_rfl
theorem b_add32 (a b c : Int) (x y : Operand) (w : World) (h : IntKind.u32.wrap (a + b) = c) : (do eqGuard .add 40 x y (.int .u32 a) (.int .u32 b); binOp .add 40 (.int .u32 a) (.int .u32 b) : Sem Value).run Tryd.prog w = .ok (.int .u32 c) w := by
  subst h
  kernel_rfl
theorem or_sh (a b i : Nat) (h : b < 2 ^ i) : a * 2 ^ i ||| b = a * 2 ^ i + b := by
  have e := Nat.shiftLeft_add_eq_or_of_lt h a
  rw [Nat.shiftLeft_eq] at e
  exact e.symm
theorem be_or {a b c d : Nat} (ha : a < 256) (hb : b < 256) (hc : c < 256) (hd : d < 256) : a * 16777216 ||| b * 65536 = a * 16777216 + b * 65536 ∧ (a * 16777216 + b * 65536) ||| c * 256 = a * 16777216 + b * 65536 + c * 256 ∧ (a * 16777216 + b * 65536 + c * 256) ||| d = 16777216 * a + 65536 * b + 256 * c + d := by
  have e1 := or_sh a (b * 65536) 24 (by omega)
  have e2 := or_sh (a * 256 + b) (c * 256) 16 (by omega)
  have e3 := or_sh (a * 65536 + b * 256 + c) d 8 (by omega)
  simp only [Nat.reducePow] at e1 e2 e3
  refine ⟨e1, ?_, ?_⟩
  · rw [show a * 16777216 + b * 65536 = (a * 256 + b) * 65536 by omega]; exact e2
  · rw [show a * 16777216 + b * 65536 + c * 256 = (a * 65536 + b * 256 + c) * 256 by omega, e3]; omega

/-! ### The words, one by one -/
def wstep (l : List Nat) (i : Nat) : Nat := (l.getD (i - 16) 0 + lo0 (l.getD (i - 15) 0) + l.getD (i - 7) 0 + lo1 (l.getD (i - 2) 0)) % M
theorem getD_app_left {a b : List Nat} {i : Nat} (h : i < a.length) : (a ++ b).getD i 0 = a.getD i 0 := by
  rw [List.getD_eq_getElem?_getD, List.getElem?_append_left h, ← List.getD_eq_getElem?_getD]
theorem wgo_pre : ∀ (n : Nat) (w : List Nat) (i : Nat), i < w.length → (wgo n w).getD i 0 = w.getD i 0
  | 0, _, _, _ => rfl
  | n + 1, w, i, h => by rw [wgo, wgo_pre n _ i (by rw [List.length_append]; omega), getD_app_left h]
theorem getD_snoc (w : List Nat) (x : Nat) : (w ++ [x]).getD w.length 0 = x := by simp
theorem wgo_last (n : Nat) (w : List Nat) : (wgo (n + 1) w).getD w.length 0 = wnext w := by
  have e : wgo (n + 1) w = wgo n (w ++ [wnext w]) := rfl
  rw [e]
  generalize wnext w = x
  exact (wgo_pre n _ _ (by simp)).trans (getD_snoc w x)
theorem wstep_eq {l k : List Nat} {i : Nat} (h : ∀ j, j < i → l.getD j 0 = k.getD j 0) (h16 : 16 ≤ i) : wstep l i = wstep k i := by
  have e1 := h (i - 16) (by omega)
  have e2 := h (i - 15) (by omega)
  have e3 := h (i - 7) (by omega)
  have e4 := h (i - 2) (by omega)
  simp only [wstep, e1, e2, e3, e4]
theorem wstep_next (w : List Nat) : wstep w w.length = wnext w := by simp only [wstep, wnext]
theorem wgo_step (n : Nat) : ∀ (w : List Nat) (i : Nat), 16 ≤ w.length → w.length ≤ i → i < w.length + n → (wgo n w).getD i 0 = wstep (wgo n w) i := by
  induction n with
  | zero => intro w i _ h1 h2; omega
  | succ n ih =>
    intro w i h16 h1 h2
    rcases Nat.lt_or_ge w.length i with q | q
    · have hl : (w ++ [wnext w]).length = w.length + 1 := by simp
      have := ih (w ++ [wnext w]) i (by rw [hl]; omega) (by rw [hl]; omega) (by rw [hl]; omega)
      simp only [wgo]
      exact this
    · have e0 : i = w.length := by omega
      subst e0
      exact (wgo_last n w).trans ((wstep_next w).symm.trans (wstep_eq (fun j hj => (wgo_pre (n + 1) w j hj).symm) h16))
theorem words_low {B : List Nat} {i : Nat} (h : i < 16) : (words B).getD i 0 = be B (4 * i) := by
  unfold words
  rw [wgo_pre _ _ _ (by simpa using h), List.getD_eq_getElem?_getD, List.getElem?_map, List.getElem?_range h]
  rfl
theorem words_high {B : List Nat} {i : Nat} (h : 16 ≤ i) (h2 : i < 64) : (words B).getD i 0 = wstep (words B) i := wgo_step 48 _ i (by simp) (by simpa using h) (by simpa using h2)
theorem words_all (B : List Nat) : (List.range 64).map (fun i => (words B).getD i 0) = words B := by
  apply List.ext_getElem
  · rw [words_len]; simp
  · intro i h1 h2
    simp only [List.getElem_map, List.getElem_range]
    rw [List.getD_eq_getElem?_getD, List.getElem?_eq_getElem h2]
    rfl
theorem add_m (a b : Nat) : IntKind.u32.wrap ((a % M : Nat) + (b : Nat) : Int) = (((a + b) % M : Nat) : Int) := by
  rw [IntKind.wrap_u32]; unfold M; omega
theorem add_z (a b : Nat) : IntKind.u32.wrap ((a : Nat) + (b : Nat) : Int) = (((a + b) % M : Nat) : Int) := by
  rw [IntKind.wrap_u32]; unfold M; omega
end Go.Proofs.YtmlihcillheeaaaDoor.OpsU
