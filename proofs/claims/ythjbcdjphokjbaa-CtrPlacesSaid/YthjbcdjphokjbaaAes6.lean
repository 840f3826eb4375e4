/- The contract of the code's Block. -/
import Derived.Test.YthjbcdjphokjbaaAes5
import Derived.Test.YthjbcdjphokjbaaCutA
import Derived.Laws.Cover3
set_option linter.unusedVariables false
namespace Go.Proofs.Ythjbcdjphokjbaa.Aes6
open Go.RowKit Go.PlainAid Go.Proofs.Ythjbcdjphokjbaa.Sums Go.Proofs.Ythjbcdjphokjbaa.Mem Go.Proofs.Ythjbcdjphokjbaa.Blk Go.Proofs.Ythjbcdjphokjbaa.Bits3 Go.Proofs.Ythjbcdjphokjbaa.Ints Go.Proofs.Ythjbcdjphokjbaa.CutA Go.Proofs.Ythjbcdjphokjbaa.AesF Go.Proofs.Ythjbcdjphokjbaa.AesB Go.Proofs.Ythjbcdjphokjbaa.AesR2 Go.Proofs.Ythjbcdjphokjbaa.AesR3 Go.Proofs.Ythjbcdjphokjbaa.Aes1 Go.Proofs.Ythjbcdjphokjbaa.Aes2 Go.Proofs.Ythjbcdjphokjbaa.Aes3 Go.Proofs.Ythjbcdjphokjbaa.Aes4 Go.Proofs.Ythjbcdjphokjbaa.Aes5

/-- A whole array read out of a row of bytes, at a place. -/
theorem run_loadVar_at (w : World) (b p : Nat) (ty : TypeId) (l : List Nat) (d : TypeDesc) (hu : Try.prog.underlying ty = some d) (hd : (match d with | .struct _ | .array _ _ => true | _ => false) = true)
    (hi : (Try.prog.info? ty).map (·.size) = some l.length) (h : ∀ j, j < l.length → w.cell? ⟨b, p + j, none⟩ = some (.int .u8 ((l.getD j 0 : Nat) : Int))) : (loadVar ty ⟨b, p, none⟩).run Try.prog w = .ok (.agg (bcells l)) w := by
  have hl : (loadCells ⟨b, p, none⟩ (bcells l).toList.length).run Try.prog w = .ok (bcells l).toList.toArray w :=
    run_loadCells_list (P := Try.prog) w ⟨b, p, none⟩ (bcells l).toList (fun j v hv => by
      rw [add_plain]
      have hj : j < l.length := by
        rcases Nat.lt_or_ge j l.length with h | h
        · exact h
        · rw [List.getElem?_eq_none (by simpa [bcells] using h)] at hv; cases hv
      rw [h j hj]
      have e := bcells_get l j hj
      rw [← e]
      simpa using hv)
  have hlen : (bcells l).toList.length = l.length := by simp [bcells]
  cases hq : Try.prog.info? ty with
  | none => simp [hq] at hi
  | some i =>
    have hs : i.size = l.length := by simpa [hq] using hi
    have hagg : (isAgg ty).run Try.prog w = .ok true w := by
      unfold isAgg
      rw [Sem.run_bind, run_underlying hu w]
      cases d <;> simp_all
    rw [hlen] at hl
    simp [loadVar, Sem.run_bind, hagg, sizeOf, typeInfo, hq, hs, hl]
theorem wpList_load_at {ops : Array Oper} {rest : List Oper} {o : Oper} {a : Act} {w : World} {Q : Exit → Act → World → Prop} (hgd : o.guard = none) (ty : TypeId) (x : Operand) (ho : o.op = .load ty x)
    (b p : Nat) (l : List Nat) (hx : a.eval x = .pointer (some ⟨b, p, none⟩)) (hr : (loadVar ty ⟨b, p, none⟩).run Try.prog w = .ok (.agg (bcells l)) w)
    (h : wpList Try.prog ops Q rest (a.put o.dst (.agg (bcells l))) w) : wpList Try.prog ops Q (o :: rest) a w :=
  wpList_plain hgd fun _ hK => by
    unfold Oper.wp execOp
    simp only [ho, hx, Instr.loadAt, Instr.sureAddr, Sem.run_bind, Sem.run_pure, Result.andThen_ok, hr]
    exact hK _ _ h
theorem ARow.setRow {w : World} {g : Nat} {t : TypeId} {l : List Nat} (h : ARow w g t l) (m : List Nat) : ARow (w.setRow g (bcells m)) g t m := setRow_heap _ _ _ _ _ _ h
theorem ARow.farRow {w : World} {g k : Nat} {t : TypeId} {l : List Nat} (h : ARow w g t l) (hk : k ≠ g) (cs : Array Value) : ARow (w.setRow k cs) g t l := by
  unfold ARow Blk at *
  unfold World.setRow
  simp only [Array.getElem?_modify]
  rw [if_neg hk]
  exact h
theorem sub_is (l : List Nat) : ((List.range 16).map fun i => ((List.range 16).map fun i => Box (l.getD i 0)).getD (src i) 0) = sub l := by
  show _ = (List.range 16).map fun i => Box (l.getD (src i) 0)
  refine List.map_congr_left fun i hi => ?_
  have h : i < 16 := List.mem_range.1 hi
  have hs : src i < 16 := by unfold src; omega
  rw [List.getD_eq_getElem?_getD, List.getElem?_map, List.getElem?_range hs]
  rfl

set_option maxHeartbeats 1000000 in
theorem sched_no (n : Nat) (hn : n ≤ 1000) (w : World) : Calls Try.prog 26 #[.int .i64 (n : Int)] w fun e w' => e = .returned (.int .i64 ((16 * (n / 4 + 7) : Nat) : Int)) ∧ w = w' := by
  have e1 : (n : Int).tdiv 4 = (n : Int) / 4 := Int.tdiv_eq_ediv_of_nonneg (by omega)
  have e2 : IntKind.i64.wrap ((n : Int) / 4) = (n : Int) / 4 := IntWalk.i64_in _ (by omega)
  have e3 : IntKind.i64.wrap ((n : Int) / 4 + 7) = (n : Int) / 4 + 7 := IntWalk.i64_in _ (by omega)
  have e4 : IntKind.i64.wrap (16 * ((n : Int) / 4 + 7)) = ((16 * (n / 4 + 7) : Nat) : Int) := by rw [IntWalk.i64_in _ (by omega)]; omega
  obtain ⟨r, hr⟩ : ∃ r, r = 16 * (n / 4 + 7) := ⟨_, rfl⟩
  rw [← hr] at e4 ⊢
  clear hr
  go_enter Try.func26, Try.ntmps26
  go_wp2_with fail
  go_ret
  exact ⟨rfl, rfl⟩
theorem sched_16 (w : World) : Calls Try.prog 26 #[.int .i64 16] w fun e w' => e = .returned (.int .i64 176) ∧ w = w' := sched_no 16 (by decide) w
theorem sched_32 (w : World) : Calls Try.prog 26 #[.int .i64 32] w fun e w' => e = .returned (.int .i64 240) ∧ w = w' := sched_no 32 (by decide) w

/-- A block, or keys, of a wrong length. -/
def goodB (n m : Nat) : Bool := (decide (n = 176) || decide (n = 240)) && decide (m = 16)
set_option maxHeartbeats 2000000 in
theorem block_bad (A Ai : Option Addr) (n c m ci : Nat) (w : World) (hn : n ≤ 140737488355328) (hm : m ≤ 140737488355328) (hb : goodB n m = false) :
    Calls Try.prog 25 #[.slice A n c, .slice Ai m ci] w fun e w' => e = .returned (.tuple #[.slice none 0 0, .int .i64 1]) ∧ w = w' := by
  have C1 := Lib.hid sched_16
  have C2 := Lib.hid sched_32
  by_cases h1 : n = 176
  · subst h1
    have h3 : m ≠ 16 := fun e => by subst e; simp [goodB] at hb
    have g3 : ((m : Int) != 16) = true := by simp; omega
    clear hb h3
    go_enter Try.func25, Try.ntmps25
    go_wp2_with fail
    refine (C1.out _).mono ?_
    rintro e w' ⟨rfl, rfl⟩
    go_wp2_with fail
    go_ret2
    exact ⟨rfl, rfl⟩
  · have g1 : ((n : Int) != 176) = true := by simp; omega
    by_cases h2 : n = 240
    · subst h2
      have h3 : m ≠ 16 := fun e => by subst e; simp [goodB] at hb
      have g3 : ((m : Int) != 16) = true := by simp; omega
      clear hb h3 h1
      go_enter Try.func25, Try.ntmps25
      go_wp2_with fail
      refine (C1.out _).mono ?_
      rintro e w' ⟨rfl, rfl⟩
      go_wp2_with fail
      refine (C2.out _).mono ?_
      rintro e w' ⟨rfl, rfl⟩
      go_wp2_with fail
      go_ret2
      exact ⟨rfl, rfl⟩
    · have g2 : ((n : Int) != 240) = true := by simp; omega
      clear hb h1 h2
      go_enter Try.func25, Try.ntmps25
      go_wp2_with fail
      refine (C1.out _).mono ?_
      rintro e w' ⟨rfl, rfl⟩
      go_wp2_with fail
      refine (C2.out _).mono ?_
      rintro e w' ⟨rfl, rfl⟩
      go_wp2_with fail
      go_ret2
      exact ⟨rfl, rfl⟩
end Go.Proofs.Ythjbcdjphokjbaa.Aes6
