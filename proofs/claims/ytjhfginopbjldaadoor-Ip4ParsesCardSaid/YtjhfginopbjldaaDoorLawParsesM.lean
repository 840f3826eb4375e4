/- The contract of the document's two; steps of the document's Parse. -/
import Derived.Test.YtjhfginopbjldaaDoorLawLays
import Derived.Test.YtjhfginopbjldaaDoorRegs
import Derived.Test.YtjhfginopbjldaaDoorParseAny
import Derived.Test.YtjhfginopbjldaaDoorOpts
import Derived.Test.YtjhfginopbjldaaDoorLawBack
import Derived.Deep.QuietTactic
import Derived.PlainAid
set_option linter.unusedVariables false
namespace Go.Proofs.YtjhfginopbjldaaDoor.TwoAt
open Go.RowKit Go.Proofs.YtjhfginopbjldaaDoor.Sums Go.Proofs.YtjhfginopbjldaaDoor.Mem Go.Proofs.YtjhfginopbjldaaDoor.Blk Go.Proofs.YtjhfginopbjldaaDoor.Bits Go.Proofs.YtjhfginopbjldaaDoor.Free Go.Proofs.YtjhfginopbjldaaDoor.Steps Go.Proofs.YtjhfginopbjldaaDoor.Decode Go.Proofs.YtjhfginopbjldaaDoor.ParseCode
open Go.Proofs.YtjhfginopbjldaaDoor.Regs (cell_getD getD_in)

theorem two_at (b p n c : Nat) (l : List Int) (w : World) (B : Nat) (h : Holds w B (some ⟨b, p, none⟩) n c l) (i : Nat) (hi : i + 1 < n) (hn : n ≤ 1048576) :
    Calls Tryd.prog 34 #[.slice (some ⟨b, p, none⟩) n c, .int .i64 (i : Int)] w fun e w' => e = .returned (.int .i64 (256 * l.getD i 0 + l.getD (i + 1) 0)) ∧ Below w.heap.size w w' := by
  have c0 := cell_getD h i (by omega)
  have c1 : w.cell? ⟨b, p + (i + 1), none⟩ = some (.int .u8 (l.getD (i + 1) 0)) := cell_getD h (i + 1) hi
  have y := getD_in h.2.2.2.1 i
  have z := getD_in h.2.2.2.1 (i + 1)
  have hnc := h.2.1
  clear h
  generalize l.getD i 0 = y0 at *
  generalize l.getD (i + 1) 0 = z0 at *
  obtain ⟨i1, hi1⟩ : ∃ i1, i1 = i + 1 := ⟨_, rfl⟩
  rw [← hi1] at c1 hi
  have e0 : IntKind.i64.wrap ((i : Int) + 1) = (i1 : Int) := by rw [IntWalk.i64_in _ (by omega)]; omega
  have e1 : IntKind.i64.wrap (256 * y0) = 256 * y0 := IntWalk.i64_in _ (by omega)
  have e2 : IntKind.i64.wrap (256 * y0 + z0) = 256 * y0 + z0 := IntWalk.i64_in _ (by omega)
  have e3 : IntKind.i64.wrap y0 = y0 := IntWalk.i64_in _ (by omega)
  have e4 : IntKind.i64.wrap z0 = z0 := IntWalk.i64_in _ (by omega)
  have j0 : i < n := by omega
  obtain ⟨y1, y2⟩ := y
  obtain ⟨z1, z2⟩ := z
  clear hi1
  go_enter Tryd.func34, Tryd.ntmps34
  go_wp2_with fail
  go_quiet (fail)
  clear e0 e1 e2 e3 e4
  go_wp2_with fail
  go_ret
  exact ⟨rfl, below_drewN (Below.refl _ _) nq⟩
theorem ent_two_at : Enters Tryd.prog 34 := enters_of Tryd.func34 (by kernel_rfl) rfl

theorem run_alloc4 (w : World) : (Instr.alloc 24 true (.tuple #[])).run Tryd.prog w = .ok (.pointer (some ⟨w.heap.size, 0, none⟩)) (w.alloc (.cells #[.int .i64 0, .int .i64 0, .int .i64 0, .int .i64 0, .bool false, .bool false, .int .i64 0, .string ⟨#[]⟩, .string ⟨#[]⟩, .string ⟨#[]⟩, .slice none 0 0] 24)) := by kernel_rfl
/-- A packet that is made. -/
theorem st_alloc4 {o : Oper} {a : Act} {w : World} {K : Act → World → Prop} {Q : Exit → Act → World → Prop} (ho : o.op = .alloc 24)
    (hK : K (a.put o.dst (.pointer (some ⟨w.heap.size, 0, none⟩))) (w.alloc (.cells #[.int .i64 0, .int .i64 0, .int .i64 0, .int .i64 0, .bool false, .bool false, .int .i64 0, .string ⟨#[]⟩, .string ⟨#[]⟩, .string ⟨#[]⟩, .slice none 0 0] 24))) : Step Tryd.prog o a w K Q := by
  have hr : (execOp a.eval o).run Tryd.prog w = .ok (.value (.pointer (some ⟨w.heap.size, 0, none⟩))) (w.alloc (.cells #[.int .i64 0, .int .i64 0, .int .i64 0, .int .i64 0, .bool false, .bool false, .int .i64 0, .string ⟨#[]⟩, .string ⟨#[]⟩, .string ⟨#[]⟩, .slice none 0 0] 24)) := by
    simp [execOp, ho, run_alloc4 w, Result.andThen]
  constructor
  unfold Oper.wp
  rw [hr]
  exact hK
theorem build4 (a0 a1 a2 a3 a6 : Int) (a4 a5 : Bool) (w : World) :
    (Instr.build 24 [(0, Value.int .i64 a0), (1, .int .i64 a1), (2, .int .i64 a2), (3, .int .i64 a3), (4, .bool a4), (5, .bool a5), (6, .int .i64 a6)].toArray).run Tryd.prog w
      = .ok (.agg #[.int .i64 a0, .int .i64 a1, .int .i64 a2, .int .i64 a3, .bool a4, .bool a5, .int .i64 a6, .string ⟨#[]⟩, .string ⟨#[]⟩, .string ⟨#[]⟩, .slice none 0 0]) w := by kernel_rfl
theorem setRow_bel {w W : World} {g B : Nat} (h : Below B w W) (hg : B ≤ g) (cs : Array Value) : Below B w (W.setRow g cs) :=
  ⟨h.os, h.tape, h.output, by simpa [World.setRow] using h.size, fun k hk => (setRow_other W g k cs (by omega)).trans (h.block k hk)⟩
theorem setRow_blk {w : World} {g : Nat} {t : TypeId} {cs : Array Value} (h : Blk w g t cs) (ds : Array Value) : Blk (w.setRow g ds) g t ds := setRow_heap w g cs ds t _ h
theorem blk_setRow {w : World} {g k : Nat} {t : TypeId} {cs ds : Array Value} (h : Blk w k t cs) (hk : k ≠ g) : Blk (w.setRow g ds) k t cs := (setRow_other w g k ds hk).trans h
theorem beq_dec (x y : Int) : (x == y) = decide (x = y) := by
  by_cases h : x = y
  · rw [decide_eq_true h]; simpa using h
  · rw [decide_eq_false h]; simpa using h
theorem owns_far {w : World} {base n k : Nat} {v : Value} {l : List Int} (h : Owns w base v n l) (hk : k < base) : some k ≠ v.ownBlock := fun q => by
  have := (h.lt k q.symm).1
  omega
theorem owns_setCell {w : World} {base n q : Nat} {v : Value} {l : List Int} (h : Owns w base v n l) (hq : some q ≠ v.ownBlock) (o : Nat) (u : Value) : Owns (w.setCell ⟨q, o, none⟩ u) base v n l :=
  h.kept (row := some q) ⟨rfl, rfl, rfl, by simp, fun k _ hk => Below.heap_setCell w ⟨q, o, none⟩ u k (fun e => hk (by rw [e]))⟩ (.inr fun e => hq e.symm)
end Go.Proofs.YtjhfginopbjldaaDoor.TwoAt

/- The contract of the document's Parse: any bytes. -/
set_option linter.unusedVariables false
namespace Go.Proofs.YtjhfginopbjldaaDoor.ParseRef
open Go.RowKit Go.Proofs.YtjhfginopbjldaaDoor.Sums Go.Proofs.YtjhfginopbjldaaDoor.Mem Go.Proofs.YtjhfginopbjldaaDoor.Blk Go.Proofs.YtjhfginopbjldaaDoor.Bits Go.Proofs.YtjhfginopbjldaaDoor.Pkt Go.Proofs.YtjhfginopbjldaaDoor.Check Go.Proofs.YtjhfginopbjldaaDoor.Free Go.Proofs.YtjhfginopbjldaaDoor.Steps Go.Proofs.YtjhfginopbjldaaDoor.Decode Go.Proofs.YtjhfginopbjldaaDoor.ParseCode Go.Proofs.YtjhfginopbjldaaDoor.Cut Go.Proofs.YtjhfginopbjldaaDoor.RefSum Go.Proofs.YtjhfginopbjldaaDoor.TwoAt
open Go.Proofs.YtjhfginopbjldaaDoor.Regs (cell_getD getD_in st_byte_at conv_int b_rem b_quo b_mul b_eql ent_both)

theorem owns_setRow {w : World} {base n q : Nat} {v : Value} {l : List Int} (h : Owns w base v n l) (hq : some q ≠ v.ownBlock) (cs : Array Value) : Owns (w.setRow q cs) base v n l :=
  h.kept (row := some q) ⟨rfl, rfl, rfl, by simp [World.setRow], fun k _ hk => setRow_other w q k cs (fun e => hk (by rw [e]))⟩ (.inr fun e => hq e.symm)
theorem list2 {f : Operand → Value} {x y : Operand} {u v : Value} (h1 : f x = u) (h2 : f y = v) : [x, y].map f = [u, v] := by simp [h1, h2]

set_option maxHeartbeats 1000000 in
set_option maxRecDepth 100000 in
theorem pref_short (A : Option Addr) (n c : Nat) (l : List Int) (w : World) (B : Nat) (h : Holds w B A n c l) (hB : B ≤ w.heap.size) (hn : n < 20) : Calls Tryd.prog 17 #[.slice A n c] w (Gives w l) := by
  have hl := h.1
  have PE : Hid (perr l = 8) := Lib.hid (by unfold perr; rw [if_pos (by omega)])
  have B0 := Lib.hid ((Below.refl w.heap.size w).alloc (Nat.le_refl _) (.cells #[.int .i64 0, .int .i64 0, .int .i64 0, .int .i64 0, .bool false, .bool false, .int .i64 0, .string ⟨#[]⟩, .string ⟨#[]⟩, .string ⟨#[]⟩, .slice none 0 0] 24))
  have R0 := Lib.hid (Blk.new w 24 #[.int .i64 0, .int .i64 0, .int .i64 0, .int .i64 0, .bool false, .bool false, .int .i64 0, .string ⟨#[]⟩, .string ⟨#[]⟩, .string ⟨#[]⟩, .slice none 0 0])
  clear h hl
  go_enter Tryd.func17, Tryd.ntmps17
  go_wp2_with (refine wpList_store_row rfl 24 (.tmp 2) (.tmp 11) rfl w.heap.size #[.int .i64 0, .int .i64 0, .int .i64 0, .int .i64 0, .bool false, .bool false, .int .i64 0, .string ⟨#[]⟩, .string ⟨#[]⟩, .string ⟨#[]⟩, .slice none 0 0] rfl rfl 24 _ R0.out (by kernel_rfl) rfl (one11 _ _ _ _ _ _ _ _ _ _ _ _ _) ?_)
  exact bodyPost_ret (results_pair rfl _ _ w.heap.size 24 _ (0, 0) _ _ rfl rfl (setRow_heap _ _ _ _ _ _ R0.out) Tryd.underlying24 rfl (by kernel_rfl)) rfl ⟨.inr ⟨by rw [PE.out]; decide, by rw [PE.out]; rfl⟩, setRow_bel B0.out (Nat.le_refl _) _⟩

set_option maxHeartbeats 2000000 in
set_option maxRecDepth 100000 in
theorem pref_bad (b p n c : Nat) (l : List Int) (w : World) (B : Nat) (h : Holds w B (some ⟨b, p, none⟩) n c l) (hB : B ≤ w.heap.size) (hn : n ≤ 65536) (h20 : 20 ≤ n) (he : perr l ≠ 0) : Calls Tryd.prog 17 #[.slice (some ⟨b, p, none⟩) n c] w (Gives w l) := by
  have hl := h.1
  have hnc := h.2.1
  have B0 := Lib.hid ((Below.refl w.heap.size w).alloc (Nat.le_refl _) (.cells #[.int .i64 0, .int .i64 0, .int .i64 0, .int .i64 0, .bool false, .bool false, .int .i64 0, .string ⟨#[]⟩, .string ⟨#[]⟩, .string ⟨#[]⟩, .slice none 0 0] 24))
  have R0 := Lib.hid (Blk.new w 24 #[.int .i64 0, .int .i64 0, .int .i64 0, .int .i64 0, .bool false, .bool false, .int .i64 0, .string ⟨#[]⟩, .string ⟨#[]⟩, .string ⟨#[]⟩, .slice none 0 0])
  have HA0 := h.below (B0.out.mono hB)
  have x0 := getD_in h.2.2.2.1 0
  have x2 := getD_in h.2.2.2.1 2
  have x3 := getD_in h.2.2.2.1 3
  have x6 := getD_in h.2.2.2.1 6
  have x7 := getD_in h.2.2.2.1 7
  obtain ⟨H, hH⟩ : ∃ H : Nat, l.getD 0 0 % 16 * 4 = (H : Int) := ⟨(l.getD 0 0 % 16 * 4).toNat, by omega⟩
  obtain ⟨T, hT⟩ : ∃ T : Nat, 256 * l.getD 2 0 + l.getD 3 0 = (T : Int) := ⟨(256 * l.getD 2 0 + l.getD 3 0).toNat, by omega⟩
  have PQ : Hid (perr l = if l.getD 0 0 / 16 ≠ 4 then 4 else if (H : Int) < 20 then 4 else if (n : Int) < (H : Int) then 8 else if (n : Int) < (T : Int) then 8 else if (T : Int) < (H : Int) then 4 else if (T : Int) < (n : Int) then 4 else if 32768 ≤ 256 * l.getD 6 0 + l.getD 7 0 then 4 else if sums 0 (l.take H) ≠ 65535 then 5 else 0) := Lib.hid (by
    unfold perr
    rw [if_neg (by omega), hH, hT, hl, Int.toNat_natCast])
  have HD : Hid (hdOf l = H) := Lib.hid (by unfold hdOf; rw [hH, Int.toNat_natCast])
  have H0 := Lib.hid h
  have LN := Lib.hid hl
  have c0 : (w.alloc (.cells #[.int .i64 0, .int .i64 0, .int .i64 0, .int .i64 0, .bool false, .bool false, .int .i64 0, .string ⟨#[]⟩, .string ⟨#[]⟩, .string ⟨#[]⟩, .slice none 0 0] 24)).cell? ⟨b, p, none⟩ = some (.int .u8 (l.getD 0 0)) := cell_getD HA0 0 (by omega)
  have TW := Lib.hid (fun W (hW : Below w.heap.size w W) => two_at b p n c l W B (h.below (hW.mono hB)) 2 (by omega) (by omega))
  have TW6 := Lib.hid (fun W (hW : Below w.heap.size w W) => two_at b p n c l W B (h.below (hW.mono hB)) 6 (by omega) (by omega))
  rw [hT] at TW
  clear HA0 hl
  obtain ⟨y0, hy0⟩ : ∃ y0, y0 = l.getD 0 0 := ⟨_, rfl⟩
  have Y0 := Lib.hid hy0
  rw [← hy0] at c0 x0 PQ hH
  have e1 : IntKind.i64.wrap y0 = y0 := IntWalk.i64_in _ (by omega)
  have e2 : IntKind.i64.wrap (4 * (y0 % 16)) = (H : Int) := by rw [IntWalk.i64_in _ (by omega)]; omega
  have i0 : 0 < n := by omega
  have h20' : ¬ n < 20 := by omega
  have H60 : H ≤ 60 := by omega
  have T65 : T ≤ 65535 := by omega
  clear hy0 hH hT x2 x3 h
  go_enter Tryd.func17, Tryd.ntmps17
  go_wp2_with fail
  refine (TW.out _ B0.out).mono ?_
  rintro e w1 ⟨rfl, hb⟩
  have B1 := Lib.hid (B0.out.trans (hb.mono B0.out.size))
  have R1 := Lib.hid (R0.out.below hb R0.out.lt)
  have c01 : w1.cell? ⟨b, p, none⟩ = some (.int .u8 y0) := by rw [Y0.out]; exact cell_getD (H0.out.below (B1.out.mono hB)) 0 (by omega)
  clear hb c0 TW B0 R0 e2 e1
  by_cases q1 : y0 / 16 = 4
  case neg =>
    have PE : Hid (perr l = 4) := Lib.hid (by rw [PQ.out, if_pos q1])
    have q1' : (y0 / 16 != 4) = true := by rw [bne_iff_ne]; exact q1
    clear PQ
    go_wp2_with (refine wpList_store_row rfl 24 (.tmp 2) (.tmp 29) rfl w.heap.size #[.int .i64 0, .int .i64 0, .int .i64 0, .int .i64 0, .bool false, .bool false, .int .i64 0, .string ⟨#[]⟩, .string ⟨#[]⟩, .string ⟨#[]⟩, .slice none 0 0] rfl rfl 24 _ R1.out (by kernel_rfl) rfl (one11 _ _ _ _ _ _ _ _ _ _ _ _ _) ?_)
    exact bodyPost_ret (results_pair rfl _ _ w.heap.size 24 _ (0, 0) _ _ rfl rfl (setRow_heap _ _ _ _ _ _ R1.out) Tryd.underlying24 rfl (by kernel_rfl)) rfl ⟨.inr ⟨by rw [PE.out]; decide, by rw [PE.out]; rfl⟩, setRow_bel B1.out (Nat.le_refl _) _⟩
  have q1' : (y0 / 16 != 4) = false := by rw [bne_eq_false_iff_eq]; exact q1
  by_cases q2 : H < 20
  · have PE : Hid (perr l = 4) := Lib.hid (by rw [PQ.out, if_neg (by omega), if_pos (by omega)])
    have q2' : decide (H < 20) = true := decide_eq_true q2
    clear PQ
    go_wp2_with (refine wpList_store_row rfl 24 (.tmp 2) (.tmp 29) rfl w.heap.size #[.int .i64 0, .int .i64 0, .int .i64 0, .int .i64 0, .bool false, .bool false, .int .i64 0, .string ⟨#[]⟩, .string ⟨#[]⟩, .string ⟨#[]⟩, .slice none 0 0] rfl rfl 24 _ R1.out (by kernel_rfl) rfl (one11 _ _ _ _ _ _ _ _ _ _ _ _ _) ?_)
    exact bodyPost_ret (results_pair rfl _ _ w.heap.size 24 _ (0, 0) _ _ rfl rfl (setRow_heap _ _ _ _ _ _ R1.out) Tryd.underlying24 rfl (by kernel_rfl)) rfl ⟨.inr ⟨by rw [PE.out]; decide, by rw [PE.out]; rfl⟩, setRow_bel B1.out (Nat.le_refl _) _⟩
  have q2' : decide (H < 20) = false := decide_eq_false q2
  by_cases q3 : n < H
  · have PE : Hid (perr l = 8) := Lib.hid (by rw [PQ.out, if_neg (by omega), if_neg (by omega), if_pos (by omega)])
    have q3' : decide (n < H) = true := decide_eq_true q3
    clear PQ
    go_wp2_with (refine wpList_store_row rfl 24 (.tmp 2) (.tmp 40) rfl w.heap.size #[.int .i64 0, .int .i64 0, .int .i64 0, .int .i64 0, .bool false, .bool false, .int .i64 0, .string ⟨#[]⟩, .string ⟨#[]⟩, .string ⟨#[]⟩, .slice none 0 0] rfl rfl 24 _ R1.out (by kernel_rfl) rfl (one11 _ _ _ _ _ _ _ _ _ _ _ _ _) ?_)
    exact bodyPost_ret (results_pair rfl _ _ w.heap.size 24 _ (0, 0) _ _ rfl rfl (setRow_heap _ _ _ _ _ _ R1.out) Tryd.underlying24 rfl (by kernel_rfl)) rfl ⟨.inr ⟨by rw [PE.out]; decide, by rw [PE.out]; rfl⟩, setRow_bel B1.out (Nat.le_refl _) _⟩
  have q3' : decide (n < H) = false := decide_eq_false q3
  by_cases q4 : n < T
  · have PE : Hid (perr l = 8) := Lib.hid (by rw [PQ.out, if_neg (by omega), if_neg (by omega), if_neg (by omega), if_pos (by omega)])
    have q4' : decide (n < T) = true := decide_eq_true q4
    clear PQ
    go_wp2_with (refine wpList_store_row rfl 24 (.tmp 2) (.tmp 40) rfl w.heap.size #[.int .i64 0, .int .i64 0, .int .i64 0, .int .i64 0, .bool false, .bool false, .int .i64 0, .string ⟨#[]⟩, .string ⟨#[]⟩, .string ⟨#[]⟩, .slice none 0 0] rfl rfl 24 _ R1.out (by kernel_rfl) rfl (one11 _ _ _ _ _ _ _ _ _ _ _ _ _) ?_)
    exact bodyPost_ret (results_pair rfl _ _ w.heap.size 24 _ (0, 0) _ _ rfl rfl (setRow_heap _ _ _ _ _ _ R1.out) Tryd.underlying24 rfl (by kernel_rfl)) rfl ⟨.inr ⟨by rw [PE.out]; decide, by rw [PE.out]; rfl⟩, setRow_bel B1.out (Nat.le_refl _) _⟩
  have q4' : decide (n < T) = false := decide_eq_false q4
  by_cases q5 : T < H
  · have PE : Hid (perr l = 4) := Lib.hid (by rw [PQ.out, if_neg (by omega), if_neg (by omega), if_neg (by omega), if_neg (by omega), if_pos (by omega)])
    have q5' : decide (T < H) = true := decide_eq_true q5
    clear PQ
    go_wp2_with (refine wpList_store_row rfl 24 (.tmp 2) (.tmp 56) rfl w.heap.size #[.int .i64 0, .int .i64 0, .int .i64 0, .int .i64 0, .bool false, .bool false, .int .i64 0, .string ⟨#[]⟩, .string ⟨#[]⟩, .string ⟨#[]⟩, .slice none 0 0] rfl rfl 24 _ R1.out (by kernel_rfl) rfl (one11 _ _ _ _ _ _ _ _ _ _ _ _ _) ?_)
    exact bodyPost_ret (results_pair rfl _ _ w.heap.size 24 _ (0, 0) _ _ rfl rfl (setRow_heap _ _ _ _ _ _ R1.out) Tryd.underlying24 rfl (by kernel_rfl)) rfl ⟨.inr ⟨by rw [PE.out]; decide, by rw [PE.out]; rfl⟩, setRow_bel B1.out (Nat.le_refl _) _⟩
  have q5' : decide (T < H) = false := decide_eq_false q5
  by_cases q6 : T < n
  · have PE : Hid (perr l = 4) := Lib.hid (by rw [PQ.out, if_neg (by omega), if_neg (by omega), if_neg (by omega), if_neg (by omega), if_neg (by omega), if_pos (by omega)])
    have q6' : decide (T < n) = true := decide_eq_true q6
    clear PQ
    go_wp2_with (refine wpList_store_row rfl 24 (.tmp 2) (.tmp 56) rfl w.heap.size #[.int .i64 0, .int .i64 0, .int .i64 0, .int .i64 0, .bool false, .bool false, .int .i64 0, .string ⟨#[]⟩, .string ⟨#[]⟩, .string ⟨#[]⟩, .slice none 0 0] rfl rfl 24 _ R1.out (by kernel_rfl) rfl (one11 _ _ _ _ _ _ _ _ _ _ _ _ _) ?_)
    exact bodyPost_ret (results_pair rfl _ _ w.heap.size 24 _ (0, 0) _ _ rfl rfl (setRow_heap _ _ _ _ _ _ R1.out) Tryd.underlying24 rfl (by kernel_rfl)) rfl ⟨.inr ⟨by rw [PE.out]; decide, by rw [PE.out]; rfl⟩, setRow_bel B1.out (Nat.le_refl _) _⟩
  have q6' : decide (T < n) = false := decide_eq_false q6
  have c6 := cell_getD (H0.out.below (B1.out.mono hB)) 6 (by omega)
  obtain ⟨y6, hy6⟩ : ∃ y6, y6 = l.getD 6 0 := ⟨_, rfl⟩
  rw [← hy6] at c6 x6
  have Z6 : Hid (y6 = l.getD 6 0) := Lib.hid hy6
  clear hy6
  have i6 : 6 < n := by omega
  have i6' : (6 : Int) < (n : Int) := by omega
  by_cases q7 : 128 ≤ y6
  · have PE : Hid (perr l = 4) := Lib.hid (by have hy6 := Z6.out; rw [PQ.out, if_neg (by omega), if_neg (by omega), if_neg (by omega), if_neg (by omega), if_neg (by omega), if_neg (by omega), if_pos (by omega)])
    have q7' : (128 ≤ y6) = True := eq_true q7
    clear PQ
    go_wp2_with (refine wpList_store_row rfl 24 (.tmp 2) (.tmp 56) rfl w.heap.size #[.int .i64 0, .int .i64 0, .int .i64 0, .int .i64 0, .bool false, .bool false, .int .i64 0, .string ⟨#[]⟩, .string ⟨#[]⟩, .string ⟨#[]⟩, .slice none 0 0] rfl rfl 24 _ R1.out (by kernel_rfl) rfl (one11 _ _ _ _ _ _ _ _ _ _ _ _ _) ?_)
    exact bodyPost_ret (results_pair rfl _ _ w.heap.size 24 _ (0, 0) _ _ rfl rfl (setRow_heap _ _ _ _ _ _ R1.out) Tryd.underlying24 rfl (by kernel_rfl)) rfl ⟨.inr ⟨by rw [PE.out]; decide, by rw [PE.out]; rfl⟩, setRow_bel B1.out (Nat.le_refl _) _⟩
  have q7' : (128 ≤ y6) = False := eq_false q7
  have SP := Lib.hid (fun W (hW : Below w.heap.size w W) => sum_ref (some ⟨b, p, none⟩) H c (l.take H) W B ((H0.out.below (hW.mono hB)).upto (by omega)) (by omega))
  have Hn : H ≤ n := by omega
  have Hc : H ≤ c := by omega
  obtain ⟨t, ht⟩ : ∃ t, t = sums 0 (l.take H) := ⟨_, rfl⟩
  rw [← ht] at PQ SP
  clear ht
  by_cases q8 : t = 65535
  case neg =>
    have PE : Hid (perr l = 5) := Lib.hid (by have hy6 := Z6.out; rw [PQ.out, if_neg (by omega), if_neg (by omega), if_neg (by omega), if_neg (by omega), if_neg (by omega), if_neg (by omega), if_neg (by omega), if_pos q8])
    have q8' : (t != 65535) = true := by rw [bne_iff_ne]; exact q8
    clear PQ
    go_wp2_with fail
    refine (SP.out _ B1.out).mono ?_
    rintro e w2 ⟨rfl, rfl⟩
    go_wp2_with (refine wpList_store_row rfl 24 (.tmp 2) (.tmp 62) rfl w.heap.size #[.int .i64 0, .int .i64 0, .int .i64 0, .int .i64 0, .bool false, .bool false, .int .i64 0, .string ⟨#[]⟩, .string ⟨#[]⟩, .string ⟨#[]⟩, .slice none 0 0] rfl rfl 24 _ R1.out (by kernel_rfl) rfl (one11 _ _ _ _ _ _ _ _ _ _ _ _ _) ?_)
    exact bodyPost_ret (results_pair rfl _ _ w.heap.size 24 _ (0, 0) _ _ rfl rfl (setRow_heap _ _ _ _ _ _ R1.out) Tryd.underlying24 rfl (by kernel_rfl)) rfl ⟨.inr ⟨by rw [PE.out]; decide, by rw [PE.out]; rfl⟩, setRow_bel B1.out (Nat.le_refl _) _⟩
  exact absurd (by have hy6 := Z6.out; rw [PQ.out, if_neg (by omega), if_neg (by omega), if_neg (by omega), if_neg (by omega), if_neg (by omega), if_neg (by omega), if_neg (by omega), if_neg (by omega)]) he

set_option maxHeartbeats 2000000 in
set_option maxRecDepth 100000 in
theorem pref_ok (b p n c : Nat) (l : List Int) (w : World) (B : Nat) (h : Holds w B (some ⟨b, p, none⟩) n c l) (hB : B ≤ w.heap.size) (hn : n ≤ 65536) (h20 : 20 ≤ n) (he : perr l = 0) : Calls Tryd.prog 17 #[.slice (some ⟨b, p, none⟩) n c] w (Gives w l) := by
  have hl := h.1
  have hnc := h.2.1
  have B0 := Lib.hid ((Below.refl w.heap.size w).alloc (Nat.le_refl _) (.cells #[.int .i64 0, .int .i64 0, .int .i64 0, .int .i64 0, .bool false, .bool false, .int .i64 0, .string ⟨#[]⟩, .string ⟨#[]⟩, .string ⟨#[]⟩, .slice none 0 0] 24))
  have R0 := Lib.hid (Blk.new w 24 #[.int .i64 0, .int .i64 0, .int .i64 0, .int .i64 0, .bool false, .bool false, .int .i64 0, .string ⟨#[]⟩, .string ⟨#[]⟩, .string ⟨#[]⟩, .slice none 0 0])
  have PG := perr_good he
  have PE := Lib.hid he
  have HA0 := h.below (B0.out.mono hB)
  have x0 := getD_in h.2.2.2.1 0
  have x2 := getD_in h.2.2.2.1 2
  have x3 := getD_in h.2.2.2.1 3
  have x6 := getD_in h.2.2.2.1 6
  have x7 := getD_in h.2.2.2.1 7
  obtain ⟨H, hH⟩ : ∃ H : Nat, l.getD 0 0 % 16 * 4 = (H : Int) := ⟨(l.getD 0 0 % 16 * 4).toNat, by omega⟩
  obtain ⟨T, hT⟩ : ∃ T : Nat, 256 * l.getD 2 0 + l.getD 3 0 = (T : Int) := ⟨(256 * l.getD 2 0 + l.getD 3 0).toNat, by omega⟩
  have hH2 : hdOf l = H := by unfold hdOf; rw [hH, Int.toNat_natCast]
  rw [hH, hT, hl, hH2] at PG
  obtain ⟨_, g1, g2, g3, g4, g5, g6⟩ := PG
  have HD : Hid (hdOf l = H) := Lib.hid (by unfold hdOf; rw [hH, Int.toNat_natCast])
  have H0 := Lib.hid h
  have LN := Lib.hid hl
  have c0 : (w.alloc (.cells #[.int .i64 0, .int .i64 0, .int .i64 0, .int .i64 0, .bool false, .bool false, .int .i64 0, .string ⟨#[]⟩, .string ⟨#[]⟩, .string ⟨#[]⟩, .slice none 0 0] 24)).cell? ⟨b, p, none⟩ = some (.int .u8 (l.getD 0 0)) := cell_getD HA0 0 (by omega)
  have TW := Lib.hid (fun W (hW : Below w.heap.size w W) => two_at b p n c l W B (h.below (hW.mono hB)) 2 (by omega) (by omega))
  have TW6 := Lib.hid (fun W (hW : Below w.heap.size w W) => two_at b p n c l W B (h.below (hW.mono hB)) 6 (by omega) (by omega))
  rw [hT] at TW
  clear HA0 hl
  obtain ⟨y0, hy0⟩ : ∃ y0, y0 = l.getD 0 0 := ⟨_, rfl⟩
  have Y0 := Lib.hid hy0
  rw [← hy0] at c0 x0 g1 hH
  have e1 : IntKind.i64.wrap y0 = y0 := IntWalk.i64_in _ (by omega)
  have e2 : IntKind.i64.wrap (4 * (y0 % 16)) = (H : Int) := by rw [IntWalk.i64_in _ (by omega)]; omega
  have i0 : 0 < n := by omega
  have h20' : ¬ n < 20 := by omega
  have H60 : H ≤ 60 := by omega
  have T65 : T ≤ 65535 := by omega
  clear hy0 hH hT x2 x3 h
  go_enter Tryd.func17, Tryd.ntmps17
  go_wp2_with fail
  refine (TW.out _ B0.out).mono ?_
  rintro e w1 ⟨rfl, hb⟩
  have B1 := Lib.hid (B0.out.trans (hb.mono B0.out.size))
  have R1 := Lib.hid (R0.out.below hb R0.out.lt)
  have c01 : w1.cell? ⟨b, p, none⟩ = some (.int .u8 y0) := by rw [Y0.out]; exact cell_getD (H0.out.below (B1.out.mono hB)) 0 (by omega)
  clear hb c0 TW B0 R0 e2 e1
  have q1' : (y0 / 16 != 4) = false := by rw [bne_eq_false_iff_eq]; exact g1
  have q2' : decide (H < 20) = false := decide_eq_false (by omega)
  have q3' : decide (n < H) = false := decide_eq_false (by omega)
  have q4' : decide (n < T) = false := decide_eq_false (by omega)
  have q5' : decide (T < H) = false := decide_eq_false (by omega)
  have q6' : decide (T < n) = false := decide_eq_false (by omega)
  have c6 := cell_getD (H0.out.below (B1.out.mono hB)) 6 (by omega)
  obtain ⟨y6, hy6⟩ : ∃ y6, y6 = l.getD 6 0 := ⟨_, rfl⟩
  rw [← hy6] at c6 x6 g5
  have Z6 : Hid (y6 = l.getD 6 0) := Lib.hid hy6
  clear hy6
  have i6 : 6 < n := by omega
  have i6' : (6 : Int) < (n : Int) := by omega
  have q7' : (128 ≤ y6) = False := eq_false (by omega)
  have SP := Lib.hid (fun W (hW : Below w.heap.size w W) => sum_ref (some ⟨b, p, none⟩) H c (l.take H) W B ((H0.out.below (hW.mono hB)).upto (by omega)) (by omega))
  have Hn : H ≤ n := by omega
  have Hc : H ≤ c := by omega
  have H20 : 20 ≤ H := by omega
  rw [g6] at SP
  clear g1 g2 g3 g4 g5 g6 hH2
  go_wp2_with fail
  refine (SP.out _ B1.out).mono ?_
  rintro e w2 ⟨rfl, rfl⟩
  go_wp2_with fail
  refine (TW6.out _ B1.out).mono ?_
  rintro e w2 ⟨rfl, hb⟩
  have B2 := Lib.hid (B1.out.trans (hb.mono B1.out.size))
  have R2 := Lib.hid (R1.out.below hb R1.out.lt)
  clear hb TW6 SP q1' q2' q3' q4' q5' q6' q7' c01 c6 B1 R1
  obtain ⟨z, hz⟩ : ∃ z, z = 256 * l.getD 6 0 + l.getD 7 0 := ⟨_, rfl⟩
  have ZH := Lib.hid hz
  have zb : 0 ≤ z ∧ z ≤ 65535 := by rw [hz]; rw [Z6.out] at x6; omega
  rw [← hz]
  clear hz x6 x7
  go_wp2_with fail
  have HW : Hid (∀ w', Below w2.drew.heap.size w2.drew w' → Holds w' B (some ⟨b, p, none⟩) n c l) := Lib.hid fun w' hw => H0.out.below ((B2.out.trans (((below_drewN (Below.refl w2.heap.size w2) 1).trans hw).mono B2.out.size)).mono hB)
  have u1 := getD_in H0.out.2.2.2.1 1
  have u4 := getD_in H0.out.2.2.2.1 4
  have u5 := getD_in H0.out.2.2.2.1 5
  have u8 := getD_in H0.out.2.2.2.1 8
  have u9 := getD_in H0.out.2.2.2.1 9
  refine wp_region_free [0, 1, 2, 3, 4, 5, 6, 7, 8, 9, 10, 11, 12, 13, 14, 15, 16, 17, 18, 19, 20, 21, 22, 23, 24, 25, 26] 27 [] (fun w1 w2 => Below w1.heap.size w1 w2) (fun k' w' v => match k' with
    | 0 => v = .slice (some ⟨b, p, none⟩) n c
    | 1 => v = .pointer (some ⟨b, p + 1, none⟩)
    | 2 => v = .int .u8 (l.getD 1 0)
    | 3 => v = .int .i64 (l.getD 1 0)
    | 4 => v = .slice (some ⟨b, p, none⟩) n c
    | 5 => v = .int .i64 (256 * l.getD 4 0 + l.getD 5 0)
    | 6 => v = .slice (some ⟨b, p, none⟩) n c
    | 7 => v = .pointer (some ⟨b, p + 8, none⟩)
    | 8 => v = .int .u8 (l.getD 8 0)
    | 9 => v = .int .i64 (l.getD 8 0)
    | 10 => v = .slice (some ⟨b, p, none⟩) n c
    | 11 => v = .pointer (some ⟨b, p + 9, none⟩)
    | 12 => v = .int .u8 (l.getD 9 0)
    | 13 => v = .int .i64 (l.getD 9 0)
    | 14 => v = .int .i64 z
    | 15 => v = .int .i64 (z / 16384)
    | 16 => v = .int .i64 ((z / 16384) % 2)
    | 17 => v = .bool (((z / 16384) % 2) == 1)
    | 18 => v = .int .i64 z
    | 19 => v = .int .i64 (z / 8192)
    | 20 => v = .int .i64 ((z / 8192) % 2)
    | 21 => v = .bool (((z / 8192) % 2) == 1)
    | 22 => v = .int .i64 z
    | 23 => v = .int .i64 (z % 8192)
    | 24 => v = .int .i64 ((z % 8192) * 8)
    | 25 => v = .agg #[.int .i64 (l.getD 1 0), .int .i64 (256 * l.getD 4 0 + l.getD 5 0), .int .i64 (l.getD 8 0), .int .i64 (l.getD 9 0), .bool ((z / 16384) % 2 == 1), .bool ((z / 8192) % 2 == 1), .int .i64 ((z % 8192) * 8), .string ⟨#[]⟩, .string ⟨#[]⟩, .string ⟨#[]⟩, .slice none 0 0]
    | _ => ∃ g, v = .pointer (some ⟨g, 0, none⟩) ∧ w2.heap.size ≤ g ∧ Blk w' g 24 #[.int .i64 0, .int .i64 0, .int .i64 0, .int .i64 0, .bool false, .bool false, .int .i64 0, .string ⟨#[]⟩, .string ⟨#[]⟩, .string ⟨#[]⟩, .slice none 0 0]) (by kernel_rfl) (by kernel_rfl) (Below.refl _ _) (fun _ _ _ h k => h.trans (k.mono h.size)) (fun k' w1 w2 v h => match k' with
    | 0 => fun x => x
    | 1 => fun x => x
    | 2 => fun x => x
    | 3 => fun x => x
    | 4 => fun x => x
    | 5 => fun x => x
    | 6 => fun x => x
    | 7 => fun x => x
    | 8 => fun x => x
    | 9 => fun x => x
    | 10 => fun x => x
    | 11 => fun x => x
    | 12 => fun x => x
    | 13 => fun x => x
    | 14 => fun x => x
    | 15 => fun x => x
    | 16 => fun x => x
    | 17 => fun x => x
    | 18 => fun x => x
    | 19 => fun x => x
    | 20 => fun x => x
    | 21 => fun x => x
    | 22 => fun x => x
    | 23 => fun x => x
    | 24 => fun x => x
    | 25 => fun x => x
    | _ + 26 => fun ⟨g, e, h1, h2⟩ => ⟨g, e, h1, h2.below h h2.lt⟩) (fun _ _ _ _ _ h => h) ?_ _ (by rfl) ?_
  · refine obs_cons (by rfl) (fun vals w' hgr hdep K hK => ?_) (obs_cons (by rfl) (fun vals w' hgr hdep K hK => ?_) (obs_cons (by rfl) (fun vals w' hgr hdep K hK => ?_) (obs_cons (by rfl) (fun vals w' hgr hdep K hK => ?_) (obs_cons (by rfl) (fun vals w' hgr hdep K hK => ?_) (obs_cons (by rfl) (fun vals w' hgr hdep K hK => ?_) (obs_cons (by rfl) (fun vals w' hgr hdep K hK => ?_) (obs_cons (by rfl) (fun vals w' hgr hdep K hK => ?_) (obs_cons (by rfl) (fun vals w' hgr hdep K hK => ?_) (obs_cons (by rfl) (fun vals w' hgr hdep K hK => ?_) (obs_cons (by rfl) (fun vals w' hgr hdep K hK => ?_) (obs_cons (by rfl) (fun vals w' hgr hdep K hK => ?_) (obs_cons (by rfl) (fun vals w' hgr hdep K hK => ?_) (obs_cons (by rfl) (fun vals w' hgr hdep K hK => ?_) (obs_cons (by rfl) (fun vals w' hgr hdep K hK => ?_) (obs_cons (by rfl) (fun vals w' hgr hdep K hK => ?_) (obs_cons (by rfl) (fun vals w' hgr hdep K hK => ?_) (obs_cons (by rfl) (fun vals w' hgr hdep K hK => ?_) (obs_cons (by rfl) (fun vals w' hgr hdep K hK => ?_) (obs_cons (by rfl) (fun vals w' hgr hdep K hK => ?_) (obs_cons (by rfl) (fun vals w' hgr hdep K hK => ?_) (obs_cons (by rfl) (fun vals w' hgr hdep K hK => ?_) (obs_cons (by rfl) (fun vals w' hgr hdep K hK => ?_) (obs_cons (by rfl) (fun vals w' hgr hdep K hK => ?_) (obs_cons (by rfl) (fun vals w' hgr hdep K hK => ?_) (obs_cons (by rfl) (fun vals w' hgr hdep K hK => ?_) (obs_cons (by rfl) (fun vals w' hgr hdep K hK => ?_) (obs_nil)))))))))))))))))))))))))))
    · exact wp_move (.tmp 0) rfl _ (at_out _ (by kernel_rfl) rfl) (hK _ _ (Below.refl _ _) rfl)
    · exact st_byte_at (.tmp 65) (.const (.int .i64 1)) rfl b p n c 1 ((at_dst 0 (by kernel_rfl)).trans (hdep 0 (by simp) (by kernel_rfl))) rfl (by omega) (hK _ _ (Below.refl _ _) rfl)
    · exact wp_load1 (.tmp 66) rfl ⟨b, p + 1, none⟩ ((at_dst 1 (by kernel_rfl)).trans (hdep 1 (by simp) (by kernel_rfl))) Tryd.underlying5 rfl _ (cell_getD (HW.out _ hgr) 1 (by omega)) (hK _ _ (Below.refl _ _) rfl)
    · exact wp_conv (.tmp 67) rfl _ _ ((at_dst 2 (by kernel_rfl)).trans (hdep 2 (by simp) (by kernel_rfl))) (conv_int _ _ (by omega) (by omega)) (hK _ _ (Below.refl _ _) rfl)
    · exact wp_move (.tmp 0) rfl _ (at_out _ (by kernel_rfl) rfl) (hK _ _ (Below.refl _ _) rfl)
    · exact wp_call 34 [.tmp 69, .const (.int .i64 4)] _ rfl ent_two_at [.slice (some ⟨b, p, none⟩) n c, .int .i64 ((4 : Nat) : Int)] (list2 ((at_dst 4 (by kernel_rfl)).trans (hdep 4 (by simp) (by kernel_rfl))) rfl) (fun v w'' => v = .int .i64 (256 * l.getD 4 0 + l.getD 5 0) ∧ Below w'.heap.size w' w'') ((two_at b p n c l w' B (HW.out _ hgr) 4 (by omega) (by omega)).mono fun e w'' ⟨h1, h2⟩ => ⟨_, h1, rfl, h2⟩) (fun v w'' ⟨h1, h2⟩ => hK v _ h2 h1)
    · exact wp_move (.tmp 0) rfl _ (at_out _ (by kernel_rfl) rfl) (hK _ _ (Below.refl _ _) rfl)
    · exact st_byte_at (.tmp 71) (.const (.int .i64 8)) rfl b p n c 8 ((at_dst 6 (by kernel_rfl)).trans (hdep 6 (by simp) (by kernel_rfl))) rfl (by omega) (hK _ _ (Below.refl _ _) rfl)
    · exact wp_load1 (.tmp 72) rfl ⟨b, p + 8, none⟩ ((at_dst 7 (by kernel_rfl)).trans (hdep 7 (by simp) (by kernel_rfl))) Tryd.underlying5 rfl _ (cell_getD (HW.out _ hgr) 8 (by omega)) (hK _ _ (Below.refl _ _) rfl)
    · exact wp_conv (.tmp 73) rfl _ _ ((at_dst 8 (by kernel_rfl)).trans (hdep 8 (by simp) (by kernel_rfl))) (conv_int _ _ (by omega) (by omega)) (hK _ _ (Below.refl _ _) rfl)
    · exact wp_move (.tmp 0) rfl _ (at_out _ (by kernel_rfl) rfl) (hK _ _ (Below.refl _ _) rfl)
    · exact st_byte_at (.tmp 75) (.const (.int .i64 9)) rfl b p n c 9 ((at_dst 10 (by kernel_rfl)).trans (hdep 10 (by simp) (by kernel_rfl))) rfl (by omega) (hK _ _ (Below.refl _ _) rfl)
    · exact wp_load1 (.tmp 76) rfl ⟨b, p + 9, none⟩ ((at_dst 11 (by kernel_rfl)).trans (hdep 11 (by simp) (by kernel_rfl))) Tryd.underlying5 rfl _ (cell_getD (HW.out _ hgr) 9 (by omega)) (hK _ _ (Below.refl _ _) rfl)
    · exact wp_conv (.tmp 77) rfl _ _ ((at_dst 12 (by kernel_rfl)).trans (hdep 12 (by simp) (by kernel_rfl))) (conv_int _ _ (by omega) (by omega)) (hK _ _ (Below.refl _ _) rfl)
    · exact wp_move (.tmp 6) rfl _ (at_out _ (by kernel_rfl) rfl) (hK _ _ (Below.refl _ _) rfl)
    · exact wp_bin (.tmp 79) (.const (.int .i64 16384)) rfl _ _ _ ((at_dst 14 (by kernel_rfl)).trans (hdep 14 (by simp) (by kernel_rfl))) rfl (b_quo _ _ _ _ _ (by omega) (by omega) (by omega)) (hK _ _ (Below.refl _ _) rfl)
    · exact wp_bin (.tmp 80) (.const (.int .i64 2)) rfl _ _ _ ((at_dst 15 (by kernel_rfl)).trans (hdep 15 (by simp) (by kernel_rfl))) rfl (b_rem _ _ _ _ _ (by omega) (by omega) (by omega)) (hK _ _ (Below.refl _ _) rfl)
    · exact wp_bin (.tmp 81) (.const (.int .i64 1)) rfl _ _ _ ((at_dst 16 (by kernel_rfl)).trans (hdep 16 (by simp) (by kernel_rfl))) rfl (b_eql _ _ _ _ _) (hK _ _ (Below.refl _ _) rfl)
    · exact wp_move (.tmp 6) rfl _ (at_out _ (by kernel_rfl) rfl) (hK _ _ (Below.refl _ _) rfl)
    · exact wp_bin (.tmp 83) (.const (.int .i64 8192)) rfl _ _ _ ((at_dst 18 (by kernel_rfl)).trans (hdep 18 (by simp) (by kernel_rfl))) rfl (b_quo _ _ _ _ _ (by omega) (by omega) (by omega)) (hK _ _ (Below.refl _ _) rfl)
    · exact wp_bin (.tmp 84) (.const (.int .i64 2)) rfl _ _ _ ((at_dst 19 (by kernel_rfl)).trans (hdep 19 (by simp) (by kernel_rfl))) rfl (b_rem _ _ _ _ _ (by omega) (by omega) (by omega)) (hK _ _ (Below.refl _ _) rfl)
    · exact wp_bin (.tmp 85) (.const (.int .i64 1)) rfl _ _ _ ((at_dst 20 (by kernel_rfl)).trans (hdep 20 (by simp) (by kernel_rfl))) rfl (b_eql _ _ _ _ _) (hK _ _ (Below.refl _ _) rfl)
    · exact wp_move (.tmp 6) rfl _ (at_out _ (by kernel_rfl) rfl) (hK _ _ (Below.refl _ _) rfl)
    · exact wp_bin (.tmp 87) (.const (.int .i64 8192)) rfl _ _ _ ((at_dst 22 (by kernel_rfl)).trans (hdep 22 (by simp) (by kernel_rfl))) rfl (b_rem _ _ _ _ _ (by omega) (by omega) (by omega)) (hK _ _ (Below.refl _ _) rfl)
    · exact wp_bin (.tmp 88) (.const (.int .i64 8)) rfl _ _ _ ((at_dst 23 (by kernel_rfl)).trans (hdep 23 (by simp) (by kernel_rfl))) rfl (b_mul _ _ _ _ _ (by omega) (by omega)) (hK _ _ (Below.refl _ _) rfl)
    · have eq3 : vals 3 = .int .i64 (l.getD 1 0) := hdep 3 (by simp) (by kernel_rfl)
      have eq5 : vals 5 = .int .i64 (256 * l.getD 4 0 + l.getD 5 0) := hdep 5 (by simp) (by kernel_rfl)
      have eq9 : vals 9 = .int .i64 (l.getD 8 0) := hdep 9 (by simp) (by kernel_rfl)
      have eq13 : vals 13 = .int .i64 (l.getD 9 0) := hdep 13 (by simp) (by kernel_rfl)
      have eq17 : vals 17 = .bool (((z / 16384) % 2) == 1) := hdep 17 (by simp) (by kernel_rfl)
      have eq21 : vals 21 = .bool (((z / 8192) % 2) == 1) := hdep 21 (by simp) (by kernel_rfl)
      have eq24 : vals 24 = .int .i64 ((z % 8192) * 8) := hdep 24 (by simp) (by kernel_rfl)
      refine st_build ([(0, 68, 3), (1, 70, 5), (2, 74, 9), (3, 78, 13), (4, 82, 17), (5, 86, 21), (6, 89, 24)].map fun q => (q.1, Operand.tmp q.2.1)) rfl ([(0, 68, 3), (1, 70, 5), (2, 74, 9), (3, 78, 13), (4, 82, 17), (5, 86, 21), (6, 89, 24)].map fun q => (q.1, vals q.2.2)) (map_fill [(0, 68, 3), (1, 70, 5), (2, 74, 9), (3, 78, 13), (4, 82, 17), (5, 86, 21), (6, 89, 24)] (by kernel_rfl)) (.agg #[.int .i64 (l.getD 1 0), .int .i64 (256 * l.getD 4 0 + l.getD 5 0), .int .i64 (l.getD 8 0), .int .i64 (l.getD 9 0), .bool ((z / 16384) % 2 == 1), .bool ((z / 8192) % 2 == 1), .int .i64 ((z % 8192) * 8), .string ⟨#[]⟩, .string ⟨#[]⟩, .string ⟨#[]⟩, .slice none 0 0]) ?_ (hK _ _ (Below.refl _ _) rfl)
      simp only [List.map, eq3, eq5, eq9, eq13, eq17, eq21, eq24]
      exact build4 _ _ _ _ _ _ _ _
    · exact st_alloc4 rfl (hK _ _ ((Below.refl _ _).alloc (Nat.le_refl _) _) ⟨_, rfl, hgr.size, Blk.new _ _ _⟩)
  · intro vals w' hgr hG
    obtain ⟨g, eg, hg1, hg2⟩ : ∃ g, vals 26 = .pointer (some ⟨g, 0, none⟩) ∧ w2.heap.size ≤ g ∧ Blk w' g 24 #[.int .i64 0, .int .i64 0, .int .i64 0, .int .i64 0, .bool false, .bool false, .int .i64 0, .string ⟨#[]⟩, .string ⟨#[]⟩, .string ⟨#[]⟩, .slice none 0 0] := hG 26 (by simp)
    refine st_store_row 24 (.tmp 7) (.tmp 90) rfl g _ ((at_dst 26 (by kernel_rfl)).trans eg) ((at_dst 25 (by kernel_rfl)).trans (hG 25 (by simp))) 24 _ hg2 (by kernel_rfl) rfl (one11 _ _ _ _ _ _ _ _ _ _ _ _ _) (wpAnyH_done (by kernel_rfl) ?_ _)
    have NB := Lib.hid (setRow_blk hg2 #[.int .i64 (l.getD 1 0), .int .i64 (256 * l.getD 4 0 + l.getD 5 0), .int .i64 (l.getD 8 0), .int .i64 (l.getD 9 0), .bool ((z / 16384) % 2 == 1), .bool ((z / 8192) % 2 == 1), .int .i64 ((z % 8192) * 8), .string ⟨#[]⟩, .string ⟨#[]⟩, .string ⟨#[]⟩, .slice none 0 0])
    have BW := Lib.hid (setRow_bel ((below_drewN (Below.refl w2.heap.size w2) 1).trans hgr) hg1 #[.int .i64 (l.getD 1 0), .int .i64 (256 * l.getD 4 0 + l.getD 5 0), .int .i64 (l.getD 8 0), .int .i64 (l.getD 9 0), .bool ((z / 16384) % 2 == 1), .bool ((z / 8192) % 2 == 1), .int .i64 ((z % 8192) * 8), .string ⟨#[]⟩, .string ⟨#[]⟩, .string ⟨#[]⟩, .slice none 0 0])
    clear hG hg2 hgr
    generalize w'.setRow g #[.int .i64 (l.getD 1 0), .int .i64 (256 * l.getD 4 0 + l.getD 5 0), .int .i64 (l.getD 8 0), .int .i64 (l.getD 9 0), .bool ((z / 16384) % 2 == 1), .bool ((z / 8192) % 2 == 1), .int .i64 ((z % 8192) * 8), .string ⟨#[]⟩, .string ⟨#[]⟩, .string ⟨#[]⟩, .slice none 0 0] = w3 at *
    simp only [fill, dstAt, List.getElem?_cons_zero, List.getElem?_cons_succ, Option.bind_some, Act.put, List.setIfInBounds_toArray, List.set_cons_zero, List.set_cons_succ]
    rw [eg]
    clear eg
    have B3 := Lib.hid (B2.out.trans (BW.out.mono B2.out.size))
    have R3 := Lib.hid (R2.out.below BW.out R2.out.lt)
    have wg : w.heap.size < g := by have := R2.out.lt; omega
    obtain ⟨a0, ha0⟩ : ∃ a, a = l.getD 1 0 := ⟨_, rfl⟩
    obtain ⟨a1, ha1⟩ : ∃ a, a = 256 * l.getD 4 0 + l.getD 5 0 := ⟨_, rfl⟩
    obtain ⟨a2, ha2⟩ : ∃ a, a = l.getD 8 0 := ⟨_, rfl⟩
    obtain ⟨a3, ha3⟩ : ∃ a, a = l.getD 9 0 := ⟨_, rfl⟩
    obtain ⟨a4, ha4⟩ : ∃ a, a = ((z / 16384) % 2 == 1) := ⟨_, rfl⟩
    obtain ⟨a5, ha5⟩ : ∃ a, a = ((z / 8192) % 2 == 1) := ⟨_, rfl⟩
    obtain ⟨a6, ha6⟩ : ∃ a, a = (z % 8192) * 8 := ⟨_, rfl⟩
    obtain ⟨s0, hs0⟩ : ∃ s, s = strOfNums ((l.drop 12).take 4) := ⟨_, rfl⟩
    obtain ⟨s1, hs1⟩ : ∃ s, s = strOfNums ((l.drop 16).take 4) := ⟨_, rfl⟩
    obtain ⟨s2, hs2⟩ : ∃ s, s = strOfNums ((l.drop 20).take (H - 20)) := ⟨_, rfl⟩
    have PK : Hid (pkOf l = ⟨a0, a1, a2, a3, a4, a5, a6, s0, s1, s2⟩) := Lib.hid (by
      unfold pkOf ppkt
      rw [HD.out, ← ZH.out, ha0, ha1, ha2, ha3, ha4, ha5, ha6, hs0, hs1, hs2, beq_dec, beq_dec])
    rw [← ha0, ← ha1, ← ha2, ← ha3, ← ha4, ← ha5, ← ha6] at NB
    generalize vals 0 = v0, vals 1 = v1, vals 2 = v2, vals 3 = v3, vals 4 = v4, vals 5 = v5, vals 6 = v6, vals 7 = v7, vals 8 = v8, vals 9 = v9, vals 10 = v10, vals 11 = v11, vals 12 = v12, vals 13 = v13, vals 14 = v14, vals 15 = v15, vals 16 = v16, vals 17 = v17, vals 18 = v18, vals 19 = v19, vals 20 = v20, vals 21 = v21, vals 22 = v22, vals 23 = v23, vals 24 = v24, vals 25 = v25, vals 26 = v26
    clear ha0 ha1 ha2 ha3 ha4 ha5 ha6 u1 u4 u5 u8 u9 HW BW R2 hg1 zb ZH Z6
    have HS0 := Lib.hid hs0
    have HS1 := Lib.hid hs1
    have HS2 := Lib.hid hs2
    clear hs0 hs1 hs2
    have sl12 : ∀ W, (Instr.sliceAt 22 (.slice (some ⟨b, p, none⟩) n c) (some (.int .i64 12)) (some (.int .i64 16)) none).run Tryd.prog W = .ok (.slice (some (adr b p c 12)) 4 (c - 12)) W := fun W => cutA_lh b p n c 12 16 W (by omega) (by omega)
    have sl16 : ∀ W, (Instr.sliceAt 22 (.slice (some ⟨b, p, none⟩) n c) (some (.int .i64 16)) (some (.int .i64 20)) none).run Tryd.prog W = .ok (.slice (some (adr b p c 16)) 4 (c - 16)) W := fun W => cutA_lh b p n c 16 20 W (by omega) (by omega)
    have sl20 : ∀ W, (Instr.sliceAt 22 (.slice (some ⟨b, p, none⟩) n c) (some (.int .i64 20)) (some (.int .i64 (H : Int))) none).run Tryd.prog W = .ok (.slice (some (adr b p c 20)) (H - 20) (c - 20)) W := fun W => cutA_lh b p n c 20 H W (by omega) (by omega)
    have slH : ∀ W, (Instr.sliceAt 22 (.slice (some ⟨b, p, none⟩) n c) (some (.int .i64 (H : Int))) none none).run Tryd.prog W = .ok (.slice (some (adr b p c H)) (n - H) (c - H)) W := fun W => cutA_l b p n c H W (by omega) (by omega)
    have v12 : (convert 22 9 (.slice (some (adr b p c 12)) 4 (c - 12))).run Tryd.prog w3 = .ok (.string s0) w3 := by
      have := run_string_bytes (cutA_holds (lo := 12) (hi := 16) (H0.out.below (B3.out.mono hB)) (by omega) (by omega))
      rwa [← HS0.out] at this
    have f7 := NB.out.frozen 7
    have k7 := NB.out.cell 7
    have NB4 := Lib.hid (NB.out.put 7 (.string s0))
    have B4 := Lib.hid (B3.out.setCell (p := ⟨g, 7, none⟩) (by show w.heap.size ≤ g; omega) (.string s0))
    have R4 := Lib.hid (R3.out.far (p := ⟨g, 7, none⟩) (by show w.heap.size ≠ g; omega) (.string s0))
    have v16 : (convert 22 9 (.slice (some (adr b p c 16)) 4 (c - 16))).run Tryd.prog (w3.setCell ⟨g, 7, none⟩ (.string s0)) = .ok (.string s1) (w3.setCell ⟨g, 7, none⟩ (.string s0)) := by
      have := run_string_bytes (cutA_holds (lo := 16) (hi := 20) (H0.out.below (B4.out.mono hB)) (by omega) (by omega))
      rwa [← HS1.out] at this
    have f8 := NB4.out.frozen 8
    have k8 := NB4.out.cell 8
    have NB5 := Lib.hid (NB4.out.put 8 (.string s1))
    have B5 := Lib.hid (B4.out.setCell (p := ⟨g, 8, none⟩) (by show w.heap.size ≤ g; omega) (.string s1))
    have R5 := Lib.hid (R4.out.far (p := ⟨g, 8, none⟩) (by show w.heap.size ≠ g; omega) (.string s1))
    have v20 : (convert 22 9 (.slice (some (adr b p c 20)) (H - 20) (c - 20))).run Tryd.prog ((w3.setCell ⟨g, 7, none⟩ (.string s0)).setCell ⟨g, 8, none⟩ (.string s1)) = .ok (.string s2) ((w3.setCell ⟨g, 7, none⟩ (.string s0)).setCell ⟨g, 8, none⟩ (.string s1)) := by
      have := run_string_bytes (cutA_holds (lo := 20) (hi := H) (H0.out.below (B5.out.mono hB)) (by omega) (by omega))
      rwa [← HS2.out] at this
    have f9 := NB5.out.frozen 9
    have k9 := NB5.out.cell 9
    have NB6 := Lib.hid (NB5.out.put 9 (.string s2))
    have B6 := Lib.hid (B5.out.setCell (p := ⟨g, 9, none⟩) (by show w.heap.size ≤ g; omega) (.string s2))
    have R6 := Lib.hid (R5.out.far (p := ⟨g, 9, none⟩) (by show w.heap.size ≠ g; omega) (.string s2))
    have NB6' : Hid (Blk (((w3.setCell ⟨g, 7, none⟩ (.string s0)).setCell ⟨g, 8, none⟩ (.string s1)).setCell ⟨g, 9, none⟩ (.string s2)) g 24 #[.int .i64 a0, .int .i64 a1, .int .i64 a2, .int .i64 a3, .bool a4, .bool a5, .int .i64 a6, .string s0, .string s1, .string s2, .slice none 0 0]) := NB6
    have hz6 : (((w3.setCell ⟨g, 7, none⟩ (.string s0)).setCell ⟨g, 8, none⟩ (.string s1)).setCell ⟨g, 9, none⟩ (.string s2)).heap.size = w3.heap.size := by simp
    go_wp2_with fail
    generalize (((w3.setCell ⟨g, 7, none⟩ (.string s0)).setCell ⟨g, 8, none⟩ (.string s1)).setCell ⟨g, 9, none⟩ (.string s2)) = w6 at *
    clear v12 v16 v20 sl12 sl16 sl20 slH f7 f8 f9 k7 k8 k9 NB NB4 NB5 NB6 B3 B4 B5 R3 R4 R5
    refine (Both.both_lit (B := w6.heap.size) (Nat.le_refl _) [⟨some (adr b p c H), n - H, c - H, l.drop H⟩] _ _ rfl (Both.mem1 ((cutA_rest (lo := H) (H0.out.below (B6.out.mono hB)) Hn).more (Nat.le_trans hB B6.out.size))) _ 1 hz6 rfl (by decide) (by show n - H + 0 ≤ 1048576; omega)).mono ?_
    rintro e w7 ⟨A7, c7, rfl, _, o7, hb⟩
    have e1 : Both.flat [⟨some (adr b p c H), n - H, c - H, l.drop H⟩] = l.drop H := by simp [Both.flat]
    have e0 : Both.total [⟨some (adr b p c H), n - H, c - H, l.drop H⟩] = n - H := rfl
    rw [e1, e0] at o7
    rw [e0]
    have hs6 := B6.out.size
    have B7 := Lib.hid (B6.out.trans (hb.mono B6.out.size))
    have R7 := Lib.hid (R6.out.below hb R6.out.lt)
    have NB7 := Lib.hid (NB6'.out.below hb NB6'.out.lt)
    have O7 := Lib.hid o7
    have g6 := NB6'.out.lt
    clear hb o7 e1 e0 NB6' B6 R6
    have f10 := NB7.out.frozen 10
    have k10 := NB7.out.cell 10
    have NB8 : Hid (Blk (w7.setCell ⟨g, 10, none⟩ (.slice A7 (n - H) c7)) g 24 #[.int .i64 a0, .int .i64 a1, .int .i64 a2, .int .i64 a3, .bool a4, .bool a5, .int .i64 a6, .string s0, .string s1, .string s2, .slice A7 (n - H) c7]) := Lib.hid (NB7.out.put 10 _)
    have B8 := Lib.hid (B7.out.setCell (p := ⟨g, 10, none⟩) (by show w.heap.size ≤ g; omega) (.slice A7 (n - H) c7))
    have R8 := Lib.hid (R7.out.far (p := ⟨g, 10, none⟩) (by show w.heap.size ≠ g; omega) (.slice A7 (n - H) c7))
    have O8 := Lib.hid (owns_setCell O7.out (owns_far O7.out g6) 10 (.slice A7 (n - H) c7))
    have hs7 := B7.out.size
    clear NB7 B7 R7 O7
    go_wp2_with (first
      | (refine Loads.wpList_load_w rfl 24 (.tmp 7) rfl g rfl 24 #[.int .i64 a0, .int .i64 a1, .int .i64 a2, .int .i64 a3, .bool a4, .bool a5, .int .i64 a6, .string s0, .string s1, .string s2, .slice A7 (n - H) c7] (0, 0) _ NB8.out (Tryd.underlying24) rfl (by kernel_rfl) ?_)
      | (refine wpList_store_row rfl 24 (.tmp 2) (.tmp 110) rfl w.heap.size #[.int .i64 a0, .int .i64 a1, .int .i64 a2, .int .i64 a3, .bool a4, .bool a5, .int .i64 a6, .string s0, .string s1, .string s2, .slice A7 (n - H) c7] rfl rfl 24 _ R8.out (by kernel_rfl) rfl (one11 _ _ _ _ _ _ _ _ _ _ _ _ _) ?_))
    have hne : w6.heap.size ≠ w.heap.size := by have := R8.out.lt; omega
    refine bodyPost_ret (results_pair rfl _ _ w.heap.size 24 _ (0, 0) _ _ rfl rfl (setRow_heap _ _ _ _ _ _ R8.out) Tryd.underlying24 rfl (by kernel_rfl)) rfl ⟨.inl ⟨PE.out, A7, c7, ?_, ?_⟩, setRow_bel B8.out (Nat.le_refl _) _⟩
    · rw [HD.out, PK.out, LN.out]; rfl
    · rw [HD.out, LN.out]
      exact (owns_setRow O8.out (owns_far O8.out (k := w.heap.size) (by omega)) _).mono (by omega)

theorem pref_any (A : Option Addr) (n c : Nat) (l : List Int) (w : World) (B : Nat) (hB : B ≤ w.heap.size) (h : Holds w B A n c l) (hn : n ≤ 65536) : Calls Tryd.prog 17 #[.slice A n c] w (Gives w l) := by
  by_cases h20 : n < 20
  · exact pref_short A n c l w B h hB h20
  · obtain ⟨b, p, rfl, _⟩ := h.2.2.2.2 (by omega)
    by_cases he : perr l = 0
    · exact pref_ok b p n c l w B h hB hn (by omega) he
    · exact pref_bad b p n c l w B h hB hn (by omega) he
end Go.Proofs.YtjhfginopbjldaaDoor.ParseRef

/- Plain facts: the options of a text from a place on. -/
set_option linter.unusedVariables false
namespace Go.Proofs.YtjhfginopbjldaaDoor.OptAt
open Go.RowKit Go.PlainAid Go.Proofs.YtjhfginopbjldaaDoor.Opts

theorem ex_size (s : ByteArray) (k : Nat) : (s.extract k s.size).size = s.size - k := by rw [ByteArray.size_extract]; omega
theorem ex_get (s : ByteArray) (k i : Nat) (h : i < (s.extract k s.size).size) : (((s.extract k s.size)[i]'h).toNat : Int) = bt s (k + i) := by
  rw [← get_bt s (k + i) (by rw [ex_size] at h; omega)]
  congr 2
  exact ByteArray.getElem_extract _
theorem ex_ex (s : ByteArray) (k a : Nat) : (s.extract k s.size).extract a (s.extract k s.size).size = s.extract (k + a) s.size := by
  rw [ByteArray.extract_extract, ex_size]
  congr 1
  omega
theorem ex_mid (s : ByteArray) (k m : Nat) (h : k + m ≤ s.size) : (s.extract k s.size).extract 2 m = s.extract (k + 2) (k + m) := by
  rw [ByteArray.extract_extract]
  congr 1
  omega
theorem at_end (s : ByteArray) (k : Nat) (h : s.size ≤ k) : optsS (s.extract k s.size) = some [] := by
  rw [optsS, dif_neg (by rw [ex_size]; omega)]
theorem at_zero (s : ByteArray) (k : Nat) (h : k < s.size) (h0 : bt s k = 0) : optsS (s.extract k s.size) = some [] := by
  have hp : 0 < (s.extract k s.size).size := by rw [ex_size]; omega
  have e := ex_get s k 0 hp
  rw [Nat.add_zero, h0] at e
  rw [optsS, dif_pos hp, if_pos (by omega)]
theorem at_nop (s : ByteArray) (k : Nat) (h : k < s.size) (h0 : bt s k = 1) : optsS (s.extract k s.size) = (optsS (s.extract (k + 1) s.size)).map (((1 : Int), (⟨#[]⟩ : ByteArray)) :: ·) := by
  have hp : 0 < (s.extract k s.size).size := by rw [ex_size]; omega
  have e := ex_get s k 0 hp
  rw [Nat.add_zero, h0] at e
  rw [optsS, dif_pos hp, if_neg (by omega), if_pos (by omega), ex_ex]
theorem at_bad (s : ByteArray) (k : Nat) (h : k < s.size) (h0 : bt s k ≠ 0) (h1 : bt s k ≠ 1) (hb : s.size ≤ k + 1 ∨ bt s (k + 1) < 2 ∨ (s.size : Int) < k + bt s (k + 1)) : optsS (s.extract k s.size) = none := by
  have hp : 0 < (s.extract k s.size).size := by rw [ex_size]; omega
  have e := ex_get s k 0 hp
  rw [Nat.add_zero] at e
  rw [optsS, dif_pos hp, if_neg (by omega), if_neg (by omega)]
  by_cases h2 : 1 < (s.extract k s.size).size
  · have e2 := ex_get s k 1 h2
    have z := ex_size s k
    rw [dif_pos h2, if_pos (by omega)]
  · rw [dif_neg h2]
theorem at_go (s : ByteArray) (k n : Nat) (h : k + 1 < s.size) (h0 : bt s k ≠ 0) (h1 : bt s k ≠ 1) (hn : bt s (k + 1) = (n : Int)) (h2 : 2 ≤ n) (h3 : k + n ≤ s.size) :
    optsS (s.extract k s.size) = (optsS (s.extract (k + n) s.size)).map ((bt s k, s.extract (k + 2) (k + n)) :: ·) := by
  have hp : 0 < (s.extract k s.size).size := by rw [ex_size]; omega
  have hq : 1 < (s.extract k s.size).size := by rw [ex_size]; omega
  have e := ex_get s k 0 hp
  have e2 := ex_get s k 1 hq
  have z := ex_size s k
  rw [Nat.add_zero] at e
  rw [hn] at e2
  have e3 : ((s.extract k s.size)[1]'hq).toNat = n := by omega
  rw [optsS, dif_pos hp, if_neg (by omega), if_neg (by omega), dif_pos hq, if_neg (by omega), e, e3, ex_ex, ex_mid s k n h3]
theorem at_start (s : ByteArray) : s.extract 0 s.size = s := by
  rw [ByteArray.extract_zero_size]
end Go.Proofs.YtjhfginopbjldaaDoor.OptAt

/- The contract of the document's Options: any text. -/
set_option linter.unusedVariables false
namespace Go.Proofs.YtjhfginopbjldaaDoor.OptRef
open Go.RowKit Go.PlainAid Go.Proofs.YtjhfginopbjldaaDoor.Sums Go.Proofs.YtjhfginopbjldaaDoor.Mem Go.Proofs.YtjhfginopbjldaaDoor.Blk Go.Proofs.YtjhfginopbjldaaDoor.Opts Go.Proofs.YtjhfginopbjldaaDoor.OptAt Go.Proofs.YtjhfginopbjldaaDoor.Free Go.Proofs.YtjhfginopbjldaaDoor.Steps
open Go.Proofs.YtjhfginopbjldaaDoor.Regs (conv_int b_add)

theorem run_indexS (s : ByteArray) (k : Nat) (h : k < s.size) (w : World) : (Instr.index 9 (.string s) (.int .i64 (k : Int))).run Tryd.prog w = .ok (.int .u8 (bt s k)) w := by
  have e := get_bt s k h
  rw [run_index_string (P := Tryd.prog) w 9 s .i64 (k : Int) Tryd.underlying9, dif_pos (by omega)]
  simp only [Int.toNat_natCast]
  rw [e]
theorem st_index {o : Oper} {a : Act} {w : World} {K : Act → World → Prop} {Q : Exit → Act → World → Prop} (x y : Operand) (ho : o.op = .index 9 x y) (s : ByteArray) (k : Nat) (h : k < s.size) (hx : a.eval x = .string s) (hy : a.eval y = .int .i64 (k : Int)) (hK : K (a.put o.dst (.int .u8 (bt s k))) w) : Step Tryd.prog o a w K Q := by
  refine wp_value _ ?_ hK
  simp [execOp, ho, hx, hy, run_indexS s k h w, Result.andThen]
theorem run_sliceS (s : ByteArray) (i j : Nat) (h1 : i ≤ j) (h2 : j ≤ s.size) (w : World) : (Instr.sliceAt 9 (.string s) (some (.int .i64 (i : Int))) (some (.int .i64 (j : Int))) none).run Tryd.prog w = .ok (.string (s.extract i j)) w := by
  have := run_slice_string (P := Tryd.prog) w 9 s .i64 .i64 (i : Int) (j : Int) Tryd.underlying9 (by omega) (by omega) (by omega)
  simpa [Instr.sliceAt] using this
theorem own_below {w w' : World} {base n : Nat} {v : Value} {xs : List Value} (h : w.ownsRow base 45 2 v n xs) (hb : Below w.heap.size w w') : w'.ownsRow base 45 2 v n xs :=
  h.kept (row := none) ⟨hb.os, hb.tape, hb.output, hb.size, fun k hk _ => hb.block k hk⟩ (by cases hv : v.ownBlock <;> simp)
theorem buildX (k : Int) (d : ByteArray) (w : World) : (Instr.build 45 #[(0, .int .i64 k), (1, .string d)]).run Tryd.prog w = .ok (.agg #[.int .i64 k, .string d]) w := by kernel_rfl
theorem run_sliceX (w : World) (k : Int) (d : ByteArray) : (Instr.buildSlice 36 1 #[(0, .agg #[.int .i64 k, .string d])]).run Tryd.prog w = .ok (.slice (some ⟨w.heap.size, 0, none⟩) 1 1) (w.alloc (.cells #[.int .i64 k, .string d] 45)) := by
  kernel_rfl
theorem st_sliceX {o : Oper} {a : Act} {w : World} {K : Act → World → Prop} {Q : Exit → Act → World → Prop} (x : Operand) (ho : o.op = .buildSlice 36 1 #[(0, x)]) (k : Int) (d : ByteArray) (hx : a.eval x = .agg #[.int .i64 k, .string d])
    (hK : K (a.put o.dst (.slice (some ⟨w.heap.size, 0, none⟩) 1 1)) (w.alloc (.cells #[.int .i64 k, .string d] 45))) : Step Tryd.prog o a w K Q := by
  constructor
  have hr : (execOp a.eval o).run Tryd.prog w = .ok (.value (.slice (some ⟨w.heap.size, 0, none⟩) 1 1)) (w.alloc (.cells #[.int .i64 k, .string d] 45)) := by
    simp [execOp, ho, hx, run_sliceX w, Result.andThen]
  unfold Oper.wp
  rw [hr]
  exact hK
theorem st_append_pair {o : Oper} {a : Act} {w : World} {K : Act → World → Prop} {Q : Exit → Act → World → Prop} (s x : Operand)
    (ho : o.op = .call { callee := .builtin .append, args := #[s, x], argTypes := #[36, 36] })
    (base : Nat) (v : Value) (n : Nat) (xs : List Value) (hs : a.eval s = v) (hown : w.ownsRow base 45 2 v n xs) (g : Nat) (k : Int) (d : ByteArray) (hx : a.eval x = .slice (some ⟨g, 0, none⟩) 1 1) (hg : Blk w g 45 #[.int .i64 k, .string d])
    (hn : n + 1 ≤ 1048576) (hbase : base ≤ w.heap.size)
    (hK : ∀ v' w', w'.ownsRow base 45 2 v' (n + 1) (xs ++ [.int .i64 k, .string d]) → w.grownBy w' v.ownBlock → K (a.put o.dst v') w') : Step Tryd.prog o a w K Q := by
  constructor
  obtain ⟨i, hi, hz, hsz, hb⟩ := info_parts ext_info
  obtain ⟨v', w', hr, h2, h3, h4, h5⟩ := run_append_own_at (P := Tryd.prog) w base 36 o.type 45 i (.agg #[.int .i64 0, .string ⟨#[]⟩]) 2 24 Tryd.underlying36 hi hz hsz hb (by kernel_rfl) (by decide) v n xs hown ⟨g, 0, none⟩ 1 1 [.int .i64 k, .string d] rfl
    (by
      intro j y hj
      match j, hj with
      | 0, hj =>
        simp at hj
        subst hj
        simpa [Addr.add] using hg.cell 0
      | 1, hj =>
        simp at hj
        subst hj
        simpa [Addr.add] using hg.cell 1)
    (by
      intro y hy
      simp at hy
      rcases hy with rfl | rfl <;> rfl) (by simp only [maxLen]; omega) (by omega) hbase
  unfold Oper.wp execOp
  simp only [ho, resolve, invoke, builtin, Sem.run_bind, Sem.run_pure, Result.andThen_ok, List.map_toArray, List.map_cons, List.map_nil, hs, hx, hr]
  exact hK _ _ h2 h3

set_option maxHeartbeats 2000000 in
set_option maxRecDepth 100000 in
theorem options_ref (s : ByteArray) (w : World) (hs : s.size ≤ 10000) : Calls Tryd.prog 19 #[.string s] w (Gives w s) := by
  obtain ⟨i, hi, hz, hsz, hby⟩ := info_parts ext_info
  have hgb := get_bt s
  have b0 := Lib.hid (bt_nonneg s)
  have b1 := Lib.hid (bt_le s)
  go_enter Tryd.func19, Tryd.ntmps19
  go_wp2_with fail
  go_loopw [4, 5] (fun o i wr => ∃ (k : Nat) (xs : List (Int × ByteArray)) (v : Value), i = .int .i64 (k : Int) ∧ o = v ∧ k ≤ s.size ∧ xs.length ≤ k ∧ Hid (wr.ownsRow w.heap.size 45 2 v xs.length (cells xs)) ∧ Hid (Below w.heap.size w wr) ∧ Hid ((optsS (s.extract k s.size)).map (xs ++ ·) = optsS s)) (fun _ i _ => s.size - (intOf i).toNat)
  case atStart => exact ⟨0, [], _, rfl, rfl, by omega, by simp, Lib.hid (World.ownsRow_nil _ _ _ _), Lib.hid (Below.refl _ _), Lib.hid (by rw [at_start]; simp)⟩
  case round =>
    obtain ⟨k, xs, ov, rfl, hv, hk, hlen, HO, HB, HT⟩ := hrel
    replace hv := hv.symm
    subst hv
    have hbs := HB.out.size
    by_cases hlt : k < s.size
    case neg =>
      have fin : optsS s = some xs := by rw [← HT.out, at_end s k (by omega)]; simp
      have FN := Lib.hid fin
      clear fin
      go_wp2_with fail
      go_ret2
      exact ⟨.inl ⟨xs, ov, FN.out, rfl, HO.out⟩, HB.out⟩
    have x0 := b0.out k
    have x1 := b1.out k
    by_cases z0 : bt s k = 0
    · have fin : optsS s = some xs := by rw [← HT.out, at_zero s k hlt z0]; simp
      have FN := Lib.hid fin
      have z0' : (bt s k != 0) = false := by rw [z0]; rfl
      clear fin
      go_wp2_with fail
      go_ret2
      exact ⟨.inl ⟨xs, ov, FN.out, rfl, HO.out⟩, HB.out⟩
    have z0' : (bt s k != 0) = true := by rw [bne_iff_ne]; exact z0
    by_cases z1 : bt s k = 1
    · have NX : Hid ((optsS (s.extract (k + 1) s.size)).map ((xs ++ [((1 : Int), (⟨#[]⟩ : ByteArray))]) ++ ·) = optsS s) := Lib.hid (by
        rw [← HT.out, at_nop s k hlt z1, Option.map_map]
        congr 1
        funext y
        simp)
      have z1' : (bt s k == 1) = true := by rw [z1]; rfl
      have e0 : IntKind.i64.wrap ((k : Int) + 1) = (k : Int) + 1 := IntWalk.i64_in _ (by omega)
      clear z0 z1 HT
      go_wp2_with (at_builtin
                   refine wpList_pair rfl (.tmp 21) (.tmp 23) 36 45 rfl w.heap.size (.agg #[.int .i64 0, .string ⟨#[]⟩]) (.int .i64 1) (.string ⟨#[]⟩) 24 Tryd.underlying36 ext_info rfl (by decide) _ xs.length (cells xs) rfl HO.out wr.heap.size rfl rfl rfl rfl (by omega) hbs ?_
                   intro v2 w2 ho2 hg2)
      have HB2 := Lib.hid ((HB.out.alloc hbs (.cells #[.int .i64 1, .string ⟨#[]⟩] 45)).grown hg2 (by simp; omega) fun g hg => (HO.out.lt g hg).1)
      have HO2 : Hid (w2.ownsRow w.heap.size 45 2 v2 (xs ++ [((1 : Int), (⟨#[]⟩ : ByteArray))]).length (cells (xs ++ [((1 : Int), (⟨#[]⟩ : ByteArray))]))) := Lib.hid (by
        rw [cells_append, List.length_append]
        exact ho2)
      go_roundw
      case rel => exact ⟨k + 1, _, v2, by go_num, rfl, by omega, by simp only [List.length_append, List.length_singleton]; omega, HO2, HB2, NX⟩
      case measure => simp [intOf]; omega
    have z1' : (bt s k == 1) = false := by rw [beq_eq_false_iff_ne]; exact z1
    obtain ⟨k1, hk1⟩ : ∃ k1, k1 = k + 1 := ⟨_, rfl⟩
    have e0 : IntKind.i64.wrap ((k : Int) + 1) = (k1 : Int) := by rw [IntWalk.i64_in _ (by omega)]; omega
    have K1 := Lib.hid hk1
    by_cases q1 : s.size ≤ k1
    · have NO := Lib.hid (show optsS s = none by rw [← HT.out, at_bad s k hlt z0 z1 (.inl (by omega))]; rfl)
      have q1' : (s.size ≤ k1) = True := eq_true q1
      clear hk1 z0 z1 HT
      go_wp2_with fail
      go_ret2
      exact ⟨.inr ⟨NO.out, rfl⟩, HB.out⟩
    have q1' : (s.size ≤ k1) = False := eq_false q1
    have hlt1 : k1 < s.size := by omega
    have y0 := b0.out k1
    have y1 := b1.out k1
    by_cases q2 : bt s k1 < 2
    · have NO := Lib.hid (show optsS s = none by rw [← HT.out, at_bad s k hlt z0 z1 (.inr (.inl (by rw [← hk1]; exact q2)))]; rfl)
      clear hk1 z0 z1 HT
      go_wp2_with fail
      go_ret2
      exact ⟨.inr ⟨NO.out, rfl⟩, HB.out⟩
    have q2' : (bt s k1 < 2) = False := eq_false q2
    obtain ⟨n, hn⟩ : ∃ n : Nat, bt s k1 = (n : Int) := ⟨(bt s k1).toNat, by omega⟩
    obtain ⟨kn, hkn⟩ : ∃ kn, kn = k + n := ⟨_, rfl⟩
    have KN : Hid ((k : Int) + (n : Int) = (kn : Int)) := Lib.hid (by omega)
    have e3 : IntKind.i64.wrap (bt s k1) = (n : Int) := by rw [hn]; exact IntWalk.i64_in _ (by omega)
    have e4 : IntKind.i64.wrap ((k : Int) + (n : Int)) = (kn : Int) := by rw [KN.out]; exact IntWalk.i64_in _ (by omega)
    by_cases q3 : s.size < kn
    · have NO := Lib.hid (show optsS s = none by rw [← HT.out, at_bad s k hlt z0 z1 (.inr (.inr (by rw [← hk1, hn]; omega)))]; rfl)
      have q3' : (s.size < kn) = True := eq_true q3
      clear hk1 hn hkn z0 z1 HT q1 q2 q3
      go_wp2_with fail
      go_ret2
      exact ⟨.inr ⟨NO.out, rfl⟩, HB.out⟩
    have q3' : (s.size < kn) = False := eq_false q3
    have NX : Hid ((optsS (s.extract kn s.size)).map ((xs ++ [(bt s k, s.extract (k + 2) kn)]) ++ ·) = optsS s) := Lib.hid (by
      rw [← HT.out, at_go s k n (by omega) z0 z1 (by rw [← hk1]; exact hn) (by omega) (by omega), Option.map_map, ← hkn]
      congr 1
      funext y
      simp)
    obtain ⟨k2, hk2⟩ : ∃ k2, k2 = k + 2 := ⟨_, rfl⟩
    have K2 : Hid ((k : Int) + 2 = (k2 : Int)) := Lib.hid (by omega)
    rw [← hk2] at NX
    have k2n : k2 ≤ kn := by omega
    have kns : kn ≤ s.size := by omega
    have kkn : k < kn := by omega
    have xlen : xs.length + 1 ≤ kn := by omega
    have n255 : n ≤ 255 := by omega
    clear hk1 hn hkn hk2 z0 z1 HT q1 q2 q3
    go_wp2_with fail
    refine wp_region_free [0, 1, 2, 3, 4, 5, 6, 7, 8, 9, 10, 11, 12, 13] 14 [15] (fun w1 w2 => Below w1.heap.size w1 w2) (fun k' w' v => match k' with
      | 0 => v = ov
      | 1 => v = .string s
      | 2 => v = .int .i64 ((k : Int))
      | 3 => v = .int .u8 (bt s k)
      | 4 => v = .int .i64 (bt s k)
      | 5 => v = .string s
      | 6 => v = .int .i64 ((k : Int))
      | 7 => v = .int .i64 ((k2 : Int))
      | 8 => v = .int .i64 ((k : Int))
      | 9 => v = .int .i64 ((n : Int))
      | 10 => v = .int .i64 ((kn : Int))
      | 11 => v = .string (s.extract k2 kn)
      | 12 => v = .agg #[.int .i64 (bt s k), .string (s.extract k2 kn)]
      | _ => ∃ B', v = .slice (some ⟨B', 0, none⟩) 1 1 ∧ wr.heap.size ≤ B' ∧ Blk w' B' 45 #[.int .i64 (bt s k), .string (s.extract k2 kn)]) (by kernel_rfl) (by kernel_rfl) (Below.refl _ _) (fun _ _ _ h k => h.trans (k.mono h.size)) (fun k' w1 w2 v h => match k' with
      | 0 => fun x => x
      | 1 => fun x => x
      | 2 => fun x => x
      | 3 => fun x => x
      | 4 => fun x => x
      | 5 => fun x => x
      | 6 => fun x => x
      | 7 => fun x => x
      | 8 => fun x => x
      | 9 => fun x => x
      | 10 => fun x => x
      | 11 => fun x => x
      | 12 => fun x => x
      | _ + 13 => fun ⟨B', e, h1, h2⟩ => ⟨B', e, h1, h2.below h h2.lt⟩) (fun _ _ _ _ _ h => h) ?_ _ (by rfl) ?_
    · refine obs_cons (by rfl) (fun vals w' hgr hdep K hK => ?_) (obs_cons (by rfl) (fun vals w' hgr hdep K hK => ?_) (obs_cons (by rfl) (fun vals w' hgr hdep K hK => ?_) (obs_cons (by rfl) (fun vals w' hgr hdep K hK => ?_) (obs_cons (by rfl) (fun vals w' hgr hdep K hK => ?_) (obs_cons (by rfl) (fun vals w' hgr hdep K hK => ?_) (obs_cons (by rfl) (fun vals w' hgr hdep K hK => ?_) (obs_cons (by rfl) (fun vals w' hgr hdep K hK => ?_) (obs_cons (by rfl) (fun vals w' hgr hdep K hK => ?_) (obs_cons (by rfl) (fun vals w' hgr hdep K hK => ?_) (obs_cons (by rfl) (fun vals w' hgr hdep K hK => ?_) (obs_cons (by rfl) (fun vals w' hgr hdep K hK => ?_) (obs_cons (by rfl) (fun vals w' hgr hdep K hK => ?_) (obs_cons (by rfl) (fun vals w' hgr hdep K hK => ?_) (obs_nil))))))))))))))
      · exact wp_move (.tmp 4) rfl _ (at_out _ (by kernel_rfl) rfl) (hK _ _ (Below.refl _ _) rfl)
      · exact wp_move (.tmp 0) rfl _ (at_out _ (by kernel_rfl) rfl) (hK _ _ (Below.refl _ _) rfl)
      · exact wp_move (.tmp 5) rfl _ (at_out _ (by kernel_rfl) rfl) (hK _ _ (Below.refl _ _) rfl)
      · exact st_index (.tmp 57) (.tmp 58) rfl s k hlt ((at_dst 1 (by kernel_rfl)).trans (hdep 1 (by simp) (by kernel_rfl))) ((at_dst 2 (by kernel_rfl)).trans (hdep 2 (by simp) (by kernel_rfl))) (hK _ _ (Below.refl _ _) rfl)
      · exact wp_conv (.tmp 59) rfl _ _ ((at_dst 3 (by kernel_rfl)).trans (hdep 3 (by simp) (by kernel_rfl))) (conv_int _ _ x0 x1) (hK _ _ (Below.refl _ _) rfl)
      · exact wp_move (.tmp 0) rfl _ (at_out _ (by kernel_rfl) rfl) (hK _ _ (Below.refl _ _) rfl)
      · exact wp_move (.tmp 5) rfl _ (at_out _ (by kernel_rfl) rfl) (hK _ _ (Below.refl _ _) rfl)
      · exact wp_bin (.tmp 62) (.const (.int .i64 2)) rfl _ _ (.int .i64 (k2 : Int)) ((at_dst 6 (by kernel_rfl)).trans (hdep 6 (by simp) (by kernel_rfl))) rfl (by have := b_add (k : Int) 2 (.tmp 62) (.const (.int .i64 2)) w' (by omega) (by omega); rwa [K2.out] at this) (hK _ _ (Below.refl _ _) rfl)
      · exact wp_move (.tmp 5) rfl _ (at_out _ (by kernel_rfl) rfl) (hK _ _ (Below.refl _ _) rfl)
      · exact wp_move (.tmp 6) rfl _ (at_out _ (by kernel_rfl) rfl) (hK _ _ (Below.refl _ _) rfl)
      · exact wp_bin (.tmp 64) (.tmp 65) rfl _ _ (.int .i64 (kn : Int)) ((at_dst 8 (by kernel_rfl)).trans (hdep 8 (by simp) (by kernel_rfl))) ((at_dst 9 (by kernel_rfl)).trans (hdep 9 (by simp) (by kernel_rfl))) (by have := b_add (k : Int) (n : Int) (.tmp 64) (.tmp 65) w' (by omega) (by omega); rwa [KN.out] at this) (hK _ _ (Below.refl _ _) rfl)
      · exact wp_slice (.tmp 61) rfl _ _ (some (.int .i64 (k2 : Int))) (some (.int .i64 (kn : Int))) none ((at_dst 5 (by kernel_rfl)).trans (hdep 5 (by simp) (by kernel_rfl))) (congrArg some ((at_dst 7 (by kernel_rfl)).trans (hdep 7 (by simp) (by kernel_rfl)))) (congrArg some ((at_dst 10 (by kernel_rfl)).trans (hdep 10 (by simp) (by kernel_rfl)))) rfl (run_sliceS s k2 kn (by omega) (by omega) _) (hK _ _ (Below.refl _ _) rfl)
      · have eq4 : vals 4 = .int .i64 (bt s k) := hdep 4 (by simp) (by kernel_rfl)
        have eq11 : vals 11 = .string (s.extract k2 kn) := hdep 11 (by simp) (by kernel_rfl)
        refine st_build ([(0, 60, 4), (1, 67, 11)].map fun q => (q.1, Operand.tmp q.2.1)) rfl ([(0, 60, 4), (1, 67, 11)].map fun q => (q.1, vals q.2.2)) (map_fill [(0, 60, 4), (1, 67, 11)] (by kernel_rfl)) (.agg #[.int .i64 (bt s k), .string (s.extract k2 kn)]) ?_ (hK _ _ (Below.refl _ _) rfl)
        simp only [List.map, eq4, eq11]
        exact buildX _ _ _
      · exact st_sliceX (.tmp 68) rfl _ _ ((at_dst 12 (by kernel_rfl)).trans (hdep 12 (by simp) (by kernel_rfl))) (hK _ _ ((Below.refl _ _).alloc (Nat.le_refl _) _) ⟨_, rfl, hgr.size, Blk.new _ _ _⟩)
    · intro vals w' hgr hG
      obtain ⟨B', eB, hB1, hB2⟩ : ∃ B', vals 13 = .slice (some ⟨B', 0, none⟩) 1 1 ∧ wr.heap.size ≤ B' ∧ Blk w' B' 45 #[.int .i64 (bt s k), .string (s.extract k2 kn)] := hG 13 (by simp)
      have bel : Below wr.heap.size wr w' := (below_drewN (Below.refl wr.heap.size wr) 1).trans hgr
      have OW := own_below HO.out bel
      refine st_append_pair (.tmp 56) (.tmp 69) rfl w.heap.size ov xs.length (cells xs) ((at_dst 0 (by kernel_rfl)).trans (hG 0 (by simp))) OW B' (bt s k) (s.extract k2 kn) ((at_dst 13 (by kernel_rfl)).trans eB) hB2 (by omega) (by have := bel.size; omega) (fun v2 w2 ho2 hg2 => ?_)
      refine wpAnyH_next 15 _ rfl rfl (by kernel_rfl) (st_assign (.tmp 70) _ rfl (put_tmps_eq (fill_size _ _ _) (by kernel_rfl)) ⟨trivial, wpAnyH_done (by kernel_rfl) ?_ _⟩)
      have HB2 := Lib.hid ((HB.out.trans (bel.mono hbs)).grown hg2 (by have := bel.size; omega) fun g hg => (OW.lt g hg).1)
      have HO2 : Hid (w2.ownsRow w.heap.size 45 2 v2 (xs ++ [(bt s k, s.extract k2 kn)]).length (cells (xs ++ [(bt s k, s.extract k2 kn)]))) := Lib.hid (by
        rw [cells_append, List.length_append]
        exact ho2)
      clear hG hB2 eB OW hgr bel ho2 hg2 HO HB
      simp only [fill, dstAt, List.getElem?_cons_zero, List.getElem?_cons_succ, Option.bind_some, Act.put, List.setIfInBounds_toArray, List.set_cons_zero, List.set_cons_succ]
      generalize vals 0 = y0, vals 1 = y1, vals 2 = y2, vals 3 = y3, vals 4 = y4, vals 5 = y5, vals 6 = y6, vals 7 = y7, vals 8 = y8, vals 9 = y9, vals 10 = y10, vals 11 = y11, vals 12 = y12, vals 13 = y13
      have e5 : IntKind.i64.wrap ((k : Int) + (n : Int)) = (kn : Int) := by rw [KN.out]; exact IntWalk.i64_in _ (by omega)
      go_wp2_with fail
      go_roundw
      case rel => exact ⟨kn, _, v2, rfl, rfl, by omega, by simp only [List.length_append, List.length_singleton]; omega, HO2, HB2, NX⟩
      case measure => simp [intOf]; omega
end Go.Proofs.YtjhfginopbjldaaDoor.OptRef

/- The law Ip4Parses. -/
set_option linter.unusedVariables false
namespace Go.Proofs.YtjhfginopbjldaaDoor.LawParses
open Go.RowKit Go.Proofs.YtjhfginopbjldaaDoor.Sums Go.Proofs.YtjhfginopbjldaaDoor.Mem Go.Proofs.YtjhfginopbjldaaDoor.Blk Go.Proofs.YtjhfginopbjldaaDoor.Pkt Go.Proofs.YtjhfginopbjldaaDoor.Check Go.Proofs.YtjhfginopbjldaaDoor.Same Go.Proofs.YtjhfginopbjldaaDoor.Exts Go.Proofs.YtjhfginopbjldaaDoor.Decode Go.Proofs.YtjhfginopbjldaaDoor.ParseCode Go.Proofs.YtjhfginopbjldaaDoor.ParseRef Go.Proofs.YtjhfginopbjldaaDoor.OptRef Go.Proofs.YtjhfginopbjldaaDoor.Awake Go.Proofs.YtjhfginopbjldaaDoor.Errno

def Yes (w : World) (e : Ending) (w' : World) : Prop := e = .returned (.bool true) ∧ Below w.heap.size w w'

theorem opts_len : ∀ {s : ByteArray} {xs : List (Int × ByteArray)}, Opts.optsS s = some xs → s.size ≤ 300 → xs.length ≤ 1048576 := by
  intro s xs h hs
  have : ∀ (n : Nat) (s : ByteArray) (xs : List (Int × ByteArray)), s.size ≤ n → Opts.optsS s = some xs → xs.length ≤ n := by
    intro n
    induction n with
    | zero =>
      intro s xs hs h
      rw [Opts.optsS, dif_neg (by omega)] at h
      injection h with h
      subst h
      exact Nat.le_refl _
    | succ n ih =>
      intro s xs hs h
      rw [Opts.optsS] at h
      split at h
      · split at h
        · injection h with h
          subst h
          exact Nat.zero_le _
        · split at h
          · rw [Option.map_eq_some_iff] at h
            obtain ⟨ys, hy, rfl⟩ := h
            have := ih _ ys (by rw [ByteArray.size_extract]; omega) hy
            simp only [List.length_cons]; omega
          · split at h
            · split at h
              · cases h
              · rw [Option.map_eq_some_iff] at h
                obtain ⟨ys, hy, rfl⟩ := h
                have := ih _ ys (by rw [ByteArray.size_extract]; omega) hy
                simp only [List.length_cons]; omega
            · cases h
      · injection h with h
        subst h
        exact Nat.zero_le _
  exact Nat.le_trans (this 300 s xs hs h) (by decide)

theorem parses_big (A : Option Addr) (n c : Nat) (s : ByteArray) (w : World) (h : 3000 < n ∨ (n ≤ 3000 ∧ 300 < s.size)) (h1 : s.size ≤ 140737488355328) (h3 : n ≤ 9223372036854775807) :
    Calls Tryd.prog 4 #[.slice A n c, .string s] w (Yes w) := by
  rcases h with h | ⟨h, k⟩
  · have b4 : ((3000 : Int) < (n : Int)) = True := eq_true (by omega)
    clear h
    go_enter Tryd.func4, Tryd.ntmps4
    go_wp2_with fail
    go_ret
    exact ⟨rfl, Below.refl _ _⟩
  · have b4 : ((3000 : Int) < (n : Int)) = False := eq_false (by omega)
    have b5 : ((300 : Int) < (s.size : Int)) = True := eq_true (by omega)
    clear h k
    go_enter Tryd.func4, Tryd.ntmps4
    go_wp2_with fail
    go_ret
    exact ⟨rfl, Below.refl _ _⟩

set_option maxHeartbeats 4000000 in
set_option maxRecDepth 100000 in
theorem parses_small (A2 : Option Addr) (n2 c2 : Nat) (l2 : List Int) (s : ByteArray) (w : World) (hg : Handle w) (h : Holds w w.heap.size A2 n2 c2 l2) (h4 : n2 ≤ 3000) (h5 : s.size ≤ 300) :
    Calls Tryd.prog 4 #[.slice A2 n2 c2, .string s] w (Yes w) := by
  have b4 : ((3000 : Int) < (n2 : Int)) = False := eq_false (by omega)
  have b5 : ((300 : Int) < (s.size : Int)) = False := eq_false (by omega)
  have H2 := Lib.hid h
  have G := Lib.hid hg
  clear h hg
  go_enter Tryd.func4, Tryd.ntmps4
  go_wp2_with fail
  refine (Both.both_lit (B := w.heap.size) (Nat.le_refl _) [⟨A2, n2, c2, l2⟩] _ _ rfl (Both.mem1 H2.out) _ 1 (by simp) rfl (by decide) (by show n2 + 0 ≤ 1048576; omega)).mono ?_
  rintro e w1 ⟨A3, c3, rfl, h3, _, hb⟩
  have h3' : Holds w1 w1.heap.size A3 n2 c3 l2 := by
    have e1 : Both.flat [⟨A2, n2, c2, l2⟩] = l2 := by simp [Both.flat]
    rw [e1] at h3
    exact h3
  have e0 : Both.total [⟨A2, n2, c2, l2⟩] = n2 := rfl
  rw [e0]
  have B1 := Lib.hid hb
  have H3 := Lib.hid h3'
  clear hb h3 h3' e0
  go_wp2_with fail
  refine (parse_any A3 n2 c3 l2 _ _ (G.out.keep B1.out) (Nat.le_refl _) H3.out (by omega)).mono ?_
  rintro e w2 ⟨g2, hb⟩
  have B2 := Lib.hid (B1.out.trans (hb.mono B1.out.size))
  have C2 := Lib.hid hb
  clear hb
  have hs2 := B1.out.size
  rcases g2 with ⟨pz, A4, c4, rfl, o4⟩ | ⟨pz, rfl⟩
  · obtain ⟨N, hN⟩ : ∃ N, N = l2.length - hdOf l2 := ⟨_, rfl⟩
    obtain ⟨q, hq⟩ : ∃ q, q = pkOf l2 := ⟨_, rfl⟩
    rw [← hN] at o4 ⊢
    rw [← hq]
    have QH := Lib.hid hq
    have NH := Lib.hid hN
    have PZ := Lib.hid pz
    have D4 := Lib.hid o4.holds
    clear o4 pz hq hN
    unfold val
    have P3 := Lib.hid (Blk.new w2 24 #[.int .i64 q.tos, .int .i64 q.id, .int .i64 q.ttl, .int .i64 q.proto, .bool q.df, .bool q.mf, .int .i64 q.off, .string q.src, .string q.dst, .string q.opt, .slice A4 N c4])
    have B3 := Lib.hid (B2.out.alloc B2.out.size (.cells #[.int .i64 q.tos, .int .i64 q.id, .int .i64 q.ttl, .int .i64 q.proto, .bool q.df, .bool q.mf, .int .i64 q.off, .string q.src, .string q.dst, .string q.opt, .slice A4 N c4] 24))
    have C3 := Lib.hid ((Below.refl _ w2).alloc (Nat.le_refl _) (.cells #[.int .i64 q.tos, .int .i64 q.id, .int .i64 q.ttl, .int .i64 q.proto, .bool q.df, .bool q.mf, .int .i64 q.off, .string q.src, .string q.dst, .string q.opt, .slice A4 N c4] 24))
    go_wp2_with fail
    refine (pref_any A2 n2 c2 l2 _ w.heap.size B3.out.size (H2.out.below B3.out) (by omega)).mono ?_
    rintro e w4 ⟨g4, hb⟩
    have B4 := Lib.hid (B3.out.trans (hb.mono B3.out.size))
    have C4 := Lib.hid (C3.out.trans (hb.mono C3.out.size))
    have P4 := Lib.hid (P3.out.below hb P3.out.lt)
    clear hb
    rcases g4 with ⟨_, A5, c5, rfl, o5⟩ | ⟨pz, _⟩
    case inr => exact absurd PZ.out pz
    rw [← NH.out] at o5 ⊢
    rw [← QH.out]
    have D5 := Lib.hid o5.holds
    clear o5
    unfold val
    have Q6 := Lib.hid (Blk.new w4 24 #[.int .i64 q.tos, .int .i64 q.id, .int .i64 q.ttl, .int .i64 q.proto, .bool q.df, .bool q.mf, .int .i64 q.off, .string q.src, .string q.dst, .string q.opt, .slice A5 N c5])
    have P6 := Lib.hid (P4.out.alloc (.cells #[.int .i64 q.tos, .int .i64 q.id, .int .i64 q.ttl, .int .i64 q.proto, .bool q.df, .bool q.mf, .int .i64 q.off, .string q.src, .string q.dst, .string q.opt, .slice A5 N c5] 24))
    have B6 := Lib.hid (B4.out.alloc B4.out.size (.cells #[.int .i64 q.tos, .int .i64 q.id, .int .i64 q.ttl, .int .i64 q.proto, .bool q.df, .bool q.mf, .int .i64 q.off, .string q.src, .string q.dst, .string q.opt, .slice A5 N c5] 24))
    have C6 := Lib.hid (C4.out.alloc C4.out.size (.cells #[.int .i64 q.tos, .int .i64 q.id, .int .i64 q.ttl, .int .i64 q.proto, .bool q.df, .bool q.mf, .int .i64 q.off, .string q.src, .string q.dst, .string q.opt, .slice A5 N c5] 24))
    have G6 := Lib.hid ((Below.refl _ w4).alloc (Nat.le_refl _) (.cells #[.int .i64 q.tos, .int .i64 q.id, .int .i64 q.ttl, .int .i64 q.proto, .bool q.df, .bool q.mf, .int .i64 q.off, .string q.src, .string q.dst, .string q.opt, .slice A5 N c5] 24))
    have SY := Lib.hid (fun W (hC : Below w2.heap.size w2 W) (hG : Below w4.heap.size w4 W) => same_yes q A4 A5 N c4 N c5 _ (l2.drop (hdOf l2)) W ((D4.out.below hC).more hC.size) ((D5.out.below hG).more hG.size) (Nat.le_refl _))
    clear P3 B3 C3 P4 B4 C4 D4 D5
    go_wp2_with fail
    refine (Opts.options_any s _ (G.out.keep B6.out) (by omega)).mono ?_
    rintro e w7 ⟨g7, hb⟩
    have B7 := Lib.hid (B6.out.trans (hb.mono B6.out.size))
    have C7 := Lib.hid (C6.out.trans (hb.mono C6.out.size))
    have G7 := Lib.hid (G6.out.trans (hb.mono G6.out.size))
    have P7 := Lib.hid (P6.out.below hb P6.out.lt)
    have Q7 := Lib.hid (Q6.out.below hb Q6.out.lt)
    clear hb P6 Q6 B6 C6 G6
    rcases g7 with ⟨xs, v7, ox, rfl, w7o⟩ | ⟨ox, rfl⟩
    · have R7 := Lib.hid (Row.of_owns w7o)
      have OX := Lib.hid ox
      clear ox w7o
      go_wp2_with fail
      refine (options_ref s w7 (by omega)).mono ?_
      rintro e w8 ⟨g8, hb⟩
      rcases g8 with ⟨ys, v8, oy, rfl, w8o⟩ | ⟨oy, _⟩
      case inr => exact absurd oy (by rw [OX.out]; simp)
      obtain rfl : ys = xs := by rw [OX.out] at oy; injection oy with oy; exact oy.symm
      have R8 := Lib.hid (Row.of_owns w8o)
      have xl : Hid (ys.length ≤ 1048576) := Lib.hid (opts_len OX.out (by omega))
      have R78 := Lib.hid (R7.out.below hb)
      have B8 := Lib.hid (B7.out.trans (hb.mono B7.out.size))
      have C8 := Lib.hid (C7.out.trans (hb.mono C7.out.size))
      have G8 := Lib.hid (G7.out.trans (hb.mono G7.out.size))
      have P8 := Lib.hid (P7.out.below hb P7.out.lt)
      have Q8 := Lib.hid (Q7.out.below hb Q7.out.lt)
      clear hb P7 Q7 B7 C7 G7
      go_wp2_with fail
      refine (awake_any w8 (G.out.keep B8.out)).mono ?_
      rintro e w9 ⟨rfl, hb⟩
      have B9 := Lib.hid (B8.out.trans (hb.mono B8.out.size))
      have C9 := Lib.hid (C8.out.trans (hb.mono C8.out.size))
      have G9 := Lib.hid (G8.out.trans (hb.mono G8.out.size))
      have P9 := Lib.hid (P8.out.below hb P8.out.lt)
      have Q9 := Lib.hid (Q8.out.below hb Q8.out.lt)
      have X9 := Lib.hid (R78.out.below hb)
      have Y9 := Lib.hid (R8.out.below hb)
      clear hb P8 Q8 B8 C8 G8
      have v1 : (convert 22 9 (.slice A3 n2 c3)).run Tryd.prog w9 = .ok (.string (strOfNums l2)) w9 := run_string_bytes ((H3.out.below C2.out).below (C9.out.mono C2.out.size))
      have v2 : (convert 22 9 (.slice A2 n2 c2)).run Tryd.prog w9 = .ok (.string (strOfNums l2)) w9 := run_string_bytes (H2.out.below B9.out)
      have S9 := Lib.hid (SY.out w9 C9.out G9.out)
      unfold val at S9
      generalize strOfNums l2 = bstr at *
      go_wp2_with (first
        | (refine Loads.wpList_load_w rfl 24 (.tmp 6) rfl w2.heap.size rfl 24 #[.int .i64 q.tos, .int .i64 q.id, .int .i64 q.ttl, .int .i64 q.proto, .bool q.df, .bool q.mf, .int .i64 q.off, .string q.src, .string q.dst, .string q.opt, .slice A4 N c4] (0, 0) _ P9.out (Tryd.underlying24) rfl (by kernel_rfl) ?_)
        | (refine Loads.wpList_load_w rfl 24 (.tmp 8) rfl w4.heap.size rfl 24 #[.int .i64 q.tos, .int .i64 q.id, .int .i64 q.ttl, .int .i64 q.proto, .bool q.df, .bool q.mf, .int .i64 q.off, .string q.src, .string q.dst, .string q.opt, .slice A5 N c5] (0, 0) _ Q9.out (Tryd.underlying24) rfl (by kernel_rfl) ?_))
      refine S9.out.mono ?_
      rintro e w10 ⟨rfl, hb⟩
      have B10 := Lib.hid (B9.out.trans (hb.mono B9.out.size))
      have X10 := Lib.hid (X9.out.below hb)
      have Y10 := Lib.hid (Y9.out.below hb)
      clear hb
      go_wp2_with fail
      refine (exts_any v7 v8 ys ys w10 X10.out Y10.out xl.out).mono ?_
      rintro e w11 ⟨he, hb⟩
      obtain rfl : e = .returned (.bool true) := he.trans (by simp)
      have B11 := Lib.hid (B10.out.trans (hb.mono B10.out.size))
      clear hb he
      go_wp2_with fail
      go_ret
      exact ⟨rfl, B11.out⟩
    · have OX := Lib.hid ox
      clear ox
      go_wp2_with fail
      refine (options_ref s w7 (by omega)).mono ?_
      rintro e w8 ⟨g8, hb⟩
      rcases g8 with ⟨ys, v8, oy, _⟩ | ⟨_, rfl⟩
      · exact absurd oy (by rw [OX.out]; simp)
      have B8 := Lib.hid (B7.out.trans (hb.mono B7.out.size))
      have C8 := Lib.hid (C7.out.trans (hb.mono C7.out.size))
      have G8 := Lib.hid (G7.out.trans (hb.mono G7.out.size))
      have P8 := Lib.hid (P7.out.below hb P7.out.lt)
      have Q8 := Lib.hid (Q7.out.below hb Q7.out.lt)
      clear hb P7 Q7 B7 C7 G7
      go_wp2_with fail
      refine (awake_any w8 (G.out.keep B8.out)).mono ?_
      rintro e w9 ⟨rfl, hb⟩
      have B9 := Lib.hid (B8.out.trans (hb.mono B8.out.size))
      have C9 := Lib.hid (C8.out.trans (hb.mono C8.out.size))
      have G9 := Lib.hid (G8.out.trans (hb.mono G8.out.size))
      have P9 := Lib.hid (P8.out.below hb P8.out.lt)
      have Q9 := Lib.hid (Q8.out.below hb Q8.out.lt)
      clear hb P8 Q8 B8 C8 G8
      have v1 : (convert 22 9 (.slice A3 n2 c3)).run Tryd.prog w9 = .ok (.string (strOfNums l2)) w9 := run_string_bytes ((H3.out.below C2.out).below (C9.out.mono C2.out.size))
      have v2 : (convert 22 9 (.slice A2 n2 c2)).run Tryd.prog w9 = .ok (.string (strOfNums l2)) w9 := run_string_bytes (H2.out.below B9.out)
      have S9 := Lib.hid (SY.out w9 C9.out G9.out)
      unfold val at S9
      generalize strOfNums l2 = bstr at *
      go_wp2_with (first
        | (refine Loads.wpList_load_w rfl 24 (.tmp 6) rfl w2.heap.size rfl 24 #[.int .i64 q.tos, .int .i64 q.id, .int .i64 q.ttl, .int .i64 q.proto, .bool q.df, .bool q.mf, .int .i64 q.off, .string q.src, .string q.dst, .string q.opt, .slice A4 N c4] (0, 0) _ P9.out (Tryd.underlying24) rfl (by kernel_rfl) ?_)
        | (refine Loads.wpList_load_w rfl 24 (.tmp 8) rfl w4.heap.size rfl 24 #[.int .i64 q.tos, .int .i64 q.id, .int .i64 q.ttl, .int .i64 q.proto, .bool q.df, .bool q.mf, .int .i64 q.off, .string q.src, .string q.dst, .string q.opt, .slice A5 N c5] (0, 0) _ Q9.out (Tryd.underlying24) rfl (by kernel_rfl) ?_))
      refine S9.out.mono ?_
      rintro e w10 ⟨rfl, hb⟩
      have B10 := Lib.hid (B9.out.trans (hb.mono B9.out.size))
      clear hb
      go_wp2_with fail
      refine (exts_any (.slice none 0 0) (.slice none 0 0) [] [] w10 (Row.nil _) (Row.nil _) (by decide)).mono ?_
      rintro e w11 ⟨he, hb⟩
      obtain rfl : e = .returned (.bool true) := he.trans (by simp)
      have B11 := Lib.hid (B10.out.trans (hb.mono B10.out.size))
      clear hb he
      go_wp2_with fail
      go_ret
      exact ⟨rfl, B11.out⟩
  · obtain ⟨pe, hpe⟩ : ∃ pe, pe = perr l2 := ⟨_, rfl⟩
    have PH := Lib.hid hpe
    have PZ := Lib.hid pz
    rw [← hpe]
    clear pz hpe
    unfold val Pkt.zero
    have P3 := Lib.hid (Blk.new w2 24 #[.int .i64 0, .int .i64 0, .int .i64 0, .int .i64 0, .bool false, .bool false, .int .i64 0, .string ⟨#[]⟩, .string ⟨#[]⟩, .string ⟨#[]⟩, .slice none 0 0])
    have B3 := Lib.hid (B2.out.alloc B2.out.size (.cells #[.int .i64 0, .int .i64 0, .int .i64 0, .int .i64 0, .bool false, .bool false, .int .i64 0, .string ⟨#[]⟩, .string ⟨#[]⟩, .string ⟨#[]⟩, .slice none 0 0] 24))
    have C3 := Lib.hid ((Below.refl _ w2).alloc (Nat.le_refl _) (.cells #[.int .i64 0, .int .i64 0, .int .i64 0, .int .i64 0, .bool false, .bool false, .int .i64 0, .string ⟨#[]⟩, .string ⟨#[]⟩, .string ⟨#[]⟩, .slice none 0 0] 24))
    go_wp2_with fail
    refine (pref_any A2 n2 c2 l2 _ w.heap.size B3.out.size (H2.out.below B3.out) (by omega)).mono ?_
    rintro e w4 ⟨g4, hb⟩
    have B4 := Lib.hid (B3.out.trans (hb.mono B3.out.size))
    have C4 := Lib.hid (C3.out.trans (hb.mono C3.out.size))
    have P4 := Lib.hid (P3.out.below hb P3.out.lt)
    clear hb
    rcases g4 with ⟨pz, _⟩ | ⟨_, rfl⟩
    · exact absurd pz PZ.out
    rw [← PH.out]
    unfold val Pkt.zero
    have Q6 := Lib.hid (Blk.new w4 24 #[.int .i64 0, .int .i64 0, .int .i64 0, .int .i64 0, .bool false, .bool false, .int .i64 0, .string ⟨#[]⟩, .string ⟨#[]⟩, .string ⟨#[]⟩, .slice none 0 0])
    have P6 := Lib.hid (P4.out.alloc (.cells #[.int .i64 0, .int .i64 0, .int .i64 0, .int .i64 0, .bool false, .bool false, .int .i64 0, .string ⟨#[]⟩, .string ⟨#[]⟩, .string ⟨#[]⟩, .slice none 0 0] 24))
    have B6 := Lib.hid (B4.out.alloc B4.out.size (.cells #[.int .i64 0, .int .i64 0, .int .i64 0, .int .i64 0, .bool false, .bool false, .int .i64 0, .string ⟨#[]⟩, .string ⟨#[]⟩, .string ⟨#[]⟩, .slice none 0 0] 24))
    have C6 := Lib.hid (C4.out.alloc C4.out.size (.cells #[.int .i64 0, .int .i64 0, .int .i64 0, .int .i64 0, .bool false, .bool false, .int .i64 0, .string ⟨#[]⟩, .string ⟨#[]⟩, .string ⟨#[]⟩, .slice none 0 0] 24))
    have G6 := Lib.hid ((Below.refl _ w4).alloc (Nat.le_refl _) (.cells #[.int .i64 0, .int .i64 0, .int .i64 0, .int .i64 0, .bool false, .bool false, .int .i64 0, .string ⟨#[]⟩, .string ⟨#[]⟩, .string ⟨#[]⟩, .slice none 0 0] 24))
    have SY : Hid (∀ W, Below w2.heap.size w2 W → Below w4.heap.size w4 W → Calls Tryd.prog 13 #[.agg #[.int .i64 0, .int .i64 0, .int .i64 0, .int .i64 0, .bool false, .bool false, .int .i64 0, .string ⟨#[]⟩, .string ⟨#[]⟩, .string ⟨#[]⟩, .slice none 0 0], .agg #[.int .i64 0, .int .i64 0, .int .i64 0, .int .i64 0, .bool false, .bool false, .int .i64 0, .string ⟨#[]⟩, .string ⟨#[]⟩, .string ⟨#[]⟩, .slice none 0 0]] W fun e w' => e = .returned (.bool true) ∧ Below W.heap.size W w') := Lib.hid (fun W _ _ => same_yes Pkt.zero none none 0 0 0 0 0 [] W (Holds.nil _ _ _) (Holds.nil _ _ _) (Nat.zero_le _))
    clear P3 B3 C3 P4 B4 C4
    go_wp2_with fail
    refine (Opts.options_any s _ (G.out.keep B6.out) (by omega)).mono ?_
    rintro e w7 ⟨g7, hb⟩
    have B7 := Lib.hid (B6.out.trans (hb.mono B6.out.size))
    have C7 := Lib.hid (C6.out.trans (hb.mono C6.out.size))
    have G7 := Lib.hid (G6.out.trans (hb.mono G6.out.size))
    have P7 := Lib.hid (P6.out.below hb P6.out.lt)
    have Q7 := Lib.hid (Q6.out.below hb Q6.out.lt)
    clear hb P6 Q6 B6 C6 G6
    rcases g7 with ⟨xs, v7, ox, rfl, w7o⟩ | ⟨ox, rfl⟩
    · have R7 := Lib.hid (Row.of_owns w7o)
      have OX := Lib.hid ox
      clear ox w7o
      go_wp2_with fail
      refine (options_ref s w7 (by omega)).mono ?_
      rintro e w8 ⟨g8, hb⟩
      rcases g8 with ⟨ys, v8, oy, rfl, w8o⟩ | ⟨oy, _⟩
      case inr => exact absurd oy (by rw [OX.out]; simp)
      obtain rfl : ys = xs := by rw [OX.out] at oy; injection oy with oy; exact oy.symm
      have R8 := Lib.hid (Row.of_owns w8o)
      have xl : Hid (ys.length ≤ 1048576) := Lib.hid (opts_len OX.out (by omega))
      have R78 := Lib.hid (R7.out.below hb)
      have B8 := Lib.hid (B7.out.trans (hb.mono B7.out.size))
      have C8 := Lib.hid (C7.out.trans (hb.mono C7.out.size))
      have G8 := Lib.hid (G7.out.trans (hb.mono G7.out.size))
      have P8 := Lib.hid (P7.out.below hb P7.out.lt)
      have Q8 := Lib.hid (Q7.out.below hb Q7.out.lt)
      clear hb P7 Q7 B7 C7 G7
      go_wp2_with fail
      refine (awake_any w8 (G.out.keep B8.out)).mono ?_
      rintro e w9 ⟨rfl, hb⟩
      have B9 := Lib.hid (B8.out.trans (hb.mono B8.out.size))
      have C9 := Lib.hid (C8.out.trans (hb.mono C8.out.size))
      have G9 := Lib.hid (G8.out.trans (hb.mono G8.out.size))
      have P9 := Lib.hid (P8.out.below hb P8.out.lt)
      have Q9 := Lib.hid (Q8.out.below hb Q8.out.lt)
      have X9 := Lib.hid (R78.out.below hb)
      have Y9 := Lib.hid (R8.out.below hb)
      clear hb P8 Q8 B8 C8 G8
      have v1 : (convert 22 9 (.slice A3 n2 c3)).run Tryd.prog w9 = .ok (.string (strOfNums l2)) w9 := run_string_bytes ((H3.out.below C2.out).below (C9.out.mono C2.out.size))
      have v2 : (convert 22 9 (.slice A2 n2 c2)).run Tryd.prog w9 = .ok (.string (strOfNums l2)) w9 := run_string_bytes (H2.out.below B9.out)
      have S9 := Lib.hid (SY.out w9 C9.out G9.out)
      unfold val at S9
      generalize strOfNums l2 = bstr at *
      go_wp2_with (first
        | (refine Loads.wpList_load_w rfl 24 (.tmp 6) rfl w2.heap.size rfl 24 #[.int .i64 0, .int .i64 0, .int .i64 0, .int .i64 0, .bool false, .bool false, .int .i64 0, .string ⟨#[]⟩, .string ⟨#[]⟩, .string ⟨#[]⟩, .slice none 0 0] (0, 0) _ P9.out (Tryd.underlying24) rfl (by kernel_rfl) ?_)
        | (refine Loads.wpList_load_w rfl 24 (.tmp 8) rfl w4.heap.size rfl 24 #[.int .i64 0, .int .i64 0, .int .i64 0, .int .i64 0, .bool false, .bool false, .int .i64 0, .string ⟨#[]⟩, .string ⟨#[]⟩, .string ⟨#[]⟩, .slice none 0 0] (0, 0) _ Q9.out (Tryd.underlying24) rfl (by kernel_rfl) ?_))
      refine S9.out.mono ?_
      rintro e w10 ⟨rfl, hb⟩
      have B10 := Lib.hid (B9.out.trans (hb.mono B9.out.size))
      have X10 := Lib.hid (X9.out.below hb)
      have Y10 := Lib.hid (Y9.out.below hb)
      clear hb
      go_wp2_with fail
      refine (exts_any v7 v8 ys ys w10 X10.out Y10.out xl.out).mono ?_
      rintro e w11 ⟨he, hb⟩
      obtain rfl : e = .returned (.bool true) := he.trans (by simp)
      have B11 := Lib.hid (B10.out.trans (hb.mono B10.out.size))
      clear hb he
      go_wp2_with fail
      go_ret
      exact ⟨rfl, B11.out⟩
    · have OX := Lib.hid ox
      clear ox
      go_wp2_with fail
      refine (options_ref s w7 (by omega)).mono ?_
      rintro e w8 ⟨g8, hb⟩
      rcases g8 with ⟨ys, v8, oy, _⟩ | ⟨_, rfl⟩
      · exact absurd oy (by rw [OX.out]; simp)
      have B8 := Lib.hid (B7.out.trans (hb.mono B7.out.size))
      have C8 := Lib.hid (C7.out.trans (hb.mono C7.out.size))
      have G8 := Lib.hid (G7.out.trans (hb.mono G7.out.size))
      have P8 := Lib.hid (P7.out.below hb P7.out.lt)
      have Q8 := Lib.hid (Q7.out.below hb Q7.out.lt)
      clear hb P7 Q7 B7 C7 G7
      go_wp2_with fail
      refine (awake_any w8 (G.out.keep B8.out)).mono ?_
      rintro e w9 ⟨rfl, hb⟩
      have B9 := Lib.hid (B8.out.trans (hb.mono B8.out.size))
      have C9 := Lib.hid (C8.out.trans (hb.mono C8.out.size))
      have G9 := Lib.hid (G8.out.trans (hb.mono G8.out.size))
      have P9 := Lib.hid (P8.out.below hb P8.out.lt)
      have Q9 := Lib.hid (Q8.out.below hb Q8.out.lt)
      clear hb P8 Q8 B8 C8 G8
      have v1 : (convert 22 9 (.slice A3 n2 c3)).run Tryd.prog w9 = .ok (.string (strOfNums l2)) w9 := run_string_bytes ((H3.out.below C2.out).below (C9.out.mono C2.out.size))
      have v2 : (convert 22 9 (.slice A2 n2 c2)).run Tryd.prog w9 = .ok (.string (strOfNums l2)) w9 := run_string_bytes (H2.out.below B9.out)
      have S9 := Lib.hid (SY.out w9 C9.out G9.out)
      unfold val at S9
      generalize strOfNums l2 = bstr at *
      go_wp2_with (first
        | (refine Loads.wpList_load_w rfl 24 (.tmp 6) rfl w2.heap.size rfl 24 #[.int .i64 0, .int .i64 0, .int .i64 0, .int .i64 0, .bool false, .bool false, .int .i64 0, .string ⟨#[]⟩, .string ⟨#[]⟩, .string ⟨#[]⟩, .slice none 0 0] (0, 0) _ P9.out (Tryd.underlying24) rfl (by kernel_rfl) ?_)
        | (refine Loads.wpList_load_w rfl 24 (.tmp 8) rfl w4.heap.size rfl 24 #[.int .i64 0, .int .i64 0, .int .i64 0, .int .i64 0, .bool false, .bool false, .int .i64 0, .string ⟨#[]⟩, .string ⟨#[]⟩, .string ⟨#[]⟩, .slice none 0 0] (0, 0) _ Q9.out (Tryd.underlying24) rfl (by kernel_rfl) ?_))
      refine S9.out.mono ?_
      rintro e w10 ⟨rfl, hb⟩
      have B10 := Lib.hid (B9.out.trans (hb.mono B9.out.size))
      clear hb
      go_wp2_with fail
      refine (exts_any (.slice none 0 0) (.slice none 0 0) [] [] w10 (Row.nil _) (Row.nil _) (by decide)).mono ?_
      rintro e w11 ⟨he, hb⟩
      obtain rfl : e = .returned (.bool true) := he.trans (by simp)
      have B11 := Lib.hid (B10.out.trans (hb.mono B10.out.size))
      clear hb he
      go_wp2_with fail
      go_ret
      exact ⟨rfl, B11.out⟩

theorem parses_any (A2 : Option Addr) (n2 c2 : Nat) (l2 : List Int) (s : ByteArray) (w : World) (hg : Handle w) (h : Holds w w.heap.size A2 n2 c2 l2) (h1 : s.size ≤ 140737488355328) :
    Calls Tryd.prog 4 #[.slice A2 n2 c2, .string s] w (Yes w) := by
  have hn : n2 ≤ 9223372036854775807 := by
    have a := h.2.1
    have b := h.2.2.1
    simp only [maxLen] at b
    omega
  by_cases h4 : 3000 < n2
  · exact parses_big A2 n2 c2 s w (.inl h4) h1 hn
  · by_cases h5 : 300 < s.size
    · exact parses_big A2 n2 c2 s w (.inr ⟨by omega, h5⟩) h1 hn
    · exact parses_small A2 n2 c2 l2 s w hg h (by omega) (by omega)
end Go.Proofs.YtjhfginopbjldaaDoor.LawParses

