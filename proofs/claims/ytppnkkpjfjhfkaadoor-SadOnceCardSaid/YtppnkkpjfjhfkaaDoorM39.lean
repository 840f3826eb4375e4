/- One call of both: those that only read and answer numbers. -/
import Derived.Test.YtppnkkpjfjhfkaaDoorM38
import Derived.Test.YtppnkkpjfjhfkaaDoorM27
set_option linter.unusedVariables false
namespace Go.Proofs.YtppnkkpjfjhfkaaDoor.Step17r
open Go.RowKit Go.Proofs.YtppnkkpjfjhfkaaDoor.Mem Go.Proofs.YtppnkkpjfjhfkaaDoor.Blk Go.Proofs.YtppnkkpjfjhfkaaDoor.ArgT Go.Proofs.YtppnkkpjfjhfkaaDoor.Part Go.Proofs.YtppnkkpjfjhfkaaDoor.Longs Go.Proofs.YtppnkkpjfjhfkaaDoor.SadM Go.Proofs.YtppnkkpjfjhfkaaDoor.SadR3 Go.Proofs.YtppnkkpjfjhfkaaDoor.SadR4 Go.Proofs.YtppnkkpjfjhfkaaDoor.SadF Go.Proofs.YtppnkkpjfjhfkaaDoor.SadP Go.Proofs.YtppnkkpjfjhfkaaDoor.Two17 Go.Proofs.YtppnkkpjfjhfkaaDoor.Few17 Go.Proofs.YtppnkkpjfjhfkaaDoor.CadM Go.Proofs.YtppnkkpjfjhfkaaDoor.Cad11

theorem reads_fst {A B : (Nat → Prop) → World → Nat → List Ent → Prop} {w0 w : World} {C0 : Nat → Nat} {gs gx : Nat} {e e' : List Ent} {P : Program} {f : FuncId} {args : Array Value} {r : Ending} (hA : IsObj A) (hB : IsObj B) (h : Two A B w0 C0 gs gx w e e') (hc : ∀ F, A F w gs e → Errno.Handle w → Calls P f args w fun er w' => er = r ∧ Below w.heap.size w w') :
    Calls P f args w fun er w' => er = r ∧ Two A B w0 C0 gs gx w' e e' := by
  have h' := h
  obtain ⟨C, hC, a, b, k, hd⟩ := h'
  exact Two.reads hA hB h (hc _ a (hd.of k))
theorem reads_snd {A B : (Nat → Prop) → World → Nat → List Ent → Prop} {w0 w : World} {C0 : Nat → Nat} {gs gx : Nat} {e e' : List Ent} {P : Program} {f : FuncId} {args : Array Value} {r : Ending} (hA : IsObj A) (hB : IsObj B) (h : Two A B w0 C0 gs gx w e e') (hc : ∀ F, B F w gx e' → Calls P f args w fun er w' => er = r ∧ Below w.heap.size w w') :
    Calls P f args w fun er w' => er = r ∧ Two A B w0 C0 gs gx w' e e' := by
  have h' := h
  obtain ⟨C, hC, a, b, k, hd⟩ := h'
  exact Two.reads hA hB h (hc _ b)

set_option maxRecDepth 100000 in
set_option maxHeartbeats 4000000 in
theorem step_age (w0 : World) (C0 : Nat → Nat) (gs gx k : Nat) (es : List Ent) (o : Op17R) (w : World) (T : Two CadF SadF w0 C0 gs gx w es es) (hA : IsObj CadF) (hB : IsObj SadF) (G : SadP.Good k es) (fit : fitsOp o) (g0 : (o.x0 == 0) = false) (g1 : (o.x0 == 1) = false) (g2 : (o.x0 == 2) = true) :
    Calls Tryd.prog 10 #[.pointer (some ⟨gs, 0, none⟩), .pointer (some ⟨gx, 0, none⟩), .agg (opCs o)] w fun er w' => er = .returned (.bool true) ∧ Two CadF SadF w0 C0 gs gx w' es es := by
  obtain ⟨R, hR⟩ : ∃ R, R = ageS o.x1 o.x2 o.x6 es := ⟨_, rfl⟩
  obtain ⟨C1, hb0, T1, back⟩ := T.start hA hB (.cells (opCs o) 36)
  have len : es.length ≤ 1048576 := by have := G.few; omega
  have NW : NowOk o.x1 es := G.now fit.2.2.1 fit.2.2.2
  have J : Blk (w.alloc (.cells (opCs o) 36)) w.heap.size 36 (opCs o) := Blk.new w _ _
  have BLK : Hid (∀ V, Two CadF SadF (w.alloc (.cells (opCs o) 36)) C1 gs gx V es es → Blk V w.heap.size 36 (opCs o)) := Lib.hid fun V hV => Two.blk hV J hb0
  have CS : Hid (∀ V, Two CadF SadF (w.alloc (.cells (opCs o) 36)) C1 gs gx V es es → Calls Tryd.prog 20 #[.pointer (some ⟨gs, 0, none⟩), .int .i64 o.x1, .int .i64 o.x2, .bool o.x6] V fun er w' => er = .returned (.tuple #[.int .i64 ((R.1 : Nat) : Int), .int .i64 ((R.2 : Nat) : Int)]) ∧ Two CadF SadF (w.alloc (.cells (opCs o) 36)) C1 gs gx w' es es) := Lib.hid fun V hV => reads_fst hA hB hV fun F h hg => by rw [hR]; exact cage_F F gs es o.x1 o.x2 o.x6 V h hg len NW
  have CX : Hid (∀ V, Two CadF SadF (w.alloc (.cells (opCs o) 36)) C1 gs gx V es es → Calls Tryd.prog 25 #[.pointer (some ⟨gx, 0, none⟩), .int .i64 o.x1, .int .i64 o.x2, .bool o.x6] V fun er w' => er = .returned (.tuple #[.int .i64 ((R.1 : Nat) : Int), .int .i64 ((R.2 : Nat) : Int)]) ∧ Two CadF SadF (w.alloc (.cells (opCs o) 36)) C1 gs gx w' es es) := Lib.hid fun V hV => reads_snd hA hB hV fun F h => by rw [hR]; exact age_F F gx es o.x1 o.x2 o.x6 V h len NW
  have TH := Lib.hid T1
  have BK := Lib.hid back
  have c0 : (w.alloc (.cells (opCs o) 36)).cell? ⟨w.heap.size, 0, none⟩ = some (.int .i64 o.x0) := J.cell 0
  have c1 : (w.alloc (.cells (opCs o) 36)).cell? ⟨w.heap.size, 1, none⟩ = some (.int .i64 o.x1) := J.cell 1
  have c2 : (w.alloc (.cells (opCs o) 36)).cell? ⟨w.heap.size, 2, none⟩ = some (.int .i64 o.x2) := J.cell 2
  have c6 : (w.alloc (.cells (opCs o) 36)).cell? ⟨w.heap.size, 6, none⟩ = some (.bool o.x6) := J.cell 6
  have h1 : (((R.1 : Nat) : Int) == ((R.1 : Nat) : Int)) = true := by simp
  have h2 : (((R.2 : Nat) : Int) == ((R.2 : Nat) : Int)) = true := by simp
  clear T G fit T1 back J hb0 hR hA hB len NW
  go_enter Tryd.func10, Tryd.ntmps10
  go_wp2_with fail
  refine (CS.out _ TH.out).mono ?_
  rintro er w2 ⟨rfl, hT⟩
  have T2 := Lib.hid hT
  have K2 := BLK.out w2 hT
  have d1 : w2.cell? ⟨w.heap.size, 1, none⟩ = some (.int .i64 o.x1) := K2.cell 1
  have d2 : w2.cell? ⟨w.heap.size, 2, none⟩ = some (.int .i64 o.x2) := K2.cell 2
  have d6 : w2.cell? ⟨w.heap.size, 6, none⟩ = some (.bool o.x6) := K2.cell 6
  clear hT K2 c1 c2 c6 c0
  go_wp2_with fail
  refine (CX.out _ T2.out).mono ?_
  rintro er w3 ⟨rfl, hT⟩
  have T3 := Lib.hid (BK.out _ _ _ hT)
  clear hT
  go_wp2_with fail
  go_ret
  exact ⟨rfl, T3.out⟩

set_option maxRecDepth 100000 in
set_option maxHeartbeats 4000000 in
theorem step_pick (w0 : World) (C0 : Nat → Nat) (gs gx k : Nat) (es : List Ent) (o : Op17R) (w : World) (T : Two CadF SadF w0 C0 gs gx w es es) (hA : IsObj CadF) (hB : IsObj SadF) (G : SadP.Good k es) (fit : fitsOp o) (g0 : (o.x0 == 0) = false) (g1 : (o.x0 == 1) = false) (g2 : (o.x0 == 2) = false) (g3 : (o.x0 == 3) = true) :
    Calls Tryd.prog 10 #[.pointer (some ⟨gs, 0, none⟩), .pointer (some ⟨gx, 0, none⟩), .agg (opCs o)] w fun er w' => er = .returned (.bool true) ∧ Two CadF SadF w0 C0 gs gx w' es es := by
  obtain ⟨R, hR⟩ : ∃ R, R = pickS o.x1 o.x3 es := ⟨_, rfl⟩
  obtain ⟨C1, hb0, T1, back⟩ := T.start hA hB (.cells (opCs o) 36)
  have len : es.length ≤ 1048576 := by have := G.few; omega
  have NW : NowOk o.x1 es := G.now fit.2.2.1 fit.2.2.2
  have J : Blk (w.alloc (.cells (opCs o) 36)) w.heap.size 36 (opCs o) := Blk.new w _ _
  have BLK : Hid (∀ V, Two CadF SadF (w.alloc (.cells (opCs o) 36)) C1 gs gx V es es → Blk V w.heap.size 36 (opCs o)) := Lib.hid fun V hV => Two.blk hV J hb0
  have CS : Hid (∀ V, Two CadF SadF (w.alloc (.cells (opCs o) 36)) C1 gs gx V es es → Calls Tryd.prog 22 #[.pointer (some ⟨gs, 0, none⟩), .int .i64 o.x1, .int .i64 o.x3] V fun er w' => er = .returned (.tuple #[.int .i64 R.1, .int .i64 ((R.2 : Nat) : Int)]) ∧ Two CadF SadF (w.alloc (.cells (opCs o) 36)) C1 gs gx w' es es) := Lib.hid fun V hV => reads_fst hA hB hV fun F h hg => by rw [hR]; exact cpick_F F gs es o.x1 o.x3 V h hg len NW
  have CX : Hid (∀ V, Two CadF SadF (w.alloc (.cells (opCs o) 36)) C1 gs gx V es es → Calls Tryd.prog 26 #[.pointer (some ⟨gx, 0, none⟩), .int .i64 o.x1, .int .i64 o.x3] V fun er w' => er = .returned (.tuple #[.int .i64 R.1, .int .i64 ((R.2 : Nat) : Int)]) ∧ Two CadF SadF (w.alloc (.cells (opCs o) 36)) C1 gs gx w' es es) := Lib.hid fun V hV => reads_snd hA hB hV fun F h => by rw [hR]; exact pick_F F gx es o.x1 o.x3 V h len NW
  have TH := Lib.hid T1
  have BK := Lib.hid back
  have c0 : (w.alloc (.cells (opCs o) 36)).cell? ⟨w.heap.size, 0, none⟩ = some (.int .i64 o.x0) := J.cell 0
  have c1 : (w.alloc (.cells (opCs o) 36)).cell? ⟨w.heap.size, 1, none⟩ = some (.int .i64 o.x1) := J.cell 1
  have c3 : (w.alloc (.cells (opCs o) 36)).cell? ⟨w.heap.size, 3, none⟩ = some (.int .i64 o.x3) := J.cell 3
  have h1 : (R.1 == R.1) = true := by simp
  have h2 : (((R.2 : Nat) : Int) == ((R.2 : Nat) : Int)) = true := by simp
  clear T G fit T1 back J hb0 hR hA hB len NW
  go_enter Tryd.func10, Tryd.ntmps10
  go_wp2_with fail
  refine (CS.out _ TH.out).mono ?_
  rintro er w2 ⟨rfl, hT⟩
  have T2 := Lib.hid hT
  have K2 := BLK.out w2 hT
  have d1 : w2.cell? ⟨w.heap.size, 1, none⟩ = some (.int .i64 o.x1) := K2.cell 1
  have d3 : w2.cell? ⟨w.heap.size, 3, none⟩ = some (.int .i64 o.x3) := K2.cell 3
  clear hT K2 c1 c3 c0
  go_wp2_with fail
  refine (CX.out _ T2.out).mono ?_
  rintro er w3 ⟨rfl, hT⟩
  have T3 := Lib.hid (BK.out _ _ _ hT)
  clear hT
  go_wp2_with fail
  go_ret
  exact ⟨rfl, T3.out⟩
end Go.Proofs.YtppnkkpjfjhfkaaDoor.Step17r

/- One call of both: those that answer a struct. -/
set_option linter.unusedVariables false
namespace Go.Proofs.YtppnkkpjfjhfkaaDoor.Step17w
open Go.RowKit Go.Proofs.YtppnkkpjfjhfkaaDoor.Mem Go.Proofs.YtppnkkpjfjhfkaaDoor.Blk Go.Proofs.YtppnkkpjfjhfkaaDoor.ArgT Go.Proofs.YtppnkkpjfjhfkaaDoor.Part Go.Proofs.YtppnkkpjfjhfkaaDoor.Longs Go.Proofs.YtppnkkpjfjhfkaaDoor.SadM Go.Proofs.YtppnkkpjfjhfkaaDoor.SadR3 Go.Proofs.YtppnkkpjfjhfkaaDoor.SadR5 Go.Proofs.YtppnkkpjfjhfkaaDoor.SadR6 Go.Proofs.YtppnkkpjfjhfkaaDoor.SadR7 Go.Proofs.YtppnkkpjfjhfkaaDoor.SadF Go.Proofs.YtppnkkpjfjhfkaaDoor.RowN Go.Proofs.YtppnkkpjfjhfkaaDoor.SadP Go.Proofs.YtppnkkpjfjhfkaaDoor.Two17 Go.Proofs.YtppnkkpjfjhfkaaDoor.Few17 Go.Proofs.YtppnkkpjfjhfkaaDoor.CadM Go.Proofs.YtppnkkpjfjhfkaaDoor.Cad11 Go.Proofs.YtppnkkpjfjhfkaaDoor.Step17r

theorem same_sa (r : LifeR) (w : World) : (Op.equalIn 10000 32 (.agg #[.int .i64 r.x0, .string r.x1, .string r.x2, .string r.x3, .bool r.x4, .int .i64 r.x5]) (.agg #[.int .i64 r.x0, .string r.x1, .string r.x2, .string r.x3, .bool r.x4, .int .i64 r.x5])).run Tryd.prog w = .ok true w := by
  rw [EqL.eq_Sa 9998 r.x0 r.x1 r.x2 r.x3 r.x4 r.x5 r.x0 r.x1 r.x2 r.x3 r.x4 r.x5 w]
  simp
theorem same_life (r : LifeR) (w : World) : (Op.equalIn 10000 34 (.agg #[.int .i64 r.x0, .string r.x1, .string r.x2, .string r.x3, .bool r.x4, .int .i64 r.x5, .int .i64 r.x6, .bool r.x7, .int .i64 r.x8, .int .i64 r.x9, .int .i64 r.x10, .int .i64 r.x11]) (.agg #[.int .i64 r.x0, .string r.x1, .string r.x2, .string r.x3, .bool r.x4, .int .i64 r.x5, .int .i64 r.x6, .bool r.x7, .int .i64 r.x8, .int .i64 r.x9, .int .i64 r.x10, .int .i64 r.x11])).run Tryd.prog w = .ok true w := by
  have h := EqL.eq_LifeR r r w
  rw [(EqL.eqb_Life r r).2 rfl] at h
  exact h
theorem sendS_sa (now spi n : Int) (es : List Ent) : ∃ r : LifeR, (sendS now spi n es).1 = saC r := by
  unfold sendS
  split
  · exact ⟨_, rfl⟩
  · split
    · exact ⟨_, rfl⟩
    · split
      · exact ⟨_, rfl⟩
      · split
        · exact ⟨_, rfl⟩
        · split
          · exact ⟨_, rfl⟩
          · exact ⟨_, rfl⟩
theorem start2 {A B : (Nat → Prop) → World → Nat → List Ent → Prop} {w0 w w1 : World} {C0 : Nat → Nat} {gs gx : Nat} {e e' : List Ent} (hA : IsObj A) (hB : IsObj B) (h : Two A B w0 C0 gs gx w e e') (bn : Below w.heap.size w w1) (hs : w1.heap.size = w.heap.size + 1) : ∃ C1 : Nat → Nat, C1 w.heap.size = 0 ∧ (∀ k, k < w0.heap.size → C1 k = C0 k) ∧ Two A B w1 C1 gs gx w1 e e' ∧ ∀ w' f f', Two A B w1 C1 gs gx w' f f' → Two A B w0 C0 gs gx w' f f' := by
  obtain ⟨C, hC, a, b, k, hd⟩ := h
  have h0 := k.size
  refine ⟨fun k => if k < w.heap.size then C k else 0, if_neg (by omega), fun k hk => (if_pos (by omega)).trans (hC k hk), ⟨_, fun _ _ => rfl, hA.below (hA.mono a fun k hk z => ?_) bn, hB.below (hB.mono b fun k hk z => ?_) bn, Keep.refl _ _, ⟨(if_pos (Nat.lt_of_lt_of_le hd.lt h0)).trans ((hC _ hd.lt).trans hd.col), (hd.of k).keep bn⟩⟩, fun w' f f' ⟨D, hD, c, d, l, _⟩ => ?_⟩
  · have z2 := z.2
    rw [if_pos hk] at z2
    exact ⟨hk, z2⟩
  · have z2 := z.2
    rw [if_pos hk] at z2
    exact ⟨hk, z2⟩
  · refine ⟨D, fun k hk => ?_, c, d, (k.trans (Keep.of bn)).trans (l.mono fun i z hi => ?_), hd⟩
    · rw [hD k (by omega)]
      exact (if_pos (by omega)).trans (hC k hk)
    · refine ⟨hi, ?_⟩
      show (if i < w.heap.size then C i else 0) = 0
      rw [if_pos (by omega), hC i z.1]
      exact z.2

set_option maxRecDepth 100000 in
set_option maxHeartbeats 4000000 in
theorem step_send (w0 : World) (C0 : Nat → Nat) (gs gx k : Nat) (es : List Ent) (o : Op17R) (w : World) (T : Two CadF SadF w0 C0 gs gx w es es) (hA : IsObj CadF) (hB : IsObj SadF) (G : SadP.Good k es) (hk : k ≤ 1000) (fit : fitsOp o) (n1 : -9223372036854775808 ≤ o.x4) (g0 : (o.x0 == 0) = false) (g1 : (o.x0 == 1) = false) (g2 : (o.x0 == 2) = false) (g3 : (o.x0 == 3) = false) (g4 : (o.x0 == 4) = true) :
    Calls Tryd.prog 10 #[.pointer (some ⟨gs, 0, none⟩), .pointer (some ⟨gx, 0, none⟩), .agg (opCs o)] w fun er w' => er = .returned (.bool true) ∧ Two CadF SadF w0 C0 gs gx w' ((sendS o.x1 o.x2 o.x4 es).2.2.2) ((sendS o.x1 o.x2 o.x4 es).2.2.2) := by
  have len : es.length ≤ 1048576 := by have := G.few; omega
  have NW : NowOk o.x1 es := G.now fit.2.2.1 fit.2.2.2
  have RM : RoomOk o.x4 es := G.room hk n1 fit.2.1
  obtain ⟨r, hr⟩ := sendS_sa o.x1 o.x2 o.x4 es
  obtain ⟨X, hX⟩ : ∃ X, X = (sendS o.x1 o.x2 o.x4 es).2.2.2 := ⟨_, rfl⟩
  have rc : (sendS o.x1 o.x2 o.x4 es).1 = [.int .i64 r.x0, .string r.x1, .string r.x2, .string r.x3, .bool r.x4, .int .i64 r.x5] := hr
  obtain ⟨N, hN⟩ : ∃ N, N = (sendS o.x1 o.x2 o.x4 es).2.1 := ⟨_, rfl⟩
  obtain ⟨E, hE⟩ : ∃ E, E = (sendS o.x1 o.x2 o.x4 es).2.2.1 := ⟨_, rfl⟩
  have rn := hN.symm
  have re := hE.symm
  have CS : Hid (∀ W C V, Two CadF SadF W C gs gx V es es → Calls Tryd.prog 17 #[.pointer (some ⟨gs, 0, none⟩), .int .i64 o.x1, .int .i64 o.x2, .int .i64 o.x4] V fun er w' => er = .returned (.tuple #[.agg #[.int .i64 r.x0, .string r.x1, .string r.x2, .string r.x3, .bool r.x4, .int .i64 r.x5], .int .u64 ((N : Nat) : Int), .int .i64 ((E : Nat) : Int)]) ∧ Two CadF SadF W C gs gx w' X es) := Lib.hid (fun W C V hV => by
    have := Two.fst hA hB hV fun F g hg hF => csend_F F gs es o.x1 o.x2 o.x4 V g hg hF len NW RM
    rw [rc, rn, re, ← hX] at this
    exact this)
  have CX : Hid (∀ W C V, Two CadF SadF W C gs gx V X es → Calls Tryd.prog 27 #[.pointer (some ⟨gx, 0, none⟩), .int .i64 o.x1, .int .i64 o.x2, .int .i64 o.x4] V fun er w' => er = .returned (.tuple #[.agg #[.int .i64 r.x0, .string r.x1, .string r.x2, .string r.x3, .bool r.x4, .int .i64 r.x5], .int .u64 ((N : Nat) : Int), .int .i64 ((E : Nat) : Int)]) ∧ Two CadF SadF W C gs gx w' X X) := Lib.hid (fun W C V hV => by
    have := Two.snd hA hB hV fun F g hF => send_F F gx es o.x1 o.x2 o.x4 V g hF len NW RM
    rw [rc, rn, re, ← hX] at this
    exact this)
  rw [← hX]
  obtain ⟨C1, hb0, T1, back⟩ := T.start hA hB (.cells (opCs o) 36)
  have J : Blk (w.alloc (.cells (opCs o) 36)) w.heap.size 36 (opCs o) := Blk.new w _ _
  have ST : Hid (∀ V W C e1 e2, Two CadF SadF W C gs gx V e1 e2 → ∃ C1 : Nat → Nat, C1 V.heap.size = 0 ∧ (∀ k, k < W.heap.size → C1 k = C k) ∧ Two CadF SadF ((V.alloc (.cells #[.int .i64 0, .string ⟨#[]⟩, .string ⟨#[]⟩, .string ⟨#[]⟩, .bool false, .int .i64 0] 32)).setRow V.heap.size #[.int .i64 r.x0, .string r.x1, .string r.x2, .string r.x3, .bool r.x4, .int .i64 r.x5]) C1 gs gx ((V.alloc (.cells #[.int .i64 0, .string ⟨#[]⟩, .string ⟨#[]⟩, .string ⟨#[]⟩, .bool false, .int .i64 0] 32)).setRow V.heap.size #[.int .i64 r.x0, .string r.x1, .string r.x2, .string r.x3, .bool r.x4, .int .i64 r.x5]) e1 e2 ∧ ∀ w' f f', Two CadF SadF ((V.alloc (.cells #[.int .i64 0, .string ⟨#[]⟩, .string ⟨#[]⟩, .string ⟨#[]⟩, .bool false, .int .i64 0] 32)).setRow V.heap.size #[.int .i64 r.x0, .string r.x1, .string r.x2, .string r.x3, .bool r.x4, .int .i64 r.x5]) C1 gs gx w' f f' → Two CadF SadF W C gs gx w' f f') := Lib.hid fun V W C e1 e2 hV => start2 hA hB hV (Part.setRow_bel ((Below.refl V.heap.size V).alloc (Nat.le_refl _) _) (Nat.le_refl _) _) (by simp [World.setRow])
  have c0 : (w.alloc (.cells (opCs o) 36)).cell? ⟨w.heap.size, 0, none⟩ = some (.int .i64 o.x0) := J.cell 0
  have c1 : (w.alloc (.cells (opCs o) 36)).cell? ⟨w.heap.size, 1, none⟩ = some (.int .i64 o.x1) := J.cell 1
  have c2 : (w.alloc (.cells (opCs o) 36)).cell? ⟨w.heap.size, 2, none⟩ = some (.int .i64 o.x2) := J.cell 2
  have c4 : (w.alloc (.cells (opCs o) 36)).cell? ⟨w.heap.size, 4, none⟩ = some (.int .i64 o.x4) := J.cell 4
  have JJ := Lib.hid J
  have HB0 := Lib.hid hb0
  have TH := Lib.hid T1
  have BK := Lib.hid back
  have XE := Lib.hid hX
  have one : Hid (((#[.int .i64 r.x0, .string r.x1, .string r.x2, .string r.x3, .bool r.x4, .int .i64 r.x5] : Array Value)).all (·.oneCell') = true) := Lib.hid (by simp [Value.oneCell'])
  have SM := same_sa r
  have h2 : (((N : Nat) : Int) == ((N : Nat) : Int)) = true := by simp
  have h3 : (((E : Nat) : Int) == ((E : Nat) : Int)) = true := by simp
  clear T G fit T1 back J hb0 hA hB len NW RM hk n1 rc rn re hN hE hr hX
  go_enter Tryd.func10, Tryd.ntmps10
  go_wp2_with fail
  refine (CS.out _ _ _ TH.out).mono ?_
  rintro er w2 ⟨rfl, hT⟩
  obtain ⟨C2, z2, ag2, T2, bk2⟩ := ST.out w2 _ _ _ _ hT
  have K2 := Two.blk T2 (show Blk ((w2.alloc (.cells #[.int .i64 0, .string ⟨#[]⟩, .string ⟨#[]⟩, .string ⟨#[]⟩, .bool false, .int .i64 0] 32)).setRow w2.heap.size #[.int .i64 r.x0, .string r.x1, .string r.x2, .string r.x3, .bool r.x4, .int .i64 r.x5]) w.heap.size 36 (opCs o) from (setRow_other _ _ _ _ (by have := (hT.blk JJ.out HB0.out).lt; omega)).trans (Blk.alloc (hT.blk JJ.out HB0.out) _)) (by rw [ag2 _ JJ.out.lt]; exact HB0.out)
  have d1 : ((w2.alloc (.cells #[.int .i64 0, .string ⟨#[]⟩, .string ⟨#[]⟩, .string ⟨#[]⟩, .bool false, .int .i64 0] 32)).setRow w2.heap.size #[.int .i64 r.x0, .string r.x1, .string r.x2, .string r.x3, .bool r.x4, .int .i64 r.x5]).cell? ⟨w.heap.size, 1, none⟩ = some (.int .i64 o.x1) := K2.cell 1
  have d2 : ((w2.alloc (.cells #[.int .i64 0, .string ⟨#[]⟩, .string ⟨#[]⟩, .string ⟨#[]⟩, .bool false, .int .i64 0] 32)).setRow w2.heap.size #[.int .i64 r.x0, .string r.x1, .string r.x2, .string r.x3, .bool r.x4, .int .i64 r.x5]).cell? ⟨w.heap.size, 2, none⟩ = some (.int .i64 o.x2) := K2.cell 2
  have d4 : ((w2.alloc (.cells #[.int .i64 0, .string ⟨#[]⟩, .string ⟨#[]⟩, .string ⟨#[]⟩, .bool false, .int .i64 0] 32)).setRow w2.heap.size #[.int .i64 r.x0, .string r.x1, .string r.x2, .string r.x3, .bool r.x4, .int .i64 r.x5]).cell? ⟨w.heap.size, 4, none⟩ = some (.int .i64 o.x4) := K2.cell 4
  have J2 : Blk (w2.alloc (.cells #[.int .i64 0, .string ⟨#[]⟩, .string ⟨#[]⟩, .string ⟨#[]⟩, .bool false, .int .i64 0] 32)) w2.heap.size 32 #[.int .i64 0, .string ⟨#[]⟩, .string ⟨#[]⟩, .string ⟨#[]⟩, .bool false, .int .i64 0] := Blk.new w2 _ _
  have R2 := Lib.hid (setRow_heap _ _ _ #[.int .i64 r.x0, .string r.x1, .string r.x2, .string r.x3, .bool r.x4, .int .i64 r.x5] _ _ J2)
  have T2H := Lib.hid T2
  have Z2H := Lib.hid z2
  have BK2 := Lib.hid bk2
  clear hT K2 c1 c2 c4 c0 T2 z2 ag2 bk2
  go_wp2_with (refine wpList_store_row rfl 32 (.tmp 15) (.tmp 130) rfl w2.heap.size #[.int .i64 r.x0, .string r.x1, .string r.x2, .string r.x3, .bool r.x4, .int .i64 r.x5] rfl rfl 32 _ J2 (by kernel_rfl) (by kernel_rfl) one.out ?_)
  refine (CX.out _ _ _ T2H.out).mono ?_
  rintro er w3 ⟨rfl, hT⟩
  have J3 : Blk (w3.alloc (.cells #[.int .i64 0, .string ⟨#[]⟩, .string ⟨#[]⟩, .string ⟨#[]⟩, .bool false, .int .i64 0] 32)) w3.heap.size 32 #[.int .i64 0, .string ⟨#[]⟩, .string ⟨#[]⟩, .string ⟨#[]⟩, .bool false, .int .i64 0] := Blk.new w3 _ _
  have R3 := setRow_heap _ _ _ #[.int .i64 r.x0, .string r.x1, .string r.x2, .string r.x3, .bool r.x4, .int .i64 r.x5] _ _ J3
  have S3 : Blk ((w3.alloc (.cells #[.int .i64 0, .string ⟨#[]⟩, .string ⟨#[]⟩, .string ⟨#[]⟩, .bool false, .int .i64 0] 32)).setRow w3.heap.size #[.int .i64 r.x0, .string r.x1, .string r.x2, .string r.x3, .bool r.x4, .int .i64 r.x5]) w2.heap.size 32 #[.int .i64 r.x0, .string r.x1, .string r.x2, .string r.x3, .bool r.x4, .int .i64 r.x5] := (setRow_other _ _ _ _ (by have := (hT.blk R2.out Z2H.out).lt; omega)).trans (Blk.alloc (hT.blk R2.out Z2H.out) _)
  obtain ⟨C3, -, -, T3, bk3⟩ := ST.out w3 _ _ _ _ hT
  have FIN := Lib.hid (BK.out _ _ _ (BK2.out _ _ _ (bk3 _ _ _ T3)))
  have P2 : (loadVar 32 ⟨w2.heap.size, 0, none⟩).run Tryd.prog ((w3.alloc (.cells #[.int .i64 0, .string ⟨#[]⟩, .string ⟨#[]⟩, .string ⟨#[]⟩, .bool false, .int .i64 0] 32)).setRow w3.heap.size #[.int .i64 r.x0, .string r.x1, .string r.x2, .string r.x3, .bool r.x4, .int .i64 r.x5]) = .ok (.agg #[.int .i64 r.x0, .string r.x1, .string r.x2, .string r.x3, .bool r.x4, .int .i64 r.x5]) _ := Part.run_part _ w2.heap.size 0 32 [.int .i64 r.x0, .string r.x1, .string r.x2, .string r.x3, .bool r.x4, .int .i64 r.x5] _ Tryd.underlying32 rfl (by kernel_rfl) fun j v hj => by rw [Nat.zero_add, Blk.cell S3 j, ← Array.getElem?_toList]; exact hj
  have P3 : (loadVar 32 ⟨w3.heap.size, 0, none⟩).run Tryd.prog ((w3.alloc (.cells #[.int .i64 0, .string ⟨#[]⟩, .string ⟨#[]⟩, .string ⟨#[]⟩, .bool false, .int .i64 0] 32)).setRow w3.heap.size #[.int .i64 r.x0, .string r.x1, .string r.x2, .string r.x3, .bool r.x4, .int .i64 r.x5]) = .ok (.agg #[.int .i64 r.x0, .string r.x1, .string r.x2, .string r.x3, .bool r.x4, .int .i64 r.x5]) _ := Part.run_part _ w3.heap.size 0 32 [.int .i64 r.x0, .string r.x1, .string r.x2, .string r.x3, .bool r.x4, .int .i64 r.x5] _ Tryd.underlying32 rfl (by kernel_rfl) fun j v hj => by rw [Nat.zero_add, Blk.cell R3 j, ← Array.getElem?_toList]; exact hj
  clear hT R3 S3 T3 bk3 d1 d2 d4 J2
  go_wp2_with (first
    | (refine wpList_store_row rfl 32 (.tmp 18) (.tmp 142) rfl w3.heap.size #[.int .i64 r.x0, .string r.x1, .string r.x2, .string r.x3, .bool r.x4, .int .i64 r.x5] rfl rfl 32 _ J3 (by kernel_rfl) (by kernel_rfl) one.out ?_; clear J3)
    | (refine Part.wpList_load_part (by kernel_rfl) 32 (.tmp 15) rfl w2.heap.size 0 [.int .i64 r.x0, .string r.x1, .string r.x2, .string r.x3, .bool r.x4, .int .i64 r.x5] rfl P2 ?_)
    | (refine Part.wpList_load_part (by kernel_rfl) 32 (.tmp 18) rfl w3.heap.size 0 [.int .i64 r.x0, .string r.x1, .string r.x2, .string r.x3, .bool r.x4, .int .i64 r.x5] rfl P3 ?_))
  go_ret
  exact ⟨rfl, FIN.out⟩

set_option maxRecDepth 100000 in
set_option maxHeartbeats 4000000 in
theorem step_look (w0 : World) (C0 : Nat → Nat) (gs gx k : Nat) (es : List Ent) (o : Op17R) (w : World) (T : Two CadF SadF w0 C0 gs gx w es es) (hA : IsObj CadF) (hB : IsObj SadF) (G : SadP.Good k es) (hk : k ≤ 1000) (fit : fitsOp o) (n1 : -9223372036854775808 ≤ o.x4) (g0 : (o.x0 == 0) = false) (g1 : (o.x0 == 1) = false) (g2 : (o.x0 == 2) = false) (g3 : (o.x0 == 3) = false) (g4 : (o.x0 == 4) = false) (g5 : (o.x0 == 5) = true) :
    Calls Tryd.prog 10 #[.pointer (some ⟨gs, 0, none⟩), .pointer (some ⟨gx, 0, none⟩), .agg (opCs o)] w fun er w' => er = .returned (.bool true) ∧ Two CadF SadF w0 C0 gs gx w' (es) (es) := by
  have len : es.length ≤ 1048576 := by have := G.few; omega
  have NW : NowOk o.x1 es := G.now fit.2.2.1 fit.2.2.2
  have RM : RoomOk o.x4 es := G.room hk n1 fit.2.1
  obtain ⟨r, hr⟩ : ∃ r, r = (lookS o.x1 o.x2 o.x5 es).1 := ⟨_, rfl⟩
  have rc := hr.symm
  obtain ⟨X, hX⟩ : ∃ X, X = es := ⟨_, rfl⟩
  obtain ⟨N, hN⟩ : ∃ N, N = (lookS o.x1 o.x2 o.x5 es).2.1 := ⟨_, rfl⟩
  obtain ⟨E, hE⟩ : ∃ E, E = (lookS o.x1 o.x2 o.x5 es).2.2 := ⟨_, rfl⟩
  have rn := hN.symm
  have re := hE.symm
  have CS : Hid (∀ W C V, Two CadF SadF W C gs gx V es es → Calls Tryd.prog 21 #[.pointer (some ⟨gs, 0, none⟩), .int .i64 o.x1, .int .i64 o.x2, .int .i64 o.x5] V fun er w' => er = .returned (.tuple #[.agg #[.int .i64 r.x0, .string r.x1, .string r.x2, .string r.x3, .bool r.x4, .int .i64 r.x5, .int .i64 r.x6, .bool r.x7, .int .i64 r.x8, .int .i64 r.x9, .int .i64 r.x10, .int .i64 r.x11], .int .u64 ((N : Nat) : Int), .int .i64 ((E : Nat) : Int)]) ∧ Two CadF SadF W C gs gx w' X es) := Lib.hid (fun W C V hV => by
    have := reads_fst hA hB hV fun F h hg => clook_F F gs es o.x1 o.x2 o.x5 V h hg len NW
    rw [rc, rn, re] at this
    rw [hX]
    exact this)
  have CX : Hid (∀ W C V, Two CadF SadF W C gs gx V X es → Calls Tryd.prog 28 #[.pointer (some ⟨gx, 0, none⟩), .int .i64 o.x1, .int .i64 o.x2, .int .i64 o.x5] V fun er w' => er = .returned (.tuple #[.agg #[.int .i64 r.x0, .string r.x1, .string r.x2, .string r.x3, .bool r.x4, .int .i64 r.x5, .int .i64 r.x6, .bool r.x7, .int .i64 r.x8, .int .i64 r.x9, .int .i64 r.x10, .int .i64 r.x11], .int .u64 ((N : Nat) : Int), .int .i64 ((E : Nat) : Int)]) ∧ Two CadF SadF W C gs gx w' X X) := Lib.hid (fun W C V hV => by
    rw [hX] at hV ⊢
    have := reads_snd hA hB hV fun F h => look_F F gx es o.x1 o.x2 o.x5 V h len NW
    rw [rc, rn, re] at this
    exact this)
  obtain ⟨C1, hb0, T1, back⟩ := T.start hA hB (.cells (opCs o) 36)
  have J : Blk (w.alloc (.cells (opCs o) 36)) w.heap.size 36 (opCs o) := Blk.new w _ _
  have ST : Hid (∀ V W C e1 e2, Two CadF SadF W C gs gx V e1 e2 → ∃ C1 : Nat → Nat, C1 V.heap.size = 0 ∧ (∀ k, k < W.heap.size → C1 k = C k) ∧ Two CadF SadF ((V.alloc (.cells #[.int .i64 0, .string ⟨#[]⟩, .string ⟨#[]⟩, .string ⟨#[]⟩, .bool false, .int .i64 0, .int .i64 0, .bool false, .int .i64 0, .int .i64 0, .int .i64 0, .int .i64 0] 34)).setRow V.heap.size #[.int .i64 r.x0, .string r.x1, .string r.x2, .string r.x3, .bool r.x4, .int .i64 r.x5, .int .i64 r.x6, .bool r.x7, .int .i64 r.x8, .int .i64 r.x9, .int .i64 r.x10, .int .i64 r.x11]) C1 gs gx ((V.alloc (.cells #[.int .i64 0, .string ⟨#[]⟩, .string ⟨#[]⟩, .string ⟨#[]⟩, .bool false, .int .i64 0, .int .i64 0, .bool false, .int .i64 0, .int .i64 0, .int .i64 0, .int .i64 0] 34)).setRow V.heap.size #[.int .i64 r.x0, .string r.x1, .string r.x2, .string r.x3, .bool r.x4, .int .i64 r.x5, .int .i64 r.x6, .bool r.x7, .int .i64 r.x8, .int .i64 r.x9, .int .i64 r.x10, .int .i64 r.x11]) e1 e2 ∧ ∀ w' f f', Two CadF SadF ((V.alloc (.cells #[.int .i64 0, .string ⟨#[]⟩, .string ⟨#[]⟩, .string ⟨#[]⟩, .bool false, .int .i64 0, .int .i64 0, .bool false, .int .i64 0, .int .i64 0, .int .i64 0, .int .i64 0] 34)).setRow V.heap.size #[.int .i64 r.x0, .string r.x1, .string r.x2, .string r.x3, .bool r.x4, .int .i64 r.x5, .int .i64 r.x6, .bool r.x7, .int .i64 r.x8, .int .i64 r.x9, .int .i64 r.x10, .int .i64 r.x11]) C1 gs gx w' f f' → Two CadF SadF W C gs gx w' f f') := Lib.hid fun V W C e1 e2 hV => start2 hA hB hV (Part.setRow_bel ((Below.refl V.heap.size V).alloc (Nat.le_refl _) _) (Nat.le_refl _) _) (by simp [World.setRow])
  have c0 : (w.alloc (.cells (opCs o) 36)).cell? ⟨w.heap.size, 0, none⟩ = some (.int .i64 o.x0) := J.cell 0
  have c1 : (w.alloc (.cells (opCs o) 36)).cell? ⟨w.heap.size, 1, none⟩ = some (.int .i64 o.x1) := J.cell 1
  have c2 : (w.alloc (.cells (opCs o) 36)).cell? ⟨w.heap.size, 2, none⟩ = some (.int .i64 o.x2) := J.cell 2
  have c5 : (w.alloc (.cells (opCs o) 36)).cell? ⟨w.heap.size, 5, none⟩ = some (.int .i64 o.x5) := J.cell 5
  have JJ := Lib.hid J
  have HB0 := Lib.hid hb0
  have TH := Lib.hid T1
  have BK := Lib.hid back
  have XE := Lib.hid hX
  have one : Hid (((#[.int .i64 r.x0, .string r.x1, .string r.x2, .string r.x3, .bool r.x4, .int .i64 r.x5, .int .i64 r.x6, .bool r.x7, .int .i64 r.x8, .int .i64 r.x9, .int .i64 r.x10, .int .i64 r.x11] : Array Value)).all (·.oneCell') = true) := Lib.hid (by simp [Value.oneCell'])
  have SM := same_life r
  have h2 : (((N : Nat) : Int) == ((N : Nat) : Int)) = true := by simp
  have h3 : (((E : Nat) : Int) == ((E : Nat) : Int)) = true := by simp
  clear T G fit T1 back J hb0 hA hB len NW RM hk n1 rc rn re hN hE hr hX
  go_enter Tryd.func10, Tryd.ntmps10
  go_wp2_with fail
  refine (CS.out _ _ _ TH.out).mono ?_
  rintro er w2 ⟨rfl, hT⟩
  obtain ⟨C2, z2, ag2, T2, bk2⟩ := ST.out w2 _ _ _ _ hT
  have K2 := Two.blk T2 (show Blk ((w2.alloc (.cells #[.int .i64 0, .string ⟨#[]⟩, .string ⟨#[]⟩, .string ⟨#[]⟩, .bool false, .int .i64 0, .int .i64 0, .bool false, .int .i64 0, .int .i64 0, .int .i64 0, .int .i64 0] 34)).setRow w2.heap.size #[.int .i64 r.x0, .string r.x1, .string r.x2, .string r.x3, .bool r.x4, .int .i64 r.x5, .int .i64 r.x6, .bool r.x7, .int .i64 r.x8, .int .i64 r.x9, .int .i64 r.x10, .int .i64 r.x11]) w.heap.size 36 (opCs o) from (setRow_other _ _ _ _ (by have := (hT.blk JJ.out HB0.out).lt; omega)).trans (Blk.alloc (hT.blk JJ.out HB0.out) _)) (by rw [ag2 _ JJ.out.lt]; exact HB0.out)
  have d1 : ((w2.alloc (.cells #[.int .i64 0, .string ⟨#[]⟩, .string ⟨#[]⟩, .string ⟨#[]⟩, .bool false, .int .i64 0, .int .i64 0, .bool false, .int .i64 0, .int .i64 0, .int .i64 0, .int .i64 0] 34)).setRow w2.heap.size #[.int .i64 r.x0, .string r.x1, .string r.x2, .string r.x3, .bool r.x4, .int .i64 r.x5, .int .i64 r.x6, .bool r.x7, .int .i64 r.x8, .int .i64 r.x9, .int .i64 r.x10, .int .i64 r.x11]).cell? ⟨w.heap.size, 1, none⟩ = some (.int .i64 o.x1) := K2.cell 1
  have d2 : ((w2.alloc (.cells #[.int .i64 0, .string ⟨#[]⟩, .string ⟨#[]⟩, .string ⟨#[]⟩, .bool false, .int .i64 0, .int .i64 0, .bool false, .int .i64 0, .int .i64 0, .int .i64 0, .int .i64 0] 34)).setRow w2.heap.size #[.int .i64 r.x0, .string r.x1, .string r.x2, .string r.x3, .bool r.x4, .int .i64 r.x5, .int .i64 r.x6, .bool r.x7, .int .i64 r.x8, .int .i64 r.x9, .int .i64 r.x10, .int .i64 r.x11]).cell? ⟨w.heap.size, 2, none⟩ = some (.int .i64 o.x2) := K2.cell 2
  have d5 : ((w2.alloc (.cells #[.int .i64 0, .string ⟨#[]⟩, .string ⟨#[]⟩, .string ⟨#[]⟩, .bool false, .int .i64 0, .int .i64 0, .bool false, .int .i64 0, .int .i64 0, .int .i64 0, .int .i64 0] 34)).setRow w2.heap.size #[.int .i64 r.x0, .string r.x1, .string r.x2, .string r.x3, .bool r.x4, .int .i64 r.x5, .int .i64 r.x6, .bool r.x7, .int .i64 r.x8, .int .i64 r.x9, .int .i64 r.x10, .int .i64 r.x11]).cell? ⟨w.heap.size, 5, none⟩ = some (.int .i64 o.x5) := K2.cell 5
  have J2 : Blk (w2.alloc (.cells #[.int .i64 0, .string ⟨#[]⟩, .string ⟨#[]⟩, .string ⟨#[]⟩, .bool false, .int .i64 0, .int .i64 0, .bool false, .int .i64 0, .int .i64 0, .int .i64 0, .int .i64 0] 34)) w2.heap.size 34 #[.int .i64 0, .string ⟨#[]⟩, .string ⟨#[]⟩, .string ⟨#[]⟩, .bool false, .int .i64 0, .int .i64 0, .bool false, .int .i64 0, .int .i64 0, .int .i64 0, .int .i64 0] := Blk.new w2 _ _
  have R2 := Lib.hid (setRow_heap _ _ _ #[.int .i64 r.x0, .string r.x1, .string r.x2, .string r.x3, .bool r.x4, .int .i64 r.x5, .int .i64 r.x6, .bool r.x7, .int .i64 r.x8, .int .i64 r.x9, .int .i64 r.x10, .int .i64 r.x11] _ _ J2)
  have T2H := Lib.hid T2
  have Z2H := Lib.hid z2
  have BK2 := Lib.hid bk2
  clear hT K2 c1 c2 c5 c0 T2 z2 ag2 bk2
  go_wp2_with (refine wpList_store_row rfl 34 (.tmp 21) (.tmp 169) rfl w2.heap.size #[.int .i64 r.x0, .string r.x1, .string r.x2, .string r.x3, .bool r.x4, .int .i64 r.x5, .int .i64 r.x6, .bool r.x7, .int .i64 r.x8, .int .i64 r.x9, .int .i64 r.x10, .int .i64 r.x11] rfl rfl 34 _ J2 (by kernel_rfl) (by kernel_rfl) one.out ?_)
  refine (CX.out _ _ _ T2H.out).mono ?_
  rintro er w3 ⟨rfl, hT⟩
  have J3 : Blk (w3.alloc (.cells #[.int .i64 0, .string ⟨#[]⟩, .string ⟨#[]⟩, .string ⟨#[]⟩, .bool false, .int .i64 0, .int .i64 0, .bool false, .int .i64 0, .int .i64 0, .int .i64 0, .int .i64 0] 34)) w3.heap.size 34 #[.int .i64 0, .string ⟨#[]⟩, .string ⟨#[]⟩, .string ⟨#[]⟩, .bool false, .int .i64 0, .int .i64 0, .bool false, .int .i64 0, .int .i64 0, .int .i64 0, .int .i64 0] := Blk.new w3 _ _
  have R3 := setRow_heap _ _ _ #[.int .i64 r.x0, .string r.x1, .string r.x2, .string r.x3, .bool r.x4, .int .i64 r.x5, .int .i64 r.x6, .bool r.x7, .int .i64 r.x8, .int .i64 r.x9, .int .i64 r.x10, .int .i64 r.x11] _ _ J3
  have S3 : Blk ((w3.alloc (.cells #[.int .i64 0, .string ⟨#[]⟩, .string ⟨#[]⟩, .string ⟨#[]⟩, .bool false, .int .i64 0, .int .i64 0, .bool false, .int .i64 0, .int .i64 0, .int .i64 0, .int .i64 0] 34)).setRow w3.heap.size #[.int .i64 r.x0, .string r.x1, .string r.x2, .string r.x3, .bool r.x4, .int .i64 r.x5, .int .i64 r.x6, .bool r.x7, .int .i64 r.x8, .int .i64 r.x9, .int .i64 r.x10, .int .i64 r.x11]) w2.heap.size 34 #[.int .i64 r.x0, .string r.x1, .string r.x2, .string r.x3, .bool r.x4, .int .i64 r.x5, .int .i64 r.x6, .bool r.x7, .int .i64 r.x8, .int .i64 r.x9, .int .i64 r.x10, .int .i64 r.x11] := (setRow_other _ _ _ _ (by have := (hT.blk R2.out Z2H.out).lt; omega)).trans (Blk.alloc (hT.blk R2.out Z2H.out) _)
  obtain ⟨C3, -, -, T3, bk3⟩ := ST.out w3 _ _ _ _ hT
  have FIN := Lib.hid (BK.out _ _ _ (BK2.out _ _ _ (bk3 _ _ _ T3)))
  have P2 : (loadVar 34 ⟨w2.heap.size, 0, none⟩).run Tryd.prog ((w3.alloc (.cells #[.int .i64 0, .string ⟨#[]⟩, .string ⟨#[]⟩, .string ⟨#[]⟩, .bool false, .int .i64 0, .int .i64 0, .bool false, .int .i64 0, .int .i64 0, .int .i64 0, .int .i64 0] 34)).setRow w3.heap.size #[.int .i64 r.x0, .string r.x1, .string r.x2, .string r.x3, .bool r.x4, .int .i64 r.x5, .int .i64 r.x6, .bool r.x7, .int .i64 r.x8, .int .i64 r.x9, .int .i64 r.x10, .int .i64 r.x11]) = .ok (.agg #[.int .i64 r.x0, .string r.x1, .string r.x2, .string r.x3, .bool r.x4, .int .i64 r.x5, .int .i64 r.x6, .bool r.x7, .int .i64 r.x8, .int .i64 r.x9, .int .i64 r.x10, .int .i64 r.x11]) _ := Part.run_part _ w2.heap.size 0 34 [.int .i64 r.x0, .string r.x1, .string r.x2, .string r.x3, .bool r.x4, .int .i64 r.x5, .int .i64 r.x6, .bool r.x7, .int .i64 r.x8, .int .i64 r.x9, .int .i64 r.x10, .int .i64 r.x11] _ Tryd.underlying34 rfl (by kernel_rfl) fun j v hj => by rw [Nat.zero_add, Blk.cell S3 j, ← Array.getElem?_toList]; exact hj
  have P3 : (loadVar 34 ⟨w3.heap.size, 0, none⟩).run Tryd.prog ((w3.alloc (.cells #[.int .i64 0, .string ⟨#[]⟩, .string ⟨#[]⟩, .string ⟨#[]⟩, .bool false, .int .i64 0, .int .i64 0, .bool false, .int .i64 0, .int .i64 0, .int .i64 0, .int .i64 0] 34)).setRow w3.heap.size #[.int .i64 r.x0, .string r.x1, .string r.x2, .string r.x3, .bool r.x4, .int .i64 r.x5, .int .i64 r.x6, .bool r.x7, .int .i64 r.x8, .int .i64 r.x9, .int .i64 r.x10, .int .i64 r.x11]) = .ok (.agg #[.int .i64 r.x0, .string r.x1, .string r.x2, .string r.x3, .bool r.x4, .int .i64 r.x5, .int .i64 r.x6, .bool r.x7, .int .i64 r.x8, .int .i64 r.x9, .int .i64 r.x10, .int .i64 r.x11]) _ := Part.run_part _ w3.heap.size 0 34 [.int .i64 r.x0, .string r.x1, .string r.x2, .string r.x3, .bool r.x4, .int .i64 r.x5, .int .i64 r.x6, .bool r.x7, .int .i64 r.x8, .int .i64 r.x9, .int .i64 r.x10, .int .i64 r.x11] _ Tryd.underlying34 rfl (by kernel_rfl) fun j v hj => by rw [Nat.zero_add, Blk.cell R3 j, ← Array.getElem?_toList]; exact hj
  clear hT R3 S3 T3 bk3 d1 d2 d5 J2
  go_wp2_with (first
    | (refine wpList_store_row rfl 34 (.tmp 24) (.tmp 181) rfl w3.heap.size #[.int .i64 r.x0, .string r.x1, .string r.x2, .string r.x3, .bool r.x4, .int .i64 r.x5, .int .i64 r.x6, .bool r.x7, .int .i64 r.x8, .int .i64 r.x9, .int .i64 r.x10, .int .i64 r.x11] rfl rfl 34 _ J3 (by kernel_rfl) (by kernel_rfl) one.out ?_; clear J3)
    | (refine Part.wpList_load_part (by kernel_rfl) 34 (.tmp 21) rfl w2.heap.size 0 [.int .i64 r.x0, .string r.x1, .string r.x2, .string r.x3, .bool r.x4, .int .i64 r.x5, .int .i64 r.x6, .bool r.x7, .int .i64 r.x8, .int .i64 r.x9, .int .i64 r.x10, .int .i64 r.x11] rfl P2 ?_)
    | (refine Part.wpList_load_part (by kernel_rfl) 34 (.tmp 24) rfl w3.heap.size 0 [.int .i64 r.x0, .string r.x1, .string r.x2, .string r.x3, .bool r.x4, .int .i64 r.x5, .int .i64 r.x6, .bool r.x7, .int .i64 r.x8, .int .i64 r.x9, .int .i64 r.x10, .int .i64 r.x11] rfl P3 ?_))
  go_ret
  exact ⟨rfl, by have := FIN.out; rw [XE.out] at this; exact this⟩
end Go.Proofs.YtppnkkpjfjhfkaaDoor.Step17w

