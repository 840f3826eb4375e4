/- JoinSplits' walk, given Split's contract and a joiner's. -/
import Derived.Test.YtnpggkpcadefjaaDoorM21
import Derived.Test.YtnpggkpcadefjaaDoorM17
import Derived.Test.YtnpggkpcadefjaaDoorSame
import Derived.Test.YtnpggkpcadefjaaDoorStore
import Derived.Test.YtnpggkpcadefjaaDoorM08
import Derived.Test.YtnpggkpcadefjaaDoorM02
import Derived.Test.YtnpggkpcadefjaaDoorArgs20
set_option linter.unusedVariables false
set_option maxRecDepth 100000
namespace Go.Proofs.YtnpggkpcadefjaaDoor.LawSplits20
open Go.RowKit Go.Proofs.YtnpggkpcadefjaaDoor.Sums Go.Proofs.YtnpggkpcadefjaaDoor.Mem Go.Proofs.YtnpggkpcadefjaaDoor.Blk Go.Proofs.YtnpggkpcadefjaaDoor.Pkt Go.Proofs.YtnpggkpcadefjaaDoor.Check Go.Proofs.YtnpggkpcadefjaaDoor.RowN Go.Proofs.YtnpggkpcadefjaaDoor.Obj Go.Proofs.YtnpggkpcadefjaaDoor.SplM Go.Proofs.YtnpggkpcadefjaaDoor.JoiM Go.Proofs.YtnpggkpcadefjaaDoor.JoiS Go.Proofs.YtnpggkpcadefjaaDoor.JoiP Go.Proofs.YtnpggkpcadefjaaDoor.JoiA Go.Proofs.YtnpggkpcadefjaaDoor.JoiR Go.Proofs.YtnpggkpcadefjaaDoor.SplP Go.Proofs.YtnpggkpcadefjaaDoor.Errno Go.Proofs.YtnpggkpcadefjaaDoor.Same
variable {JA : (Nat → Prop) → World → Nat → JSt → Prop}
/-- A row of numbers that lies there. -/
def IntsAt (w : World) (B : Nat) (A : Option Addr) (n : Nat) (l : List Int) : Prop := l.length = n ∧ ∀ i v, l[i]? = some v → (-9223372036854775808 ≤ v ∧ v ≤ 9223372036854775807) ∧ ∃ b o, A = some ⟨b, o, none⟩ ∧ b < B ∧ w.cell? ⟨b, o + i, none⟩ = some (.int .i64 v)
def smallB (p q : Pkt) (n m k : Nat) : Bool := decide (p.src.size + p.dst.size + p.opt.size + q.src.size + q.dst.size + q.opt.size ≤ 300) && (decide (n + m ≤ 3000) && decide (k ≤ 200))
set_option maxHeartbeats 2000000 in
theorem splits_big (p q : Pkt) (A A' O : Option Addr) (n c n' c' no co : Nat) (x : Int) (w : World) (h1 : p.src.size ≤ 140737488355328) (h2 : p.dst.size ≤ 140737488355328) (h3 : p.opt.size ≤ 140737488355328) (h4 : n ≤ 140737488355328) (k1 : q.src.size ≤ 140737488355328) (k2 : q.dst.size ≤ 140737488355328) (k3 : q.opt.size ≤ 140737488355328) (k4 : n' ≤ 140737488355328) (hb : smallB p q n n' no = false) :
    Calls Tryd.prog 4 #[val p (.slice A n c), .int .i64 x, .slice O no co, val q (.slice A' n' c')] w fun e w' => e = .returned (.bool true) ∧ Below w.heap.size w w' := by
  have B0 := Lib.hid (((Below.refl w.heap.size w).alloc (Nat.le_refl _) (.cells #[.int .i64 p.tos, .int .i64 p.id, .int .i64 p.ttl, .int .i64 p.proto, .bool p.df, .bool p.mf, .int .i64 p.off, .string p.src, .string p.dst, .string p.opt, .slice A n c] 32)).alloc (by simp) (.cells #[.int .i64 q.tos, .int .i64 q.id, .int .i64 q.ttl, .int .i64 q.proto, .bool q.df, .bool q.mf, .int .i64 q.off, .string q.src, .string q.dst, .string q.opt, .slice A' n' c'] 32))
  unfold smallB at hb
  unfold val
  by_cases q1 : p.src.size + p.dst.size + p.opt.size + q.src.size + q.dst.size + q.opt.size ≤ 300
  · by_cases q2 : n + n' ≤ 3000
    · have q3 : ¬ no ≤ 200 := by
        rw [decide_eq_true q1, decide_eq_true q2, Bool.true_and, Bool.true_and] at hb
        exact of_decide_eq_false hb
      clear hb
      have q3' : 200 < no := by omega
      go_enter Tryd.func4, Tryd.ntmps4
      go_wp2_with fail
      all_goals go_ret
      all_goals exact ⟨rfl, B0.out⟩
    · clear hb
      have q2' : 3000 < n + n' := by omega
      go_enter Tryd.func4, Tryd.ntmps4
      go_wp2_with fail
      all_goals go_ret
      all_goals exact ⟨rfl, B0.out⟩
  · clear hb
    have q1' : 300 < p.src.size + p.dst.size + p.opt.size + q.src.size + q.dst.size + q.opt.size := by omega
    go_enter Tryd.func4, Tryd.ntmps4
    go_wp2_with fail
    all_goals go_ret
    all_goals exact ⟨rfl, B0.out⟩
end Go.Proofs.YtnpggkpcadefjaaDoor.LawSplits20

/- JoinSplits' walk, given Split's contract and a joiner's: the whole. -/
set_option linter.unusedVariables false
set_option maxRecDepth 100000
namespace Go.Proofs.YtnpggkpcadefjaaDoor.LawSplits21
open Go.RowKit Go.Proofs.YtnpggkpcadefjaaDoor.Sums Go.Proofs.YtnpggkpcadefjaaDoor.Mem Go.Proofs.YtnpggkpcadefjaaDoor.Blk Go.Proofs.YtnpggkpcadefjaaDoor.Pkt Go.Proofs.YtnpggkpcadefjaaDoor.Check Go.Proofs.YtnpggkpcadefjaaDoor.RowN Go.Proofs.YtnpggkpcadefjaaDoor.Obj Go.Proofs.YtnpggkpcadefjaaDoor.SplM Go.Proofs.YtnpggkpcadefjaaDoor.JoiM Go.Proofs.YtnpggkpcadefjaaDoor.JoiS Go.Proofs.YtnpggkpcadefjaaDoor.JoiP Go.Proofs.YtnpggkpcadefjaaDoor.JoiA Go.Proofs.YtnpggkpcadefjaaDoor.JoiR Go.Proofs.YtnpggkpcadefjaaDoor.SplP Go.Proofs.YtnpggkpcadefjaaDoor.Errno Go.Proofs.YtnpggkpcadefjaaDoor.Same Go.Proofs.YtnpggkpcadefjaaDoor.LawSplits20
variable {JA : (Nat → Prop) → World → Nat → JSt → Prop}

/-- A store whose run is known. -/
theorem wpList_store_run {ops : Array Oper} {rest : List Oper} {o : Oper} {a : Act} {w w' : World} {Q : Exit → Act → World → Prop} (hgd : o.guard = none) (ty : TypeId) (x y : Operand) (ho : o.op = .store ty x y) (ad : Addr) (v : Value) (hx : a.eval x = .pointer (some ad)) (hy : a.eval y = v)
    (hr : (storeVar ty ad v).run Tryd.prog w = .ok () w') (h : wpList Tryd.prog ops Q rest (a.put o.dst undef) w') : wpList Tryd.prog ops Q (o :: rest) a w :=
  wpList_plain hgd fun _ hK => by
    unfold Oper.wp execOp
    simp only [ho, hx, hy, Instr.storeAt, Instr.sureAddr, Sem.run_bind, Sem.run_pure, Result.andThen_ok, hr]
    exact hK _ _ h
/-- What lies foreign to it may be written. -/
theorem Solo.write {X : (Nat → Prop) → World → Prop} {P : Nat → Prop} {w w' : World} (o : IsObj X) (h : Solo X P w) (hs : w'.heap.size = w.heap.size) (hw : ∀ k, k < w.heap.size → ¬ P k → w'.heap[k]? = w.heap[k]?) : Solo X P w' := by
  obtain ⟨F, h1, h2, h3⟩ := h
  exact ⟨F, o.keep h1 fun k hk nf => hw k hk fun z => nf (h3 k z), fun k z => by rw [hs]; exact h2 k z, h3⟩
/-- Which pieces have come. -/
def flags (N : Nat) (seen : List Nat) : Array Value := ((List.range N).map fun i => Value.bool (decide (i ∈ seen))).toArray
theorem flags_size (N : Nat) (seen : List Nat) : (flags N seen).size = N := by simp [flags]
theorem flags_at {N : Nat} {seen : List Nat} {i : Nat} (h : i < N) : (flags N seen)[i]? = some (.bool (decide (i ∈ seen))) := by
  simp [flags, h]
theorem flags_set {N : Nat} {seen seen' : List Nat} {a : Nat} (ha : a ∈ seen') (h : ∀ i, i ∈ seen' ↔ i ∈ seen ∨ i = a) : (flags N seen).setIfInBounds a (.bool true) = flags N seen' := by
  apply Array.ext_getElem?
  intro j
  rw [Array.getElem?_setIfInBounds, flags_size]
  by_cases q : a = j
  · subst q
    rw [if_pos rfl]
    by_cases q2 : a < N
    · rw [if_pos q2, flags_at q2, decide_eq_true ha]
    · rw [if_neg q2, Array.getElem?_eq_none (by rw [flags_size]; omega)]
  · rw [if_neg q]
    by_cases q2 : j < N
    · rw [flags_at q2, flags_at q2]
      congr 2
      exact decide_eq_decide.2 ⟨fun z => (h j).2 (.inl z), fun z => ((h j).1 z).resolve_right fun e => q e.symm⟩
    · rw [Array.getElem?_eq_none (by rw [flags_size]; omega), Array.getElem?_eq_none (by rw [flags_size]; omega)]
theorem holds_row {w : World} {B n c N G : Nat} {A : Option Addr} {l : List Int} {seen : List Nat} (h : Holds w B A n c l) (K : Blk w G 4 (flags N seen)) (X : Array Value) : Holds (w.setRow G X) B A n c l := by
  refine ⟨h.1, h.2.1, h.2.2.1, h.2.2.2.1, fun hn => ?_⟩
  obtain ⟨b, o, e, hb, hc⟩ := h.2.2.2.2 hn
  refine ⟨b, o, e, hb, fun j z hz => ?_⟩
  have c1 := hc j z hz
  have ne : b ≠ G := by
    intro e
    subst e
    rw [K.cell] at c1
    by_cases q : o + j < N
    · rw [flags_at q] at c1
      cases c1
    · rw [Array.getElem?_eq_none (by rw [flags_size]; omega)] at c1
      cases c1
  exact (World.cell?_of_block (w := w) (a := ⟨b, o + j, none⟩) (setRow_other w G b X ne)).trans c1
theorem made_b (n : Nat) : madeCells #[.bool false] n = flags n [] := by
  apply Array.ext_getElem?
  intro i
  by_cases q : i < n
  · rw [flags_at q]
    simp [madeCells, q, Nat.mod_one]
  · rw [Array.getElem?_eq_none (show (madeCells #[.bool false] n).size ≤ i by simp [madeCells]; omega), Array.getElem?_eq_none (by rw [flags_size]; omega)]
theorem make_b (n : Nat) (hn : n ≤ 1048576) (w : World) : (Instr.makeSlice 48 (.int .i64 (n : Int)) (.int .i64 (n : Int))).run Tryd.prog w = .ok (.slice (some ⟨w.heap.size, 0, none⟩) n n) (w.alloc (.cells (flags n []) 4)) := by
  have h : (Tryd.prog.info? 4).map (fun i => (i.zero, i.size, i.bytes)) = some (some (.bool false), 1, 1) := by kernel_rfl
  obtain ⟨i, hi, hz⟩ := Option.map_eq_some_iff.1 h
  simp only [Prod.mk.injEq] at hz
  obtain ⟨hz, hsz, hby⟩ := hz
  have hr := run_make (P := Tryd.prog) w 48 4 i (.bool false) Tryd.underlying48 hi hz .i64 .i64 (n : Int) (n : Int) (by omega) (by omega) (by rw [hby]; omega) (by omega)
  rw [Int.toNat_natCast, hsz, Nat.mul_one] at hr
  rw [← made_b]
  exact hr
theorem fill_p {W : World} {g : Nat} {p : Pkt} {D : Value} (K : Blk W g 32 (pcCells p D).toArray) : ∃ w1 w2, (storeVar 3 ⟨g, 6, none⟩ (.int .i64 0)).run Tryd.prog W = .ok () w1 ∧ (storeVar 4 ⟨g, 5, none⟩ (.bool false)).run Tryd.prog w1 = .ok () w2 ∧ Blk w2 g 32 (pcCells { p with off := 0, mf := false } D).toArray ∧ w2.heap.size = W.heap.size ∧ Keep (fun k => k ≠ g) W w2 := by
  have a1 : Blk (W.setRow g (pcCells { p with off := 0 } D).toArray) g 32 (pcCells { p with off := 0 } D).toArray := setRow_heap _ _ _ _ _ _ K
  have a2 : Blk ((W.setRow g (pcCells { p with off := 0 } D).toArray).setRow g (pcCells { p with off := 0, mf := false } D).toArray) g 32 (pcCells { p with off := 0, mf := false } D).toArray := setRow_heap _ _ _ _ _ _ a1
  exact ⟨_, _, Store.run_store_one K (by simp [pcCells]) (by kernel_rfl) rfl _ rfl rfl, Store.run_store_one a1 (by simp [pcCells]) (by kernel_rfl) rfl _ rfl rfl, a2, by simp [World.setRow], (Keep.row _ _ _ (fun z => z rfl)).trans (Keep.row _ _ _ (fun z => z rfl))⟩
set_option maxHeartbeats 2000000 in
theorem splits_any (HS : SplitSpec) (S : JoinSpec JA) (p q : Pkt) (A A' O : Option Addr) (n c n' c' no co B : Nat) (l l' lo : List Int) (x : Int) (w : World) (hg : Handle w) (h : Holds w B A n c l) (hB : B ≤ w.heap.size) (hq : Holds w B A' n' c' l') (hO : no ≤ 200 → IntsAt w B O no lo) (hx : -9223372036854775808 ≤ x) (hx2 : x ≤ 9223372036854775807) (hb : smallB p q n n' no = true) :
    Calls Tryd.prog 4 #[val p (.slice A n c), .int .i64 x, .slice O no co, val q (.slice A' n' c')] w fun e w' => e = .returned (.bool true) ∧ Below w.heap.size w w' := by
  have B0 := ((Below.refl w.heap.size w).alloc (Nat.le_refl _) (.cells #[.int .i64 p.tos, .int .i64 p.id, .int .i64 p.ttl, .int .i64 p.proto, .bool p.df, .bool p.mf, .int .i64 p.off, .string p.src, .string p.dst, .string p.opt, .slice A n c] 32)).alloc (by simp) (.cells #[.int .i64 q.tos, .int .i64 q.id, .int .i64 q.ttl, .int .i64 q.proto, .bool q.df, .bool q.mf, .int .i64 q.off, .string q.src, .string q.dst, .string q.opt, .slice A' n' c'] 32)
  have K0 : Blk ((w.alloc (.cells #[.int .i64 p.tos, .int .i64 p.id, .int .i64 p.ttl, .int .i64 p.proto, .bool p.df, .bool p.mf, .int .i64 p.off, .string p.src, .string p.dst, .string p.opt, .slice A n c] 32)).alloc (.cells #[.int .i64 q.tos, .int .i64 q.id, .int .i64 q.ttl, .int .i64 q.proto, .bool q.df, .bool q.mf, .int .i64 q.off, .string q.src, .string q.dst, .string q.opt, .slice A' n' c'] 32)) w.heap.size 32 (pcCells p (.slice A n c)).toArray := Blk.alloc (Blk.new w 32 #[.int .i64 p.tos, .int .i64 p.id, .int .i64 p.ttl, .int .i64 p.proto, .bool p.df, .bool p.mf, .int .i64 p.off, .string p.src, .string p.dst, .string p.opt, .slice A n c]) _
  have J0 : Blk ((w.alloc (.cells #[.int .i64 p.tos, .int .i64 p.id, .int .i64 p.ttl, .int .i64 p.proto, .bool p.df, .bool p.mf, .int .i64 p.off, .string p.src, .string p.dst, .string p.opt, .slice A n c] 32)).alloc (.cells #[.int .i64 q.tos, .int .i64 q.id, .int .i64 q.ttl, .int .i64 q.proto, .bool q.df, .bool q.mf, .int .i64 q.off, .string q.src, .string q.dst, .string q.opt, .slice A' n' c'] 32)) (w.heap.size + 1) 32 (pcCells q (.slice A' n' c')).toArray := by
    have := Blk.new (w.alloc (.cells #[.int .i64 p.tos, .int .i64 p.id, .int .i64 p.ttl, .int .i64 p.proto, .bool p.df, .bool p.mf, .int .i64 p.off, .string p.src, .string p.dst, .string p.opt, .slice A n c] 32)) 32 #[.int .i64 q.tos, .int .i64 q.id, .int .i64 q.ttl, .int .i64 q.proto, .bool q.df, .bool q.mf, .int .i64 q.off, .string q.src, .string q.dst, .string q.opt, .slice A' n' c']
    rw [show (w.alloc (.cells #[.int .i64 p.tos, .int .i64 p.id, .int .i64 p.ttl, .int .i64 p.proto, .bool p.df, .bool p.mf, .int .i64 p.off, .string p.src, .string p.dst, .string p.opt, .slice A n c] 32)).heap.size = w.heap.size + 1 by simp] at this
    exact this
  obtain ⟨w1, w2, r1, r2, t1, z2, kp⟩ := fill_p K0
  have R1 := Lib.hid r1
  have R2 := Lib.hid r2
  have K2 := Lib.hid t1
  have J2 := Lib.hid (show Blk w2 (w.heap.size + 1) 32 (pcCells q (.slice A' n' c')).toArray from (kp.block _ (by show w.heap.size + 1 ≠ w.heap.size; omega) J0.lt).trans J0)
  have B2 := Lib.hid (B0.trans (kp.below B0.size fun k hk => by show k ≠ w.heap.size; omega))
  have SM : p.src.size + p.dst.size + p.opt.size + q.src.size + q.dst.size + q.opt.size ≤ 300 ∧ n + n' ≤ 3000 ∧ no ≤ 200 := by
    unfold smallB at hb
    rw [Bool.and_eq_true, Bool.and_eq_true, decide_eq_true_eq, decide_eq_true_eq, decide_eq_true_eq] at hb
    exact hb
  obtain ⟨m1, m2, m3⟩ := SM
  have HO := Lib.hid (hO m3)
  have MM := Lib.hid (And.intro m1 (And.intro m2 m3))
  have GH : Hid (∀ W, Below w.heap.size w W → Handle W) := Lib.hid fun W hW => hg.keep hW
  have HH : Hid (∀ W, Below w.heap.size w W → Holds W B A n c l) := Lib.hid fun W hW => h.below (hW.mono hB)
  have HQ : Hid (∀ W, Below w.heap.size w W → Holds W B A' n' c' l') := Lib.hid fun W hW => hq.below (hW.mono hB)
  have HBB := Lib.hid hB
  have HB0 := Lib.hid (show HB < w.heap.size from World.block_lt_of_cell? w _ hg)
  have SC := Lib.hid (HS { p with off := 0, mf := false } A n c B l x w2 (GH.out w2 B2.out) (HH.out w2 B2.out) (Nat.le_trans hB B2.out.size) (by show p.opt.size ≤ 10000; omega) (by omega) hx hx2)
  have AW := Lib.hid (fun W h => awake_any S W h)
  obtain ⟨⟨er, ps⟩, hR⟩ : ∃ R, splitR { p with off := 0, mf := false } l x = R := ⟨_, rfl⟩
  rw [hR] at SC
  have HR := Lib.hid hR
  unfold val at SC ⊢
  clear r1 r2 t1 z2 kp B0 K0 J0 hb hO hg h hq hR
  go_enter Tryd.func4, Tryd.ntmps4
  go_wp2_with (first
    | (refine Store.at_store 3 (.tmp 59) (.const (.int .i64 0)) ?_ ?_; exact rfl; refine wpList_store_run rfl 3 (.tmp 59) (.const (.int .i64 0)) rfl ⟨w.heap.size, 6, none⟩ (.int .i64 0) rfl rfl R1.out ?_)
    | (refine Store.at_store 4 (.tmp 60) (.const (.bool false)) ?_ ?_; exact rfl; refine wpList_store_run rfl 4 (.tmp 60) (.const (.bool false)) rfl ⟨w.heap.size, 5, none⟩ (.bool false) rfl rfl R2.out ?_)
    | (refine Store.at_load 32 (.tmp 4) ?_ ?_; exact rfl; refine Loads.wpList_load_w rfl 32 (.tmp 4) rfl w.heap.size rfl 32 _ (0, 0) _ (K2.out) Tryd.underlying32 rfl (by kernel_rfl) ?_))
  refine SC.out.mono ?_
  rintro e w3 ⟨⟨v, rfl, hp⟩, hb⟩
  have P3 := Lib.hid hp
  obtain ⟨A3, c3, rfl, -⟩ := hp
  have B3 := Lib.hid (B2.out.trans (hb.mono B2.out.size))
  have K3 := Lib.hid (K2.out.below hb K2.out.lt)
  have J3 := Lib.hid (J2.out.below hb J2.out.lt)
  clear hb SC K2 J2 B2 R1 R2 hx hx2
  obtain ⟨N, hN⟩ : ∃ N, ps.length = N := ⟨_, rfl⟩
  have HN := Lib.hid hN
  rw [hN]
  clear hN
  by_cases e0 : er ≠ 0
  · have g0 : (er != 0) = true := by simpa using e0
    clear e0
    go_wp2_with fail
    refine (AW.out w3 (GH.out w3 B3.out)).mono ?_
    rintro e w4 ⟨rfl, hb⟩
    have B4 := Lib.hid (B3.out.trans (hb.mono B3.out.size))
    clear hb AW
    go_wp2_with fail
    go_ret
    exact ⟨rfl, B4.out⟩
  have e0' : er = 0 := Classical.not_not.1 e0
  subst e0'
  clear e0
  by_cases n2 : N < 2
  · have g1 : decide (N < 2) = true := decide_eq_true n2
    have g1' : decide ((N : Int) < 2) = true := decide_eq_true (by omega)
    clear n2
    go_wp2_with fail
    refine (AW.out w3 (GH.out w3 B3.out)).mono ?_
    rintro e w4 ⟨rfl, hb⟩
    have B4 := Lib.hid (B3.out.trans (hb.mono B3.out.size))
    clear hb AW
    go_wp2_with fail
    go_ret
    exact ⟨rfl, B4.out⟩
  have g1 : decide (N < 2) = false := decide_eq_false n2
  have g1' : decide ((N : Int) < 2) = false := decide_eq_false (by omega)
  by_cases n60 : 60 < N
  · have g2 : decide (60 < N) = true := decide_eq_true n60
    have g2' : decide ((60 : Int) < (N : Int)) = true := decide_eq_true (by omega)
    clear n60
    go_wp2_with fail
    refine (AW.out w3 (GH.out w3 B3.out)).mono ?_
    rintro e w4 ⟨rfl, hb⟩
    have B4 := Lib.hid (B3.out.trans (hb.mono B3.out.size))
    clear hb AW
    go_wp2_with fail
    go_ret
    exact ⟨rfl, B4.out⟩
  have g2 : decide (60 < N) = false := decide_eq_false n60
  have g2' : decide ((60 : Int) < (N : Int)) = false := decide_eq_false (by omega)
  have RN := Lib.hid (run_of HR.out rfl rfl (by have := HN.out; omega) (by have := HN.out; omega))
  have NC := Lib.hid (S.solo_new w3)
  have HBL := Lib.hid (show HB < w3.heap.size by have := HB0.out; have := B3.out.size; omega)
  have N2 := Lib.hid (And.intro n2 n60)
  clear n2 n60 HR
  go_wp2_with fail
  refine NC.out.mono ?_
  rintro e w4 ⟨⟨g, rfl, hs⟩, hb⟩
  have S4 := Lib.hid hs
  have B4 := Lib.hid hb
  have mk := make_b N (by have := N2.out; omega) w4
  have XB := (Below.refl w4.heap.size w4).alloc (Nat.le_refl _) (.cells (flags N []) 4)
  obtain ⟨G, hG⟩ : ∃ G, w4.heap.size = G := ⟨_, rfl⟩
  have S5 := Lib.hid (Solo.below (P' := fun k => k < w3.heap.size ∨ k = G) (S.obj g []) S4.out XB fun k z => z.imp id fun e => by subst e; subst hG; exact ⟨Nat.le_refl _, by simp⟩)
  have F5 := Lib.hid (Blk.new w4 4 (flags N []))
  have B5 := Lib.hid (B4.out.trans (XB.mono B4.out.size))
  have GG := Lib.hid (show w3.heap.size ≤ G by have := B4.out.size; omega)
  rw [hG] at F5 mk
  have SG := Lib.hid hG
  obtain ⟨o, ho, hoq⟩ : ∃ o : Frag, o.1.id ≠ p.id ∧ (q.id ≠ p.id → o = (q, l')) := by
    by_cases e : q.id = p.id
    · exact ⟨({ Pkt.zero with id := p.id + 1 }, []), by show p.id + 1 ≠ p.id; omega, fun z => absurd e z⟩
    · exact ⟨(q, l'), e, fun _ => rfl⟩
  have OID := Lib.hid ho
  have OQ := Lib.hid hoq
  obtain ⟨tot, htot⟩ : ∃ tot, no + N = tot := ⟨_, rfl⟩
  have TT := Lib.hid htot
  have tb : tot ≤ 300 := by have := N2.out; have := MM.out; omega
  have f0 : IntKind.i64.wrap ((no : Int) + (N : Int)) = (tot : Int) := by rw [IntWalk.i64_in _ (by omega)]; omega
  clear hs hb NC g1 g1' g2 g2' S4 B4 XB hG ho hoq htot m1 m2 m3
  go_wp2_with fail
  clear mk
  go_loopw [13] (fun iv wr => ∃ (i : Nat) (seen : List Nat) (st : JSt), iv = .int .i64 (i : Int) ∧ i ≤ tot ∧ Hid (Solo (JX JA g st) (fun k => k < w3.heap.size ∨ k = G) wr) ∧ Hid (FormJ ps o seen st ∧ seen.Nodup ∧ (∀ j ∈ seen, j < ps.length) ∧ (∃ j, j < ps.length ∧ j ∉ seen) ∧ ∀ j, j + no < i → j ∈ seen) ∧ Hid (Blk wr G 4 (flags N seen)) ∧ Hid (Below w3.heap.size w3 wr)) (fun iv _ => tot - (intOf iv).toNat)
  case atStart => exact ⟨0, [], [], rfl, Nat.zero_le _, S5, Lib.hid ⟨form_nil, List.nodup_nil, fun j hj => (by cases hj), ⟨0, by have := RN.out.two; omega, by simp⟩, fun j hj => by omega⟩, F5, B5⟩
  case round =>
    obtain ⟨i, seen, st, rfl, hi, HSo, HF, HK, HW⟩ := hrel
    clear S5 F5 B5
    generalize wr = wo at *
    by_cases lt : i < tot
    · have f1 : decide (i < tot) = true := decide_eq_true lt
      have f2 : IntKind.i64.wrap ((i : Int) + 1) = ((i + 1 : Nat) : Int) := by rw [IntWalk.i64_in _ (by omega)]; omega
      by_cases ord : i < no
      · obtain ⟨hlen, hat0⟩ := HO.out
        obtain ⟨v, hv⟩ : ∃ v, lo[i]? = some v := ⟨_, List.getElem?_eq_getElem (by omega)⟩
        obtain ⟨⟨v0, v1⟩, b5, o5, rfl, hb5, hc5⟩ := hat0 i v hv
        have hc : wo.cell? ⟨b5, o5 + i, none⟩ = some (.int .i64 v) := ((B3.out.trans (HW.out.mono B3.out.size)).cell (p := ⟨b5, o5 + i, none⟩) (by have := HBB.out; show b5 < w.heap.size; omega)).trans hc5
        obtain ⟨en, hen⟩ : ∃ en, (i : Int) - (no : Int) = en := ⟨_, rfl⟩
        have f3 : IntKind.i64.wrap ((i : Int) - (no : Int)) = en := by rw [IntWalk.i64_in _ (by omega)]; exact hen
        have f4 : decide (en < 0) = true := decide_eq_true (by omega)
        have OL := Lib.hid ord
        clear hen hat0 hlen hc5 hv
        by_cases vn : v < 0
        · have g6 : decide (v < 0) = true := decide_eq_true vn
          clear vn
          go_wp2_with fail
          go_roundw
          case rel => exact ⟨i + 1, seen, st, by go_num, by omega, HSo, Lib.hid ⟨HF.out.1, HF.out.2.1, HF.out.2.2.1, HF.out.2.2.2.1, fun j hj => HF.out.2.2.2.2 j (by have := OL.out; omega)⟩, HK, HW⟩
          case measure => simp [intOf]; omega
        obtain ⟨vn', rfl⟩ : ∃ vn' : Nat, v = (vn' : Int) := ⟨v.toNat, by omega⟩
        have g6 : decide ((vn' : Int) < 0) = false := decide_eq_false (by omega)
        obtain ⟨a, hmod⟩ : ∃ a, vn' % N = a := ⟨_, rfl⟩
        have nz : N ≠ 0 := by have := N2.out; omega
        have nz' : (N : Int) ≠ 0 := by omega
        have ha : a < N := by rw [← hmod]; exact Nat.mod_lt _ (by omega)
        have f6 : (vn' : Int) % (N : Int) = (a : Int) := by rw [← hmod]; omega
        have f6' : (vn' : Int).tmod (N : Int) = (a : Int) := by rw [Int.tmod_eq_emod_of_nonneg (by omega)]; exact f6
        have AJ : Hid (∀ j, j + no < i + 1 → j + no < i ∨ j = a) := Lib.hid fun j hj => by omega
        clear vn
        have c1 : wo.cell? ⟨w.heap.size + 1, 1, none⟩ = some (.int .i64 q.id) := keep_cell (J3.out.cell 1) HW.out
        have c2 : wo.cell? ⟨w.heap.size, 1, none⟩ = some (.int .i64 p.id) := keep_cell (K3.out.cell 1) HW.out
        by_cases qi : q.id ≠ p.id
        · have g7 : (q.id != p.id) = true := by simpa using qi
          obtain rfl : o = (q, l') := OQ.out qi
          have BW := B3.out.trans (HW.out.mono B3.out.size)
          have PO := Lib.hid (S.solo_put 0 q HSo.out (GH.out _ BW) (.inl HBL.out) (HQ.out wo BW) (Nat.le_trans HBB.out BW.size) (fun b o' hn e => .inl (by
            subst e
            obtain ⟨b', o'', e', hb', _⟩ := (HQ.out wo BW).2.2.2.2 hn
            injection e' with e'
            injection e' with e'
            subst e'
            have := HBB.out
            have := B3.out.size
            omega)) (by have := MM.out; omega) (by have := MM.out; omega) (by have := MM.out; omega) (by have := MM.out; omega) (by decide) (by decide))
          have JQ := Lib.hid (J3.out.below HW.out J3.out.lt)
          clear BW
          unfold val pcCells at *
          go_wp2_with (first | (refine Store.at_load 32 (.tmp 7) ?_ ?_; exact rfl; refine Loads.wpList_load_w rfl 32 (.tmp 7) rfl (w.heap.size + 1) rfl 32 _ (0, 0) _ (JQ.out) Tryd.underlying32 rfl (by kernel_rfl) ?_))
          refine PO.out.mono ?_
          rintro e w6 ⟨⟨A6, c6, he, -⟩, hs6, hk6⟩
          obtain ⟨vt, rfl⟩ : ∃ v, e = .returned v := ⟨_, he⟩
          clear he
          have HF6 := Lib.hid (And.intro (RN.out.put_other OID.out HF.out.1 HF.out.2.2.1) HF.out.2)
          have HS6 := Lib.hid hs6
          have HK6 := Lib.hid (show Blk w6 G 4 (flags N seen) from (hk6.block G (.inr rfl) HK.out.lt).trans HK.out)
          have HW6 := Lib.hid (HW.out.trans (hk6.below HW.out.size fun k z => .inl z))
          clear PO JQ hs6 hk6 HSo HF HK HW
          generalize (putJ 0 (q, l') st).2 = st6 at *
          obtain ⟨y, hy⟩ : ∃ y, ps[a]? = some y := ⟨_, List.getElem?_eq_getElem (by rw [HN.out]; exact ha)⟩
          obtain ⟨A8, c8, e2, hat⟩ := P3.out
          obtain ⟨b3, o3, A9, c9, e3, hlt, hcl, hol⟩ := hat a y hy
          injection e2 with e4 e5 e6
          subst e4
          subst e3
          have RP : (loadVar 32 ⟨b3, o3 + a * 11, none⟩).run Tryd.prog w6 = .ok (.agg (pcCells y.1 (.slice A9 y.2.length c9)).toArray) w6 := Part.run_part w6 b3 (o3 + a * 11) 32 (pcCells y.1 (.slice A9 y.2.length c9)) _ Tryd.underlying32 rfl (by kernel_rfl) (hcl.below HW6.out hlt)
          have yv := chk_zero (RN.out.ok y (List.mem_of_getElem? hy))
          have PD := Lib.hid (S.solo_put 0 y.1 HS6.out (GH.out _ (B3.out.trans (HW6.out.mono B3.out.size))) (.inl HBL.out) (hol.below HW6.out) HW6.out.size (fun b o' _ e => .inl (by
            subst e
            obtain ⟨b', o'', e', hb', _⟩ := hol.2.2.2.2 (RN.out.pos y (List.mem_of_getElem? hy))
            injection e' with e'
            injection e' with e'
            subst e'
            exact hb')) (by have := yv.1.s; omega) (by have := yv.1.d; omega) (by have := yv.1.z; omega) (by omega) (by decide) (by decide))
          clear hcl hol hlt yv hat e5 e6
          unfold val pcCells at *
          go_wp2_with (refine Part.wpList_load_part rfl 32 (.tmp 125) rfl b3 (o3 + a * 11) [.int .i64 y.1.tos, .int .i64 y.1.id, .int .i64 y.1.ttl, .int .i64 y.1.proto, .bool y.1.df, .bool y.1.mf, .int .i64 y.1.off, .string y.1.src, .string y.1.dst, .string y.1.opt, .slice A9 y.2.length c9] rfl RP ?_)
          obtain ⟨d, st', seen', o1, o2, o3, o4, o5, o6, o7⟩ := RN.out.out OID.out HF6.out.1 HF6.out.2.1 HF6.out.2.2.1 HF6.out.2.2.2.1 hy
          have HALL := Lib.hid HF6.out.2.2.2.2
          rw [show putJ 0 (y.1, y.2) st6 = _ from o5] at PD
          clear o5
          refine PD.out.mono ?_
          rintro e w7 ⟨⟨A7, c7, rfl, hh⟩, hs, hk⟩
          cases d
          · have XB := (Below.refl w7.heap.size w7).alloc (Nat.le_refl _) (.cells #[.int .i64 0, .int .i64 0, .int .i64 0, .int .i64 0, .bool false, .bool false, .int .i64 0, .string ⟨#[]⟩, .string ⟨#[]⟩, .string ⟨#[]⟩, .slice A7 0 c7] 32)
            have K8 : Blk (w7.alloc (.cells #[.int .i64 0, .int .i64 0, .int .i64 0, .int .i64 0, .bool false, .bool false, .int .i64 0, .string ⟨#[]⟩, .string ⟨#[]⟩, .string ⟨#[]⟩, .slice A7 0 c7] 32)) G 4 (flags N seen) := Blk.alloc ((hk.block G (.inr rfl) HK6.out.lt).trans HK6.out) _
            have r9 : (storeVar 4 ⟨G, a, none⟩ (.bool true)).run Tryd.prog (w7.alloc (.cells #[.int .i64 0, .int .i64 0, .int .i64 0, .int .i64 0, .bool false, .bool false, .int .i64 0, .string ⟨#[]⟩, .string ⟨#[]⟩, .string ⟨#[]⟩, .slice A7 0 c7] 32)) = .ok () ((w7.alloc (.cells #[.int .i64 0, .int .i64 0, .int .i64 0, .int .i64 0, .bool false, .bool false, .int .i64 0, .string ⟨#[]⟩, .string ⟨#[]⟩, .string ⟨#[]⟩, .slice A7 0 c7] 32)).setRow G (flags N seen')) := Store.run_store_one K8 (by rw [flags_size]; exact ha) (by kernel_rfl) rfl _ (flags_set o1 o2) rfl
            have K9 : Blk ((w7.alloc (.cells #[.int .i64 0, .int .i64 0, .int .i64 0, .int .i64 0, .bool false, .bool false, .int .i64 0, .string ⟨#[]⟩, .string ⟨#[]⟩, .string ⟨#[]⟩, .slice A7 0 c7] 32)).setRow G (flags N seen')) G 4 (flags N seen') := setRow_heap _ _ _ _ _ _ K8
            have B7 : Below w3.heap.size w3 w7 := HW6.out.trans (hk.below HW6.out.size fun k z => .inl z)
            have B9 : Below w3.heap.size w3 ((w7.alloc (.cells #[.int .i64 0, .int .i64 0, .int .i64 0, .int .i64 0, .bool false, .bool false, .int .i64 0, .string ⟨#[]⟩, .string ⟨#[]⟩, .string ⟨#[]⟩, .slice A7 0 c7] 32)).setRow G (flags N seen')) := Com.setRow_bel (B7.trans (XB.mono B7.size)) GG.out _
            have S9 : Solo (JX JA g st') (fun k => k < w3.heap.size ∨ k = G) ((w7.alloc (.cells #[.int .i64 0, .int .i64 0, .int .i64 0, .int .i64 0, .bool false, .bool false, .int .i64 0, .string ⟨#[]⟩, .string ⟨#[]⟩, .string ⟨#[]⟩, .slice A7 0 c7] 32)).setRow G (flags N seen')) := Solo.write (S.obj g st') (hs.up (S.obj g st') XB) (by simp [World.setRow]) fun k _ nk => setRow_other _ _ _ _ fun e => nk (.inr e)
            obtain ⟨w9, hw9⟩ : ∃ w9, (w7.alloc (.cells #[.int .i64 0, .int .i64 0, .int .i64 0, .int .i64 0, .bool false, .bool false, .int .i64 0, .string ⟨#[]⟩, .string ⟨#[]⟩, .string ⟨#[]⟩, .slice A7 0 c7] 32)).setRow G (flags N seen') = w9 := ⟨_, rfl⟩
            rw [hw9] at r9 K9 B9 S9
            have R9 := Lib.hid r9
            have K9 := Lib.hid K9
            have B9 := Lib.hid B9
            have S9 := Lib.hid S9
            have IT := Lib.hid (And.intro o1 (And.intro o2 (And.intro o3 (And.intro o4 (And.intro o6 o7)))))
            clear hs hk hh XB K8 r9 B7 hw9 o1 o2 o3 o4 o6 o7 PD RP c1 c2 g7 HS6 HF6 HK6 HW6
            unfold ansP ansB val Pkt.zero
            dsimp only
            go_wp2_with (refine Store.at_store 4 (.tmp 135) (.const (.bool true)) ?_ ?_; exact rfl; refine wpList_store_run rfl 4 (.tmp 135) (.const (.bool true)) rfl ⟨G, a, none⟩ (.bool true) rfl rfl R9.out ?_)
            go_loopw [18, 19] (fun av kv wr => ∃ k : Nat, kv = .int .i64 (k : Int) ∧ k ≤ N ∧ av = .bool (decide (∀ j, j < k → j ∈ seen')) ∧ Hid (w9 = wr)) (fun _ kv _ => N - (intOf kv).toNat)
            case atStart => exact ⟨0, rfl, Nat.zero_le _, by rw [decide_eq_true (fun j hj => absurd hj (Nat.not_lt_zero _))], Lib.hid rfl⟩
            case round =>
              obtain ⟨k, rfl, hkN, rfl, HWr⟩ := hrel
              obtain rfl := HWr.out
              by_cases kl : k < N
              · have q1 : decide (k < N) = true := decide_eq_true kl
                have q2 : IntKind.i64.wrap ((k : Int) + 1) = ((k + 1 : Nat) : Int) := by rw [IntWalk.i64_in _ (by have := N2.out; omega)]; omega
                have q3 : w9.cell? ⟨G, k, none⟩ = some (.bool (decide (k ∈ seen'))) := (K9.out.cell k).trans (flags_at kl)
                have q4 : decide (∀ j, j < k + 1 → j ∈ seen') = (decide (∀ j, j < k → j ∈ seen') && decide (k ∈ seen')) := by
                  rw [← Bool.decide_and]
                  refine decide_eq_decide.2 ⟨fun z => ⟨fun j hj => z j (by omega), z k (by omega)⟩, fun z j hj => ?_⟩
                  rcases Nat.lt_or_ge j k with y | y
                  · exact z.1 j y
                  · obtain rfl : j = k := by omega
                    exact z.2
                have Q4 := Lib.hid q4
                clear q4
                generalize decide (∀ j, j < k → j ∈ seen') = b1 at *
                generalize decide (k ∈ seen') = b2 at *
                cases b1
                · go_wp2_with fail
                  go_roundw
                  case rel => exact ⟨k + 1, by go_num, by omega, by rw [Q4.out]; rfl, Lib.hid (by trivial)⟩
                  case measure => simp [intOf]; omega
                · go_wp2_with fail
                  go_roundw
                  case rel => exact ⟨k + 1, by go_num, by omega, by rw [Q4.out]; rfl, Lib.hid (by trivial)⟩
                  case measure => simp [intOf]; omega
              · obtain rfl : k = N := by omega
                have q1 : decide (k < k) = false := decide_eq_false (by omega)
                have q5 : decide (∀ j, j < k → j ∈ seen') = false := by
                  obtain ⟨_, _, _, _, o6, _⟩ := IT.out
                  rw [HN.out] at o6
                  exact decide_eq_false (by simpa using o6)
                rw [q5]
                clear q5
                go_wp2_with fail
                go_roundw
                case rel =>
                  obtain ⟨o1, o2, o3, o4, o6, o7⟩ := IT.out
                  refine ⟨i + 1, seen', st', by go_num, by omega, S9, Lib.hid ⟨(o7 trivial).1, o4, o3, (o7 trivial).2, fun j hj => ?_⟩, K9, B9⟩
                  rcases AJ.out j hj with z | z
                  · exact (o2 j).2 (.inl (HALL.out j z))
                  · exact (o2 j).2 (.inr z)
                case measure => simp [intOf]; omega
          · have one7 : Hid ((#[.int .i64 p.tos, .int .i64 p.id, .int .i64 p.ttl, .int .i64 p.proto, .bool p.df, .bool false, .int .i64 0, .string p.src, .string p.dst, .string p.opt, .slice A7 l.length c7] : Array Value).all (·.oneCell') = true) := Lib.hid (by simp [Value.oneCell'])
            have J7 := Lib.hid (Blk.new w7 32 #[.int .i64 0, .int .i64 0, .int .i64 0, .int .i64 0, .bool false, .bool false, .int .i64 0, .string ⟨#[]⟩, .string ⟨#[]⟩, .string ⟨#[]⟩, .slice none 0 0])
            obtain ⟨kb, XB⟩ := alloc_box w7 #[.int .i64 p.tos, .int .i64 p.id, .int .i64 p.ttl, .int .i64 p.proto, .bool p.df, .bool false, .int .i64 0, .string p.src, .string p.dst, .string p.opt, .slice A7 l.length c7] one7.out rfl
            have KB7 := Lib.hid kb
            have K7 : Blk w7 G 4 (flags N seen) := (hk.block G (.inr rfl) HK6.out.lt).trans HK6.out
            have K8 : Blk ((w7.alloc (.cells #[.int .i64 0, .int .i64 0, .int .i64 0, .int .i64 0, .bool false, .bool false, .int .i64 0, .string ⟨#[]⟩, .string ⟨#[]⟩, .string ⟨#[]⟩, .slice none 0 0] 32)).setRow w7.heap.size #[.int .i64 p.tos, .int .i64 p.id, .int .i64 p.ttl, .int .i64 p.proto, .bool p.df, .bool false, .int .i64 0, .string p.src, .string p.dst, .string p.opt, .slice A7 l.length c7]) G 4 (flags N seen) := K7.below XB K7.lt
            have r9 : (storeVar 4 ⟨G, a, none⟩ (.bool true)).run Tryd.prog ((w7.alloc (.cells #[.int .i64 0, .int .i64 0, .int .i64 0, .int .i64 0, .bool false, .bool false, .int .i64 0, .string ⟨#[]⟩, .string ⟨#[]⟩, .string ⟨#[]⟩, .slice none 0 0] 32)).setRow w7.heap.size #[.int .i64 p.tos, .int .i64 p.id, .int .i64 p.ttl, .int .i64 p.proto, .bool p.df, .bool false, .int .i64 0, .string p.src, .string p.dst, .string p.opt, .slice A7 l.length c7]) = .ok () (((w7.alloc (.cells #[.int .i64 0, .int .i64 0, .int .i64 0, .int .i64 0, .bool false, .bool false, .int .i64 0, .string ⟨#[]⟩, .string ⟨#[]⟩, .string ⟨#[]⟩, .slice none 0 0] 32)).setRow w7.heap.size #[.int .i64 p.tos, .int .i64 p.id, .int .i64 p.ttl, .int .i64 p.proto, .bool p.df, .bool false, .int .i64 0, .string p.src, .string p.dst, .string p.opt, .slice A7 l.length c7]).setRow G (flags N seen')) := Store.run_store_one K8 (by rw [flags_size]; exact ha) (by kernel_rfl) rfl _ (flags_set o1 o2) rfl
            have K9 : Blk (((w7.alloc (.cells #[.int .i64 0, .int .i64 0, .int .i64 0, .int .i64 0, .bool false, .bool false, .int .i64 0, .string ⟨#[]⟩, .string ⟨#[]⟩, .string ⟨#[]⟩, .slice none 0 0] 32)).setRow w7.heap.size #[.int .i64 p.tos, .int .i64 p.id, .int .i64 p.ttl, .int .i64 p.proto, .bool p.df, .bool false, .int .i64 0, .string p.src, .string p.dst, .string p.opt, .slice A7 l.length c7]).setRow G (flags N seen')) G 4 (flags N seen') := setRow_heap _ _ _ _ _ _ K8
            have B7 : Below w3.heap.size w3 w7 := HW6.out.trans (hk.below HW6.out.size fun k z => .inl z)
            have B9 : Below w3.heap.size w3 (((w7.alloc (.cells #[.int .i64 0, .int .i64 0, .int .i64 0, .int .i64 0, .bool false, .bool false, .int .i64 0, .string ⟨#[]⟩, .string ⟨#[]⟩, .string ⟨#[]⟩, .slice none 0 0] 32)).setRow w7.heap.size #[.int .i64 p.tos, .int .i64 p.id, .int .i64 p.ttl, .int .i64 p.proto, .bool p.df, .bool false, .int .i64 0, .string p.src, .string p.dst, .string p.opt, .slice A7 l.length c7]).setRow G (flags N seen')) := Com.setRow_bel (B7.trans (XB.mono B7.size)) GG.out _
            have H9 : Holds (((w7.alloc (.cells #[.int .i64 0, .int .i64 0, .int .i64 0, .int .i64 0, .bool false, .bool false, .int .i64 0, .string ⟨#[]⟩, .string ⟨#[]⟩, .string ⟨#[]⟩, .slice none 0 0] 32)).setRow w7.heap.size #[.int .i64 p.tos, .int .i64 p.id, .int .i64 p.ttl, .int .i64 p.proto, .bool p.df, .bool false, .int .i64 0, .string p.src, .string p.dst, .string p.opt, .slice A7 l.length c7]).setRow G (flags N seen')) w7.heap.size A7 l.length c7 l := holds_row (hh.below XB) K8 _
            have S7 : w7.heap.size ≤ (((w7.alloc (.cells #[.int .i64 0, .int .i64 0, .int .i64 0, .int .i64 0, .bool false, .bool false, .int .i64 0, .string ⟨#[]⟩, .string ⟨#[]⟩, .string ⟨#[]⟩, .slice none 0 0] 32)).setRow w7.heap.size #[.int .i64 p.tos, .int .i64 p.id, .int .i64 p.ttl, .int .i64 p.proto, .bool p.df, .bool false, .int .i64 0, .string p.src, .string p.dst, .string p.opt, .slice A7 l.length c7]).setRow G (flags N seen')).heap.size := by simp [World.setRow]
            have KQ9 := (setRow_other _ G w7.heap.size (flags N seen') (by have := K7.lt; omega)).trans KB7.out
            obtain ⟨w9, hw9⟩ : ∃ w9, ((w7.alloc (.cells #[.int .i64 0, .int .i64 0, .int .i64 0, .int .i64 0, .bool false, .bool false, .int .i64 0, .string ⟨#[]⟩, .string ⟨#[]⟩, .string ⟨#[]⟩, .slice none 0 0] 32)).setRow w7.heap.size #[.int .i64 p.tos, .int .i64 p.id, .int .i64 p.ttl, .int .i64 p.proto, .bool p.df, .bool false, .int .i64 0, .string p.src, .string p.dst, .string p.opt, .slice A7 l.length c7]).setRow G (flags N seen') = w9 := ⟨_, rfl⟩
            rw [hw9] at r9 K9 B9 H9 KQ9 S7
            have R9 := Lib.hid r9
            have K9 := Lib.hid K9
            have B9 := Lib.hid B9
            have H9 := Lib.hid H9
            have KQ9 := Lib.hid KQ9
            have S7 := Lib.hid (show w7.heap.size ≤ w9.heap.size from S7)
            have IT := Lib.hid (And.intro o1 (And.intro o2 (And.intro o3 (And.intro o4 (And.intro o6 o7)))))
            clear hs hk hh XB K8 K7 kb r9 B7 hw9 o1 o2 o3 o4 o6 o7 PD RP c1 c2 g7 HS6 HF6 HK6 HW6
            unfold ansP ansB val Pkt.zero
            dsimp only
            go_wp2_with (first | (refine Store.at_store 4 (.tmp 135) (.const (.bool true)) ?_ ?_; exact rfl; refine wpList_store_run rfl 4 (.tmp 135) (.const (.bool true)) rfl ⟨G, a, none⟩ (.bool true) rfl rfl R9.out ?_) | (refine Store.at_store 32 (.tmp 15) (.tmp 128) ?_ ?_; exact rfl; refine wpList_store_row rfl 32 (.tmp 15) (.tmp 128) rfl w7.heap.size #[.int .i64 p.tos, .int .i64 p.id, .int .i64 p.ttl, .int .i64 p.proto, .bool p.df, .bool false, .int .i64 0, .string p.src, .string p.dst, .string p.opt, .slice A7 l.length c7] rfl rfl 32 _ J7.out (by kernel_rfl) rfl one7.out ?_))
            go_loopw [18, 19] (fun av kv wr => ∃ k : Nat, kv = .int .i64 (k : Int) ∧ k ≤ N ∧ av = .bool (decide (∀ j, j < k → j ∈ seen')) ∧ Hid (w9 = wr)) (fun _ kv _ => N - (intOf kv).toNat)
            case atStart => exact ⟨0, rfl, Nat.zero_le _, by rw [decide_eq_true (fun j hj => absurd hj (Nat.not_lt_zero _))], Lib.hid rfl⟩
            case round =>
              obtain ⟨k, rfl, hkN, rfl, HWr⟩ := hrel
              obtain rfl := HWr.out
              by_cases kl : k < N
              · have q1 : decide (k < N) = true := decide_eq_true kl
                have q2 : IntKind.i64.wrap ((k : Int) + 1) = ((k + 1 : Nat) : Int) := by rw [IntWalk.i64_in _ (by have := N2.out; omega)]; omega
                have q3 : w9.cell? ⟨G, k, none⟩ = some (.bool (decide (k ∈ seen'))) := (K9.out.cell k).trans (flags_at kl)
                have q4 : decide (∀ j, j < k + 1 → j ∈ seen') = (decide (∀ j, j < k → j ∈ seen') && decide (k ∈ seen')) := by
                  rw [← Bool.decide_and]
                  refine decide_eq_decide.2 ⟨fun z => ⟨fun j hj => z j (by omega), z k (by omega)⟩, fun z j hj => ?_⟩
                  rcases Nat.lt_or_ge j k with y | y
                  · exact z.1 j y
                  · obtain rfl : j = k := by omega
                    exact z.2
                have Q4 := Lib.hid q4
                clear q4
                generalize decide (∀ j, j < k → j ∈ seen') = b1 at *
                generalize decide (k ∈ seen') = b2 at *
                cases b1
                · go_wp2_with fail
                  go_roundw
                  case rel => exact ⟨k + 1, by go_num, by omega, by rw [Q4.out]; rfl, Lib.hid (by trivial)⟩
                  case measure => simp [intOf]; omega
                · go_wp2_with fail
                  go_roundw
                  case rel => exact ⟨k + 1, by go_num, by omega, by rw [Q4.out]; rfl, Lib.hid (by trivial)⟩
                  case measure => simp [intOf]; omega
              · obtain rfl : k = N := by omega
                have q1 : decide (k < k) = false := decide_eq_false (by omega)
                have q5 : decide (∀ j, j < k → j ∈ seen') = true := by
                  obtain ⟨_, _, _, _, o6, _⟩ := IT.out
                  rw [HN.out] at o6
                  exact decide_eq_true (by simpa using o6)
                rw [q5]
                clear q5
                go_wp2_with fail
                have HG9 := Lib.hid (GH.out w9 (B3.out.trans (B9.out.mono B3.out.size)))
                refine (AW.out w9 HG9.out).mono ?_
                rintro e w10 ⟨rfl, hb⟩
                have B10 := Lib.hid (B9.out.trans (hb.mono B9.out.size))
                have RQ := Part.run_part w10 w7.heap.size 0 32 [.int .i64 p.tos, .int .i64 p.id, .int .i64 p.ttl, .int .i64 p.proto, .bool p.df, .bool false, .int .i64 0, .string p.src, .string p.dst, .string p.opt, .slice A7 l.length c7] _ Tryd.underlying32 rfl (by kernel_rfl) (fun j v hv => by
                  rw [Nat.zero_add]
                  exact keep_cell ((Blk.cell KQ9.out j).trans (by simpa using hv)) hb)
                have RP := Part.run_part w10 w.heap.size 0 32 [.int .i64 p.tos, .int .i64 p.id, .int .i64 p.ttl, .int .i64 p.proto, .bool p.df, .bool false, .int .i64 0, .string p.src, .string p.dst, .string p.opt, .slice A n c] _ Tryd.underlying32 rfl (by kernel_rfl) (fun j v hv => by
                  rw [Nat.zero_add]
                  exact keep_cell ((K3.out.cell j).trans (by simpa using hv)) B10.out)
                have SY := Lib.hid (same_yes { p with off := 0, mf := false } A7 A l.length c7 n c w10.heap.size l w10 ((H9.out.below (hb.mono (by have := S7.out; omega))).more (Nat.le_trans S7.out hb.size)) ((HH.out w10 (B3.out.trans (B10.out.mono B3.out.size))).more (Nat.le_trans HBB.out (Nat.le_trans B3.out.size B10.out.size))) (Nat.le_refl _))
                have B11 := Lib.hid (B3.out.trans (B10.out.mono B3.out.size))
                unfold val at SY
                clear hb
                go_wp2_with (first | (refine Store.at_load 32 (.tmp 15) ?_ ?_; exact rfl; refine Part.wpList_load_part rfl 32 (.tmp 15) rfl w7.heap.size 0 [.int .i64 p.tos, .int .i64 p.id, .int .i64 p.ttl, .int .i64 p.proto, .bool p.df, .bool false, .int .i64 0, .string p.src, .string p.dst, .string p.opt, .slice A7 l.length c7] rfl RQ ?_) | (refine Store.at_load 32 (.tmp 4) ?_ ?_; exact rfl; refine Part.wpList_load_part rfl 32 (.tmp 4) rfl w.heap.size 0 [.int .i64 p.tos, .int .i64 p.id, .int .i64 p.ttl, .int .i64 p.proto, .bool p.df, .bool false, .int .i64 0, .string p.src, .string p.dst, .string p.opt, .slice A n c] rfl RP ?_))
                refine SY.out.mono ?_
                rintro e w11 ⟨rfl, hb⟩
                have B12 := Lib.hid (B11.out.trans (hb.mono B11.out.size))
                clear hb SY
                go_wp2_with fail
                go_ret
                exact ⟨rfl, B12.out⟩
        · have g7 : (q.id != p.id) = false := by simpa using qi
          have HS6 := HSo
          have HF6 := HF
          have HK6 := HK
          have HW6 := HW
          clear qi HSo HF HK HW
          obtain ⟨y, hy⟩ : ∃ y, ps[a]? = some y := ⟨_, List.getElem?_eq_getElem (by rw [HN.out]; exact ha)⟩
          obtain ⟨A8, c8, e2, hat⟩ := P3.out
          obtain ⟨b3, o3, A9, c9, e3, hlt, hcl, hol⟩ := hat a y hy
          injection e2 with e4 e5 e6
          subst e4
          subst e3
          have RP : (loadVar 32 ⟨b3, o3 + a * 11, none⟩).run Tryd.prog wo = .ok (.agg (pcCells y.1 (.slice A9 y.2.length c9)).toArray) wo := Part.run_part wo b3 (o3 + a * 11) 32 (pcCells y.1 (.slice A9 y.2.length c9)) _ Tryd.underlying32 rfl (by kernel_rfl) (hcl.below HW6.out hlt)
          have yv := chk_zero (RN.out.ok y (List.mem_of_getElem? hy))
          have PD := Lib.hid (S.solo_put 0 y.1 HS6.out (GH.out _ (B3.out.trans (HW6.out.mono B3.out.size))) (.inl HBL.out) (hol.below HW6.out) HW6.out.size (fun b o' _ e => .inl (by
            subst e
            obtain ⟨b', o'', e', hb', _⟩ := hol.2.2.2.2 (RN.out.pos y (List.mem_of_getElem? hy))
            injection e' with e'
            injection e' with e'
            subst e'
            exact hb')) (by have := yv.1.s; omega) (by have := yv.1.d; omega) (by have := yv.1.z; omega) (by omega) (by decide) (by decide))
          clear hcl hol hlt yv hat e5 e6
          unfold val pcCells at *
          go_wp2_with (refine Part.wpList_load_part rfl 32 (.tmp 125) rfl b3 (o3 + a * 11) [.int .i64 y.1.tos, .int .i64 y.1.id, .int .i64 y.1.ttl, .int .i64 y.1.proto, .bool y.1.df, .bool y.1.mf, .int .i64 y.1.off, .string y.1.src, .string y.1.dst, .string y.1.opt, .slice A9 y.2.length c9] rfl RP ?_)
          obtain ⟨d, st', seen', o1, o2, o3, o4, o5, o6, o7⟩ := RN.out.out OID.out HF6.out.1 HF6.out.2.1 HF6.out.2.2.1 HF6.out.2.2.2.1 hy
          have HALL := Lib.hid HF6.out.2.2.2.2
          rw [show putJ 0 (y.1, y.2) st = _ from o5] at PD
          clear o5
          refine PD.out.mono ?_
          rintro e w7 ⟨⟨A7, c7, rfl, hh⟩, hs, hk⟩
          cases d
          · have XB := (Below.refl w7.heap.size w7).alloc (Nat.le_refl _) (.cells #[.int .i64 0, .int .i64 0, .int .i64 0, .int .i64 0, .bool false, .bool false, .int .i64 0, .string ⟨#[]⟩, .string ⟨#[]⟩, .string ⟨#[]⟩, .slice A7 0 c7] 32)
            have K8 : Blk (w7.alloc (.cells #[.int .i64 0, .int .i64 0, .int .i64 0, .int .i64 0, .bool false, .bool false, .int .i64 0, .string ⟨#[]⟩, .string ⟨#[]⟩, .string ⟨#[]⟩, .slice A7 0 c7] 32)) G 4 (flags N seen) := Blk.alloc ((hk.block G (.inr rfl) HK6.out.lt).trans HK6.out) _
            have r9 : (storeVar 4 ⟨G, a, none⟩ (.bool true)).run Tryd.prog (w7.alloc (.cells #[.int .i64 0, .int .i64 0, .int .i64 0, .int .i64 0, .bool false, .bool false, .int .i64 0, .string ⟨#[]⟩, .string ⟨#[]⟩, .string ⟨#[]⟩, .slice A7 0 c7] 32)) = .ok () ((w7.alloc (.cells #[.int .i64 0, .int .i64 0, .int .i64 0, .int .i64 0, .bool false, .bool false, .int .i64 0, .string ⟨#[]⟩, .string ⟨#[]⟩, .string ⟨#[]⟩, .slice A7 0 c7] 32)).setRow G (flags N seen')) := Store.run_store_one K8 (by rw [flags_size]; exact ha) (by kernel_rfl) rfl _ (flags_set o1 o2) rfl
            have K9 : Blk ((w7.alloc (.cells #[.int .i64 0, .int .i64 0, .int .i64 0, .int .i64 0, .bool false, .bool false, .int .i64 0, .string ⟨#[]⟩, .string ⟨#[]⟩, .string ⟨#[]⟩, .slice A7 0 c7] 32)).setRow G (flags N seen')) G 4 (flags N seen') := setRow_heap _ _ _ _ _ _ K8
            have B7 : Below w3.heap.size w3 w7 := HW6.out.trans (hk.below HW6.out.size fun k z => .inl z)
            have B9 : Below w3.heap.size w3 ((w7.alloc (.cells #[.int .i64 0, .int .i64 0, .int .i64 0, .int .i64 0, .bool false, .bool false, .int .i64 0, .string ⟨#[]⟩, .string ⟨#[]⟩, .string ⟨#[]⟩, .slice A7 0 c7] 32)).setRow G (flags N seen')) := Com.setRow_bel (B7.trans (XB.mono B7.size)) GG.out _
            have S9 : Solo (JX JA g st') (fun k => k < w3.heap.size ∨ k = G) ((w7.alloc (.cells #[.int .i64 0, .int .i64 0, .int .i64 0, .int .i64 0, .bool false, .bool false, .int .i64 0, .string ⟨#[]⟩, .string ⟨#[]⟩, .string ⟨#[]⟩, .slice A7 0 c7] 32)).setRow G (flags N seen')) := Solo.write (S.obj g st') (hs.up (S.obj g st') XB) (by simp [World.setRow]) fun k _ nk => setRow_other _ _ _ _ fun e => nk (.inr e)
            obtain ⟨w9, hw9⟩ : ∃ w9, (w7.alloc (.cells #[.int .i64 0, .int .i64 0, .int .i64 0, .int .i64 0, .bool false, .bool false, .int .i64 0, .string ⟨#[]⟩, .string ⟨#[]⟩, .string ⟨#[]⟩, .slice A7 0 c7] 32)).setRow G (flags N seen') = w9 := ⟨_, rfl⟩
            rw [hw9] at r9 K9 B9 S9
            have R9 := Lib.hid r9
            have K9 := Lib.hid K9
            have B9 := Lib.hid B9
            have S9 := Lib.hid S9
            have IT := Lib.hid (And.intro o1 (And.intro o2 (And.intro o3 (And.intro o4 (And.intro o6 o7)))))
            clear hs hk hh XB K8 r9 B7 hw9 o1 o2 o3 o4 o6 o7 PD RP c1 c2 g7 HS6 HF6 HK6 HW6
            unfold ansP ansB val Pkt.zero
            dsimp only
            go_wp2_with (refine Store.at_store 4 (.tmp 135) (.const (.bool true)) ?_ ?_; exact rfl; refine wpList_store_run rfl 4 (.tmp 135) (.const (.bool true)) rfl ⟨G, a, none⟩ (.bool true) rfl rfl R9.out ?_)
            go_loopw [18, 19] (fun av kv wr => ∃ k : Nat, kv = .int .i64 (k : Int) ∧ k ≤ N ∧ av = .bool (decide (∀ j, j < k → j ∈ seen')) ∧ Hid (w9 = wr)) (fun _ kv _ => N - (intOf kv).toNat)
            case atStart => exact ⟨0, rfl, Nat.zero_le _, by rw [decide_eq_true (fun j hj => absurd hj (Nat.not_lt_zero _))], Lib.hid rfl⟩
            case round =>
              obtain ⟨k, rfl, hkN, rfl, HWr⟩ := hrel
              obtain rfl := HWr.out
              by_cases kl : k < N
              · have q1 : decide (k < N) = true := decide_eq_true kl
                have q2 : IntKind.i64.wrap ((k : Int) + 1) = ((k + 1 : Nat) : Int) := by rw [IntWalk.i64_in _ (by have := N2.out; omega)]; omega
                have q3 : w9.cell? ⟨G, k, none⟩ = some (.bool (decide (k ∈ seen'))) := (K9.out.cell k).trans (flags_at kl)
                have q4 : decide (∀ j, j < k + 1 → j ∈ seen') = (decide (∀ j, j < k → j ∈ seen') && decide (k ∈ seen')) := by
                  rw [← Bool.decide_and]
                  refine decide_eq_decide.2 ⟨fun z => ⟨fun j hj => z j (by omega), z k (by omega)⟩, fun z j hj => ?_⟩
                  rcases Nat.lt_or_ge j k with y | y
                  · exact z.1 j y
                  · obtain rfl : j = k := by omega
                    exact z.2
                have Q4 := Lib.hid q4
                clear q4
                generalize decide (∀ j, j < k → j ∈ seen') = b1 at *
                generalize decide (k ∈ seen') = b2 at *
                cases b1
                · go_wp2_with fail
                  go_roundw
                  case rel => exact ⟨k + 1, by go_num, by omega, by rw [Q4.out]; rfl, Lib.hid (by trivial)⟩
                  case measure => simp [intOf]; omega
                · go_wp2_with fail
                  go_roundw
                  case rel => exact ⟨k + 1, by go_num, by omega, by rw [Q4.out]; rfl, Lib.hid (by trivial)⟩
                  case measure => simp [intOf]; omega
              · obtain rfl : k = N := by omega
                have q1 : decide (k < k) = false := decide_eq_false (by omega)
                have q5 : decide (∀ j, j < k → j ∈ seen') = false := by
                  obtain ⟨_, _, _, _, o6, _⟩ := IT.out
                  rw [HN.out] at o6
                  exact decide_eq_false (by simpa using o6)
                rw [q5]
                clear q5
                go_wp2_with fail
                go_roundw
                case rel =>
                  obtain ⟨o1, o2, o3, o4, o6, o7⟩ := IT.out
                  refine ⟨i + 1, seen', st', by go_num, by omega, S9, Lib.hid ⟨(o7 trivial).1, o4, o3, (o7 trivial).2, fun j hj => ?_⟩, K9, B9⟩
                  rcases AJ.out j hj with z | z
                  · exact (o2 j).2 (.inl (HALL.out j z))
                  · exact (o2 j).2 (.inr z)
                case measure => simp [intOf]; omega
          · have one7 : Hid ((#[.int .i64 p.tos, .int .i64 p.id, .int .i64 p.ttl, .int .i64 p.proto, .bool p.df, .bool false, .int .i64 0, .string p.src, .string p.dst, .string p.opt, .slice A7 l.length c7] : Array Value).all (·.oneCell') = true) := Lib.hid (by simp [Value.oneCell'])
            have J7 := Lib.hid (Blk.new w7 32 #[.int .i64 0, .int .i64 0, .int .i64 0, .int .i64 0, .bool false, .bool false, .int .i64 0, .string ⟨#[]⟩, .string ⟨#[]⟩, .string ⟨#[]⟩, .slice none 0 0])
            obtain ⟨kb, XB⟩ := alloc_box w7 #[.int .i64 p.tos, .int .i64 p.id, .int .i64 p.ttl, .int .i64 p.proto, .bool p.df, .bool false, .int .i64 0, .string p.src, .string p.dst, .string p.opt, .slice A7 l.length c7] one7.out rfl
            have KB7 := Lib.hid kb
            have K7 : Blk w7 G 4 (flags N seen) := (hk.block G (.inr rfl) HK6.out.lt).trans HK6.out
            have K8 : Blk ((w7.alloc (.cells #[.int .i64 0, .int .i64 0, .int .i64 0, .int .i64 0, .bool false, .bool false, .int .i64 0, .string ⟨#[]⟩, .string ⟨#[]⟩, .string ⟨#[]⟩, .slice none 0 0] 32)).setRow w7.heap.size #[.int .i64 p.tos, .int .i64 p.id, .int .i64 p.ttl, .int .i64 p.proto, .bool p.df, .bool false, .int .i64 0, .string p.src, .string p.dst, .string p.opt, .slice A7 l.length c7]) G 4 (flags N seen) := K7.below XB K7.lt
            have r9 : (storeVar 4 ⟨G, a, none⟩ (.bool true)).run Tryd.prog ((w7.alloc (.cells #[.int .i64 0, .int .i64 0, .int .i64 0, .int .i64 0, .bool false, .bool false, .int .i64 0, .string ⟨#[]⟩, .string ⟨#[]⟩, .string ⟨#[]⟩, .slice none 0 0] 32)).setRow w7.heap.size #[.int .i64 p.tos, .int .i64 p.id, .int .i64 p.ttl, .int .i64 p.proto, .bool p.df, .bool false, .int .i64 0, .string p.src, .string p.dst, .string p.opt, .slice A7 l.length c7]) = .ok () (((w7.alloc (.cells #[.int .i64 0, .int .i64 0, .int .i64 0, .int .i64 0, .bool false, .bool false, .int .i64 0, .string ⟨#[]⟩, .string ⟨#[]⟩, .string ⟨#[]⟩, .slice none 0 0] 32)).setRow w7.heap.size #[.int .i64 p.tos, .int .i64 p.id, .int .i64 p.ttl, .int .i64 p.proto, .bool p.df, .bool false, .int .i64 0, .string p.src, .string p.dst, .string p.opt, .slice A7 l.length c7]).setRow G (flags N seen')) := Store.run_store_one K8 (by rw [flags_size]; exact ha) (by kernel_rfl) rfl _ (flags_set o1 o2) rfl
            have K9 : Blk (((w7.alloc (.cells #[.int .i64 0, .int .i64 0, .int .i64 0, .int .i64 0, .bool false, .bool false, .int .i64 0, .string ⟨#[]⟩, .string ⟨#[]⟩, .string ⟨#[]⟩, .slice none 0 0] 32)).setRow w7.heap.size #[.int .i64 p.tos, .int .i64 p.id, .int .i64 p.ttl, .int .i64 p.proto, .bool p.df, .bool false, .int .i64 0, .string p.src, .string p.dst, .string p.opt, .slice A7 l.length c7]).setRow G (flags N seen')) G 4 (flags N seen') := setRow_heap _ _ _ _ _ _ K8
            have B7 : Below w3.heap.size w3 w7 := HW6.out.trans (hk.below HW6.out.size fun k z => .inl z)
            have B9 : Below w3.heap.size w3 (((w7.alloc (.cells #[.int .i64 0, .int .i64 0, .int .i64 0, .int .i64 0, .bool false, .bool false, .int .i64 0, .string ⟨#[]⟩, .string ⟨#[]⟩, .string ⟨#[]⟩, .slice none 0 0] 32)).setRow w7.heap.size #[.int .i64 p.tos, .int .i64 p.id, .int .i64 p.ttl, .int .i64 p.proto, .bool p.df, .bool false, .int .i64 0, .string p.src, .string p.dst, .string p.opt, .slice A7 l.length c7]).setRow G (flags N seen')) := Com.setRow_bel (B7.trans (XB.mono B7.size)) GG.out _
            have H9 : Holds (((w7.alloc (.cells #[.int .i64 0, .int .i64 0, .int .i64 0, .int .i64 0, .bool false, .bool false, .int .i64 0, .string ⟨#[]⟩, .string ⟨#[]⟩, .string ⟨#[]⟩, .slice none 0 0] 32)).setRow w7.heap.size #[.int .i64 p.tos, .int .i64 p.id, .int .i64 p.ttl, .int .i64 p.proto, .bool p.df, .bool false, .int .i64 0, .string p.src, .string p.dst, .string p.opt, .slice A7 l.length c7]).setRow G (flags N seen')) w7.heap.size A7 l.length c7 l := holds_row (hh.below XB) K8 _
            have S7 : w7.heap.size ≤ (((w7.alloc (.cells #[.int .i64 0, .int .i64 0, .int .i64 0, .int .i64 0, .bool false, .bool false, .int .i64 0, .string ⟨#[]⟩, .string ⟨#[]⟩, .string ⟨#[]⟩, .slice none 0 0] 32)).setRow w7.heap.size #[.int .i64 p.tos, .int .i64 p.id, .int .i64 p.ttl, .int .i64 p.proto, .bool p.df, .bool false, .int .i64 0, .string p.src, .string p.dst, .string p.opt, .slice A7 l.length c7]).setRow G (flags N seen')).heap.size := by simp [World.setRow]
            have KQ9 := (setRow_other _ G w7.heap.size (flags N seen') (by have := K7.lt; omega)).trans KB7.out
            obtain ⟨w9, hw9⟩ : ∃ w9, ((w7.alloc (.cells #[.int .i64 0, .int .i64 0, .int .i64 0, .int .i64 0, .bool false, .bool false, .int .i64 0, .string ⟨#[]⟩, .string ⟨#[]⟩, .string ⟨#[]⟩, .slice none 0 0] 32)).setRow w7.heap.size #[.int .i64 p.tos, .int .i64 p.id, .int .i64 p.ttl, .int .i64 p.proto, .bool p.df, .bool false, .int .i64 0, .string p.src, .string p.dst, .string p.opt, .slice A7 l.length c7]).setRow G (flags N seen') = w9 := ⟨_, rfl⟩
            rw [hw9] at r9 K9 B9 H9 KQ9 S7
            have R9 := Lib.hid r9
            have K9 := Lib.hid K9
            have B9 := Lib.hid B9
            have H9 := Lib.hid H9
            have KQ9 := Lib.hid KQ9
            have S7 := Lib.hid (show w7.heap.size ≤ w9.heap.size from S7)
            have IT := Lib.hid (And.intro o1 (And.intro o2 (And.intro o3 (And.intro o4 (And.intro o6 o7)))))
            clear hs hk hh XB K8 K7 kb r9 B7 hw9 o1 o2 o3 o4 o6 o7 PD RP c1 c2 g7 HS6 HF6 HK6 HW6
            unfold ansP ansB val Pkt.zero
            dsimp only
            go_wp2_with (first | (refine Store.at_store 4 (.tmp 135) (.const (.bool true)) ?_ ?_; exact rfl; refine wpList_store_run rfl 4 (.tmp 135) (.const (.bool true)) rfl ⟨G, a, none⟩ (.bool true) rfl rfl R9.out ?_) | (refine Store.at_store 32 (.tmp 15) (.tmp 128) ?_ ?_; exact rfl; refine wpList_store_row rfl 32 (.tmp 15) (.tmp 128) rfl w7.heap.size #[.int .i64 p.tos, .int .i64 p.id, .int .i64 p.ttl, .int .i64 p.proto, .bool p.df, .bool false, .int .i64 0, .string p.src, .string p.dst, .string p.opt, .slice A7 l.length c7] rfl rfl 32 _ J7.out (by kernel_rfl) rfl one7.out ?_))
            go_loopw [18, 19] (fun av kv wr => ∃ k : Nat, kv = .int .i64 (k : Int) ∧ k ≤ N ∧ av = .bool (decide (∀ j, j < k → j ∈ seen')) ∧ Hid (w9 = wr)) (fun _ kv _ => N - (intOf kv).toNat)
            case atStart => exact ⟨0, rfl, Nat.zero_le _, by rw [decide_eq_true (fun j hj => absurd hj (Nat.not_lt_zero _))], Lib.hid rfl⟩
            case round =>
              obtain ⟨k, rfl, hkN, rfl, HWr⟩ := hrel
              obtain rfl := HWr.out
              by_cases kl : k < N
              · have q1 : decide (k < N) = true := decide_eq_true kl
                have q2 : IntKind.i64.wrap ((k : Int) + 1) = ((k + 1 : Nat) : Int) := by rw [IntWalk.i64_in _ (by have := N2.out; omega)]; omega
                have q3 : w9.cell? ⟨G, k, none⟩ = some (.bool (decide (k ∈ seen'))) := (K9.out.cell k).trans (flags_at kl)
                have q4 : decide (∀ j, j < k + 1 → j ∈ seen') = (decide (∀ j, j < k → j ∈ seen') && decide (k ∈ seen')) := by
                  rw [← Bool.decide_and]
                  refine decide_eq_decide.2 ⟨fun z => ⟨fun j hj => z j (by omega), z k (by omega)⟩, fun z j hj => ?_⟩
                  rcases Nat.lt_or_ge j k with y | y
                  · exact z.1 j y
                  · obtain rfl : j = k := by omega
                    exact z.2
                have Q4 := Lib.hid q4
                clear q4
                generalize decide (∀ j, j < k → j ∈ seen') = b1 at *
                generalize decide (k ∈ seen') = b2 at *
                cases b1
                · go_wp2_with fail
                  go_roundw
                  case rel => exact ⟨k + 1, by go_num, by omega, by rw [Q4.out]; rfl, Lib.hid (by trivial)⟩
                  case measure => simp [intOf]; omega
                · go_wp2_with fail
                  go_roundw
                  case rel => exact ⟨k + 1, by go_num, by omega, by rw [Q4.out]; rfl, Lib.hid (by trivial)⟩
                  case measure => simp [intOf]; omega
              · obtain rfl : k = N := by omega
                have q1 : decide (k < k) = false := decide_eq_false (by omega)
                have q5 : decide (∀ j, j < k → j ∈ seen') = true := by
                  obtain ⟨_, _, _, _, o6, _⟩ := IT.out
                  rw [HN.out] at o6
                  exact decide_eq_true (by simpa using o6)
                rw [q5]
                clear q5
                go_wp2_with fail
                have HG9 := Lib.hid (GH.out w9 (B3.out.trans (B9.out.mono B3.out.size)))
                refine (AW.out w9 HG9.out).mono ?_
                rintro e w10 ⟨rfl, hb⟩
                have B10 := Lib.hid (B9.out.trans (hb.mono B9.out.size))
                have RQ := Part.run_part w10 w7.heap.size 0 32 [.int .i64 p.tos, .int .i64 p.id, .int .i64 p.ttl, .int .i64 p.proto, .bool p.df, .bool false, .int .i64 0, .string p.src, .string p.dst, .string p.opt, .slice A7 l.length c7] _ Tryd.underlying32 rfl (by kernel_rfl) (fun j v hv => by
                  rw [Nat.zero_add]
                  exact keep_cell ((Blk.cell KQ9.out j).trans (by simpa using hv)) hb)
                have RP := Part.run_part w10 w.heap.size 0 32 [.int .i64 p.tos, .int .i64 p.id, .int .i64 p.ttl, .int .i64 p.proto, .bool p.df, .bool false, .int .i64 0, .string p.src, .string p.dst, .string p.opt, .slice A n c] _ Tryd.underlying32 rfl (by kernel_rfl) (fun j v hv => by
                  rw [Nat.zero_add]
                  exact keep_cell ((K3.out.cell j).trans (by simpa using hv)) B10.out)
                have SY := Lib.hid (same_yes { p with off := 0, mf := false } A7 A l.length c7 n c w10.heap.size l w10 ((H9.out.below (hb.mono (by have := S7.out; omega))).more (Nat.le_trans S7.out hb.size)) ((HH.out w10 (B3.out.trans (B10.out.mono B3.out.size))).more (Nat.le_trans HBB.out (Nat.le_trans B3.out.size B10.out.size))) (Nat.le_refl _))
                have B11 := Lib.hid (B3.out.trans (B10.out.mono B3.out.size))
                unfold val at SY
                clear hb
                go_wp2_with (first | (refine Store.at_load 32 (.tmp 15) ?_ ?_; exact rfl; refine Part.wpList_load_part rfl 32 (.tmp 15) rfl w7.heap.size 0 [.int .i64 p.tos, .int .i64 p.id, .int .i64 p.ttl, .int .i64 p.proto, .bool p.df, .bool false, .int .i64 0, .string p.src, .string p.dst, .string p.opt, .slice A7 l.length c7] rfl RQ ?_) | (refine Store.at_load 32 (.tmp 4) ?_ ?_; exact rfl; refine Part.wpList_load_part rfl 32 (.tmp 4) rfl w.heap.size 0 [.int .i64 p.tos, .int .i64 p.id, .int .i64 p.ttl, .int .i64 p.proto, .bool p.df, .bool false, .int .i64 0, .string p.src, .string p.dst, .string p.opt, .slice A n c] rfl RP ?_))
                refine SY.out.mono ?_
                rintro e w11 ⟨rfl, hb⟩
                have B12 := Lib.hid (B11.out.trans (hb.mono B11.out.size))
                clear hb SY
                go_wp2_with fail
                go_ret
                exact ⟨rfl, B12.out⟩
      · obtain ⟨a, hai⟩ : ∃ a, i - no = a := ⟨_, rfl⟩
        have ha : a < N := by have := TT.out; omega
        have f3 : IntKind.i64.wrap ((i : Int) - (no : Int)) = (a : Int) := by rw [IntWalk.i64_in _ (by omega)]; omega
        have f4 : decide ((a : Int) < 0) = false := decide_eq_false (by omega)
        have AJ : Hid (∀ j, j + no < i + 1 → j + no < i ∨ j = a) := Lib.hid fun j hj => by omega
        clear hai
        have c1 : wo.cell? ⟨w.heap.size + 1, 1, none⟩ = some (.int .i64 q.id) := keep_cell (J3.out.cell 1) HW.out
        have c2 : wo.cell? ⟨w.heap.size, 1, none⟩ = some (.int .i64 p.id) := keep_cell (K3.out.cell 1) HW.out
        by_cases qi : q.id ≠ p.id
        · have g7 : (q.id != p.id) = true := by simpa using qi
          obtain rfl : o = (q, l') := OQ.out qi
          have BW := B3.out.trans (HW.out.mono B3.out.size)
          have PO := Lib.hid (S.solo_put 0 q HSo.out (GH.out _ BW) (.inl HBL.out) (HQ.out wo BW) (Nat.le_trans HBB.out BW.size) (fun b o' hn e => .inl (by
            subst e
            obtain ⟨b', o'', e', hb', _⟩ := (HQ.out wo BW).2.2.2.2 hn
            injection e' with e'
            injection e' with e'
            subst e'
            have := HBB.out
            have := B3.out.size
            omega)) (by have := MM.out; omega) (by have := MM.out; omega) (by have := MM.out; omega) (by have := MM.out; omega) (by decide) (by decide))
          have JQ := Lib.hid (J3.out.below HW.out J3.out.lt)
          clear BW
          unfold val pcCells at *
          go_wp2_with (first | (refine Store.at_load 32 (.tmp 7) ?_ ?_; exact rfl; refine Loads.wpList_load_w rfl 32 (.tmp 7) rfl (w.heap.size + 1) rfl 32 _ (0, 0) _ (JQ.out) Tryd.underlying32 rfl (by kernel_rfl) ?_))
          refine PO.out.mono ?_
          rintro e w6 ⟨⟨A6, c6, he, -⟩, hs6, hk6⟩
          obtain ⟨vt, rfl⟩ : ∃ v, e = .returned v := ⟨_, he⟩
          clear he
          have HF6 := Lib.hid (And.intro (RN.out.put_other OID.out HF.out.1 HF.out.2.2.1) HF.out.2)
          have HS6 := Lib.hid hs6
          have HK6 := Lib.hid (show Blk w6 G 4 (flags N seen) from (hk6.block G (.inr rfl) HK.out.lt).trans HK.out)
          have HW6 := Lib.hid (HW.out.trans (hk6.below HW.out.size fun k z => .inl z))
          clear PO JQ hs6 hk6 HSo HF HK HW
          generalize (putJ 0 (q, l') st).2 = st6 at *
          obtain ⟨y, hy⟩ : ∃ y, ps[a]? = some y := ⟨_, List.getElem?_eq_getElem (by rw [HN.out]; exact ha)⟩
          obtain ⟨A8, c8, e2, hat⟩ := P3.out
          obtain ⟨b3, o3, A9, c9, e3, hlt, hcl, hol⟩ := hat a y hy
          injection e2 with e4 e5 e6
          subst e4
          subst e3
          have RP : (loadVar 32 ⟨b3, o3 + a * 11, none⟩).run Tryd.prog w6 = .ok (.agg (pcCells y.1 (.slice A9 y.2.length c9)).toArray) w6 := Part.run_part w6 b3 (o3 + a * 11) 32 (pcCells y.1 (.slice A9 y.2.length c9)) _ Tryd.underlying32 rfl (by kernel_rfl) (hcl.below HW6.out hlt)
          have yv := chk_zero (RN.out.ok y (List.mem_of_getElem? hy))
          have PD := Lib.hid (S.solo_put 0 y.1 HS6.out (GH.out _ (B3.out.trans (HW6.out.mono B3.out.size))) (.inl HBL.out) (hol.below HW6.out) HW6.out.size (fun b o' _ e => .inl (by
            subst e
            obtain ⟨b', o'', e', hb', _⟩ := hol.2.2.2.2 (RN.out.pos y (List.mem_of_getElem? hy))
            injection e' with e'
            injection e' with e'
            subst e'
            exact hb')) (by have := yv.1.s; omega) (by have := yv.1.d; omega) (by have := yv.1.z; omega) (by omega) (by decide) (by decide))
          clear hcl hol hlt yv hat e5 e6
          unfold val pcCells at *
          go_wp2_with (refine Part.wpList_load_part rfl 32 (.tmp 125) rfl b3 (o3 + a * 11) [.int .i64 y.1.tos, .int .i64 y.1.id, .int .i64 y.1.ttl, .int .i64 y.1.proto, .bool y.1.df, .bool y.1.mf, .int .i64 y.1.off, .string y.1.src, .string y.1.dst, .string y.1.opt, .slice A9 y.2.length c9] rfl RP ?_)
          obtain ⟨d, st', seen', o1, o2, o3, o4, o5, o6, o7⟩ := RN.out.out OID.out HF6.out.1 HF6.out.2.1 HF6.out.2.2.1 HF6.out.2.2.2.1 hy
          have HALL := Lib.hid HF6.out.2.2.2.2
          rw [show putJ 0 (y.1, y.2) st6 = _ from o5] at PD
          clear o5
          refine PD.out.mono ?_
          rintro e w7 ⟨⟨A7, c7, rfl, hh⟩, hs, hk⟩
          cases d
          · have XB := (Below.refl w7.heap.size w7).alloc (Nat.le_refl _) (.cells #[.int .i64 0, .int .i64 0, .int .i64 0, .int .i64 0, .bool false, .bool false, .int .i64 0, .string ⟨#[]⟩, .string ⟨#[]⟩, .string ⟨#[]⟩, .slice A7 0 c7] 32)
            have K8 : Blk (w7.alloc (.cells #[.int .i64 0, .int .i64 0, .int .i64 0, .int .i64 0, .bool false, .bool false, .int .i64 0, .string ⟨#[]⟩, .string ⟨#[]⟩, .string ⟨#[]⟩, .slice A7 0 c7] 32)) G 4 (flags N seen) := Blk.alloc ((hk.block G (.inr rfl) HK6.out.lt).trans HK6.out) _
            have r9 : (storeVar 4 ⟨G, a, none⟩ (.bool true)).run Tryd.prog (w7.alloc (.cells #[.int .i64 0, .int .i64 0, .int .i64 0, .int .i64 0, .bool false, .bool false, .int .i64 0, .string ⟨#[]⟩, .string ⟨#[]⟩, .string ⟨#[]⟩, .slice A7 0 c7] 32)) = .ok () ((w7.alloc (.cells #[.int .i64 0, .int .i64 0, .int .i64 0, .int .i64 0, .bool false, .bool false, .int .i64 0, .string ⟨#[]⟩, .string ⟨#[]⟩, .string ⟨#[]⟩, .slice A7 0 c7] 32)).setRow G (flags N seen')) := Store.run_store_one K8 (by rw [flags_size]; exact ha) (by kernel_rfl) rfl _ (flags_set o1 o2) rfl
            have K9 : Blk ((w7.alloc (.cells #[.int .i64 0, .int .i64 0, .int .i64 0, .int .i64 0, .bool false, .bool false, .int .i64 0, .string ⟨#[]⟩, .string ⟨#[]⟩, .string ⟨#[]⟩, .slice A7 0 c7] 32)).setRow G (flags N seen')) G 4 (flags N seen') := setRow_heap _ _ _ _ _ _ K8
            have B7 : Below w3.heap.size w3 w7 := HW6.out.trans (hk.below HW6.out.size fun k z => .inl z)
            have B9 : Below w3.heap.size w3 ((w7.alloc (.cells #[.int .i64 0, .int .i64 0, .int .i64 0, .int .i64 0, .bool false, .bool false, .int .i64 0, .string ⟨#[]⟩, .string ⟨#[]⟩, .string ⟨#[]⟩, .slice A7 0 c7] 32)).setRow G (flags N seen')) := Com.setRow_bel (B7.trans (XB.mono B7.size)) GG.out _
            have S9 : Solo (JX JA g st') (fun k => k < w3.heap.size ∨ k = G) ((w7.alloc (.cells #[.int .i64 0, .int .i64 0, .int .i64 0, .int .i64 0, .bool false, .bool false, .int .i64 0, .string ⟨#[]⟩, .string ⟨#[]⟩, .string ⟨#[]⟩, .slice A7 0 c7] 32)).setRow G (flags N seen')) := Solo.write (S.obj g st') (hs.up (S.obj g st') XB) (by simp [World.setRow]) fun k _ nk => setRow_other _ _ _ _ fun e => nk (.inr e)
            obtain ⟨w9, hw9⟩ : ∃ w9, (w7.alloc (.cells #[.int .i64 0, .int .i64 0, .int .i64 0, .int .i64 0, .bool false, .bool false, .int .i64 0, .string ⟨#[]⟩, .string ⟨#[]⟩, .string ⟨#[]⟩, .slice A7 0 c7] 32)).setRow G (flags N seen') = w9 := ⟨_, rfl⟩
            rw [hw9] at r9 K9 B9 S9
            have R9 := Lib.hid r9
            have K9 := Lib.hid K9
            have B9 := Lib.hid B9
            have S9 := Lib.hid S9
            have IT := Lib.hid (And.intro o1 (And.intro o2 (And.intro o3 (And.intro o4 (And.intro o6 o7)))))
            clear hs hk hh XB K8 r9 B7 hw9 o1 o2 o3 o4 o6 o7 PD RP c1 c2 g7 HS6 HF6 HK6 HW6
            unfold ansP ansB val Pkt.zero
            dsimp only
            go_wp2_with (refine Store.at_store 4 (.tmp 135) (.const (.bool true)) ?_ ?_; exact rfl; refine wpList_store_run rfl 4 (.tmp 135) (.const (.bool true)) rfl ⟨G, a, none⟩ (.bool true) rfl rfl R9.out ?_)
            go_loopw [18, 19] (fun av kv wr => ∃ k : Nat, kv = .int .i64 (k : Int) ∧ k ≤ N ∧ av = .bool (decide (∀ j, j < k → j ∈ seen')) ∧ Hid (w9 = wr)) (fun _ kv _ => N - (intOf kv).toNat)
            case atStart => exact ⟨0, rfl, Nat.zero_le _, by rw [decide_eq_true (fun j hj => absurd hj (Nat.not_lt_zero _))], Lib.hid rfl⟩
            case round =>
              obtain ⟨k, rfl, hkN, rfl, HWr⟩ := hrel
              obtain rfl := HWr.out
              by_cases kl : k < N
              · have q1 : decide (k < N) = true := decide_eq_true kl
                have q2 : IntKind.i64.wrap ((k : Int) + 1) = ((k + 1 : Nat) : Int) := by rw [IntWalk.i64_in _ (by have := N2.out; omega)]; omega
                have q3 : w9.cell? ⟨G, k, none⟩ = some (.bool (decide (k ∈ seen'))) := (K9.out.cell k).trans (flags_at kl)
                have q4 : decide (∀ j, j < k + 1 → j ∈ seen') = (decide (∀ j, j < k → j ∈ seen') && decide (k ∈ seen')) := by
                  rw [← Bool.decide_and]
                  refine decide_eq_decide.2 ⟨fun z => ⟨fun j hj => z j (by omega), z k (by omega)⟩, fun z j hj => ?_⟩
                  rcases Nat.lt_or_ge j k with y | y
                  · exact z.1 j y
                  · obtain rfl : j = k := by omega
                    exact z.2
                have Q4 := Lib.hid q4
                clear q4
                generalize decide (∀ j, j < k → j ∈ seen') = b1 at *
                generalize decide (k ∈ seen') = b2 at *
                cases b1
                · go_wp2_with fail
                  go_roundw
                  case rel => exact ⟨k + 1, by go_num, by omega, by rw [Q4.out]; rfl, Lib.hid (by trivial)⟩
                  case measure => simp [intOf]; omega
                · go_wp2_with fail
                  go_roundw
                  case rel => exact ⟨k + 1, by go_num, by omega, by rw [Q4.out]; rfl, Lib.hid (by trivial)⟩
                  case measure => simp [intOf]; omega
              · obtain rfl : k = N := by omega
                have q1 : decide (k < k) = false := decide_eq_false (by omega)
                have q5 : decide (∀ j, j < k → j ∈ seen') = false := by
                  obtain ⟨_, _, _, _, o6, _⟩ := IT.out
                  rw [HN.out] at o6
                  exact decide_eq_false (by simpa using o6)
                rw [q5]
                clear q5
                go_wp2_with fail
                go_roundw
                case rel =>
                  obtain ⟨o1, o2, o3, o4, o6, o7⟩ := IT.out
                  refine ⟨i + 1, seen', st', by go_num, by omega, S9, Lib.hid ⟨(o7 trivial).1, o4, o3, (o7 trivial).2, fun j hj => ?_⟩, K9, B9⟩
                  rcases AJ.out j hj with z | z
                  · exact (o2 j).2 (.inl (HALL.out j z))
                  · exact (o2 j).2 (.inr z)
                case measure => simp [intOf]; omega
          · have one7 : Hid ((#[.int .i64 p.tos, .int .i64 p.id, .int .i64 p.ttl, .int .i64 p.proto, .bool p.df, .bool false, .int .i64 0, .string p.src, .string p.dst, .string p.opt, .slice A7 l.length c7] : Array Value).all (·.oneCell') = true) := Lib.hid (by simp [Value.oneCell'])
            have J7 := Lib.hid (Blk.new w7 32 #[.int .i64 0, .int .i64 0, .int .i64 0, .int .i64 0, .bool false, .bool false, .int .i64 0, .string ⟨#[]⟩, .string ⟨#[]⟩, .string ⟨#[]⟩, .slice none 0 0])
            obtain ⟨kb, XB⟩ := alloc_box w7 #[.int .i64 p.tos, .int .i64 p.id, .int .i64 p.ttl, .int .i64 p.proto, .bool p.df, .bool false, .int .i64 0, .string p.src, .string p.dst, .string p.opt, .slice A7 l.length c7] one7.out rfl
            have KB7 := Lib.hid kb
            have K7 : Blk w7 G 4 (flags N seen) := (hk.block G (.inr rfl) HK6.out.lt).trans HK6.out
            have K8 : Blk ((w7.alloc (.cells #[.int .i64 0, .int .i64 0, .int .i64 0, .int .i64 0, .bool false, .bool false, .int .i64 0, .string ⟨#[]⟩, .string ⟨#[]⟩, .string ⟨#[]⟩, .slice none 0 0] 32)).setRow w7.heap.size #[.int .i64 p.tos, .int .i64 p.id, .int .i64 p.ttl, .int .i64 p.proto, .bool p.df, .bool false, .int .i64 0, .string p.src, .string p.dst, .string p.opt, .slice A7 l.length c7]) G 4 (flags N seen) := K7.below XB K7.lt
            have r9 : (storeVar 4 ⟨G, a, none⟩ (.bool true)).run Tryd.prog ((w7.alloc (.cells #[.int .i64 0, .int .i64 0, .int .i64 0, .int .i64 0, .bool false, .bool false, .int .i64 0, .string ⟨#[]⟩, .string ⟨#[]⟩, .string ⟨#[]⟩, .slice none 0 0] 32)).setRow w7.heap.size #[.int .i64 p.tos, .int .i64 p.id, .int .i64 p.ttl, .int .i64 p.proto, .bool p.df, .bool false, .int .i64 0, .string p.src, .string p.dst, .string p.opt, .slice A7 l.length c7]) = .ok () (((w7.alloc (.cells #[.int .i64 0, .int .i64 0, .int .i64 0, .int .i64 0, .bool false, .bool false, .int .i64 0, .string ⟨#[]⟩, .string ⟨#[]⟩, .string ⟨#[]⟩, .slice none 0 0] 32)).setRow w7.heap.size #[.int .i64 p.tos, .int .i64 p.id, .int .i64 p.ttl, .int .i64 p.proto, .bool p.df, .bool false, .int .i64 0, .string p.src, .string p.dst, .string p.opt, .slice A7 l.length c7]).setRow G (flags N seen')) := Store.run_store_one K8 (by rw [flags_size]; exact ha) (by kernel_rfl) rfl _ (flags_set o1 o2) rfl
            have K9 : Blk (((w7.alloc (.cells #[.int .i64 0, .int .i64 0, .int .i64 0, .int .i64 0, .bool false, .bool false, .int .i64 0, .string ⟨#[]⟩, .string ⟨#[]⟩, .string ⟨#[]⟩, .slice none 0 0] 32)).setRow w7.heap.size #[.int .i64 p.tos, .int .i64 p.id, .int .i64 p.ttl, .int .i64 p.proto, .bool p.df, .bool false, .int .i64 0, .string p.src, .string p.dst, .string p.opt, .slice A7 l.length c7]).setRow G (flags N seen')) G 4 (flags N seen') := setRow_heap _ _ _ _ _ _ K8
            have B7 : Below w3.heap.size w3 w7 := HW6.out.trans (hk.below HW6.out.size fun k z => .inl z)
            have B9 : Below w3.heap.size w3 (((w7.alloc (.cells #[.int .i64 0, .int .i64 0, .int .i64 0, .int .i64 0, .bool false, .bool false, .int .i64 0, .string ⟨#[]⟩, .string ⟨#[]⟩, .string ⟨#[]⟩, .slice none 0 0] 32)).setRow w7.heap.size #[.int .i64 p.tos, .int .i64 p.id, .int .i64 p.ttl, .int .i64 p.proto, .bool p.df, .bool false, .int .i64 0, .string p.src, .string p.dst, .string p.opt, .slice A7 l.length c7]).setRow G (flags N seen')) := Com.setRow_bel (B7.trans (XB.mono B7.size)) GG.out _
            have H9 : Holds (((w7.alloc (.cells #[.int .i64 0, .int .i64 0, .int .i64 0, .int .i64 0, .bool false, .bool false, .int .i64 0, .string ⟨#[]⟩, .string ⟨#[]⟩, .string ⟨#[]⟩, .slice none 0 0] 32)).setRow w7.heap.size #[.int .i64 p.tos, .int .i64 p.id, .int .i64 p.ttl, .int .i64 p.proto, .bool p.df, .bool false, .int .i64 0, .string p.src, .string p.dst, .string p.opt, .slice A7 l.length c7]).setRow G (flags N seen')) w7.heap.size A7 l.length c7 l := holds_row (hh.below XB) K8 _
            have S7 : w7.heap.size ≤ (((w7.alloc (.cells #[.int .i64 0, .int .i64 0, .int .i64 0, .int .i64 0, .bool false, .bool false, .int .i64 0, .string ⟨#[]⟩, .string ⟨#[]⟩, .string ⟨#[]⟩, .slice none 0 0] 32)).setRow w7.heap.size #[.int .i64 p.tos, .int .i64 p.id, .int .i64 p.ttl, .int .i64 p.proto, .bool p.df, .bool false, .int .i64 0, .string p.src, .string p.dst, .string p.opt, .slice A7 l.length c7]).setRow G (flags N seen')).heap.size := by simp [World.setRow]
            have KQ9 := (setRow_other _ G w7.heap.size (flags N seen') (by have := K7.lt; omega)).trans KB7.out
            obtain ⟨w9, hw9⟩ : ∃ w9, ((w7.alloc (.cells #[.int .i64 0, .int .i64 0, .int .i64 0, .int .i64 0, .bool false, .bool false, .int .i64 0, .string ⟨#[]⟩, .string ⟨#[]⟩, .string ⟨#[]⟩, .slice none 0 0] 32)).setRow w7.heap.size #[.int .i64 p.tos, .int .i64 p.id, .int .i64 p.ttl, .int .i64 p.proto, .bool p.df, .bool false, .int .i64 0, .string p.src, .string p.dst, .string p.opt, .slice A7 l.length c7]).setRow G (flags N seen') = w9 := ⟨_, rfl⟩
            rw [hw9] at r9 K9 B9 H9 KQ9 S7
            have R9 := Lib.hid r9
            have K9 := Lib.hid K9
            have B9 := Lib.hid B9
            have H9 := Lib.hid H9
            have KQ9 := Lib.hid KQ9
            have S7 := Lib.hid (show w7.heap.size ≤ w9.heap.size from S7)
            have IT := Lib.hid (And.intro o1 (And.intro o2 (And.intro o3 (And.intro o4 (And.intro o6 o7)))))
            clear hs hk hh XB K8 K7 kb r9 B7 hw9 o1 o2 o3 o4 o6 o7 PD RP c1 c2 g7 HS6 HF6 HK6 HW6
            unfold ansP ansB val Pkt.zero
            dsimp only
            go_wp2_with (first | (refine Store.at_store 4 (.tmp 135) (.const (.bool true)) ?_ ?_; exact rfl; refine wpList_store_run rfl 4 (.tmp 135) (.const (.bool true)) rfl ⟨G, a, none⟩ (.bool true) rfl rfl R9.out ?_) | (refine Store.at_store 32 (.tmp 15) (.tmp 128) ?_ ?_; exact rfl; refine wpList_store_row rfl 32 (.tmp 15) (.tmp 128) rfl w7.heap.size #[.int .i64 p.tos, .int .i64 p.id, .int .i64 p.ttl, .int .i64 p.proto, .bool p.df, .bool false, .int .i64 0, .string p.src, .string p.dst, .string p.opt, .slice A7 l.length c7] rfl rfl 32 _ J7.out (by kernel_rfl) rfl one7.out ?_))
            go_loopw [18, 19] (fun av kv wr => ∃ k : Nat, kv = .int .i64 (k : Int) ∧ k ≤ N ∧ av = .bool (decide (∀ j, j < k → j ∈ seen')) ∧ Hid (w9 = wr)) (fun _ kv _ => N - (intOf kv).toNat)
            case atStart => exact ⟨0, rfl, Nat.zero_le _, by rw [decide_eq_true (fun j hj => absurd hj (Nat.not_lt_zero _))], Lib.hid rfl⟩
            case round =>
              obtain ⟨k, rfl, hkN, rfl, HWr⟩ := hrel
              obtain rfl := HWr.out
              by_cases kl : k < N
              · have q1 : decide (k < N) = true := decide_eq_true kl
                have q2 : IntKind.i64.wrap ((k : Int) + 1) = ((k + 1 : Nat) : Int) := by rw [IntWalk.i64_in _ (by have := N2.out; omega)]; omega
                have q3 : w9.cell? ⟨G, k, none⟩ = some (.bool (decide (k ∈ seen'))) := (K9.out.cell k).trans (flags_at kl)
                have q4 : decide (∀ j, j < k + 1 → j ∈ seen') = (decide (∀ j, j < k → j ∈ seen') && decide (k ∈ seen')) := by
                  rw [← Bool.decide_and]
                  refine decide_eq_decide.2 ⟨fun z => ⟨fun j hj => z j (by omega), z k (by omega)⟩, fun z j hj => ?_⟩
                  rcases Nat.lt_or_ge j k with y | y
                  · exact z.1 j y
                  · obtain rfl : j = k := by omega
                    exact z.2
                have Q4 := Lib.hid q4
                clear q4
                generalize decide (∀ j, j < k → j ∈ seen') = b1 at *
                generalize decide (k ∈ seen') = b2 at *
                cases b1
                · go_wp2_with fail
                  go_roundw
                  case rel => exact ⟨k + 1, by go_num, by omega, by rw [Q4.out]; rfl, Lib.hid (by trivial)⟩
                  case measure => simp [intOf]; omega
                · go_wp2_with fail
                  go_roundw
                  case rel => exact ⟨k + 1, by go_num, by omega, by rw [Q4.out]; rfl, Lib.hid (by trivial)⟩
                  case measure => simp [intOf]; omega
              · obtain rfl : k = N := by omega
                have q1 : decide (k < k) = false := decide_eq_false (by omega)
                have q5 : decide (∀ j, j < k → j ∈ seen') = true := by
                  obtain ⟨_, _, _, _, o6, _⟩ := IT.out
                  rw [HN.out] at o6
                  exact decide_eq_true (by simpa using o6)
                rw [q5]
                clear q5
                go_wp2_with fail
                have HG9 := Lib.hid (GH.out w9 (B3.out.trans (B9.out.mono B3.out.size)))
                refine (AW.out w9 HG9.out).mono ?_
                rintro e w10 ⟨rfl, hb⟩
                have B10 := Lib.hid (B9.out.trans (hb.mono B9.out.size))
                have RQ := Part.run_part w10 w7.heap.size 0 32 [.int .i64 p.tos, .int .i64 p.id, .int .i64 p.ttl, .int .i64 p.proto, .bool p.df, .bool false, .int .i64 0, .string p.src, .string p.dst, .string p.opt, .slice A7 l.length c7] _ Tryd.underlying32 rfl (by kernel_rfl) (fun j v hv => by
                  rw [Nat.zero_add]
                  exact keep_cell ((Blk.cell KQ9.out j).trans (by simpa using hv)) hb)
                have RP := Part.run_part w10 w.heap.size 0 32 [.int .i64 p.tos, .int .i64 p.id, .int .i64 p.ttl, .int .i64 p.proto, .bool p.df, .bool false, .int .i64 0, .string p.src, .string p.dst, .string p.opt, .slice A n c] _ Tryd.underlying32 rfl (by kernel_rfl) (fun j v hv => by
                  rw [Nat.zero_add]
                  exact keep_cell ((K3.out.cell j).trans (by simpa using hv)) B10.out)
                have SY := Lib.hid (same_yes { p with off := 0, mf := false } A7 A l.length c7 n c w10.heap.size l w10 ((H9.out.below (hb.mono (by have := S7.out; omega))).more (Nat.le_trans S7.out hb.size)) ((HH.out w10 (B3.out.trans (B10.out.mono B3.out.size))).more (Nat.le_trans HBB.out (Nat.le_trans B3.out.size B10.out.size))) (Nat.le_refl _))
                have B11 := Lib.hid (B3.out.trans (B10.out.mono B3.out.size))
                unfold val at SY
                clear hb
                go_wp2_with (first | (refine Store.at_load 32 (.tmp 15) ?_ ?_; exact rfl; refine Part.wpList_load_part rfl 32 (.tmp 15) rfl w7.heap.size 0 [.int .i64 p.tos, .int .i64 p.id, .int .i64 p.ttl, .int .i64 p.proto, .bool p.df, .bool false, .int .i64 0, .string p.src, .string p.dst, .string p.opt, .slice A7 l.length c7] rfl RQ ?_) | (refine Store.at_load 32 (.tmp 4) ?_ ?_; exact rfl; refine Part.wpList_load_part rfl 32 (.tmp 4) rfl w.heap.size 0 [.int .i64 p.tos, .int .i64 p.id, .int .i64 p.ttl, .int .i64 p.proto, .bool p.df, .bool false, .int .i64 0, .string p.src, .string p.dst, .string p.opt, .slice A n c] rfl RP ?_))
                refine SY.out.mono ?_
                rintro e w11 ⟨rfl, hb⟩
                have B12 := Lib.hid (B11.out.trans (hb.mono B11.out.size))
                clear hb SY
                go_wp2_with fail
                go_ret
                exact ⟨rfl, B12.out⟩
        · have g7 : (q.id != p.id) = false := by simpa using qi
          have HS6 := HSo
          have HF6 := HF
          have HK6 := HK
          have HW6 := HW
          clear qi HSo HF HK HW
          obtain ⟨y, hy⟩ : ∃ y, ps[a]? = some y := ⟨_, List.getElem?_eq_getElem (by rw [HN.out]; exact ha)⟩
          obtain ⟨A8, c8, e2, hat⟩ := P3.out
          obtain ⟨b3, o3, A9, c9, e3, hlt, hcl, hol⟩ := hat a y hy
          injection e2 with e4 e5 e6
          subst e4
          subst e3
          have RP : (loadVar 32 ⟨b3, o3 + a * 11, none⟩).run Tryd.prog wo = .ok (.agg (pcCells y.1 (.slice A9 y.2.length c9)).toArray) wo := Part.run_part wo b3 (o3 + a * 11) 32 (pcCells y.1 (.slice A9 y.2.length c9)) _ Tryd.underlying32 rfl (by kernel_rfl) (hcl.below HW6.out hlt)
          have yv := chk_zero (RN.out.ok y (List.mem_of_getElem? hy))
          have PD := Lib.hid (S.solo_put 0 y.1 HS6.out (GH.out _ (B3.out.trans (HW6.out.mono B3.out.size))) (.inl HBL.out) (hol.below HW6.out) HW6.out.size (fun b o' _ e => .inl (by
            subst e
            obtain ⟨b', o'', e', hb', _⟩ := hol.2.2.2.2 (RN.out.pos y (List.mem_of_getElem? hy))
            injection e' with e'
            injection e' with e'
            subst e'
            exact hb')) (by have := yv.1.s; omega) (by have := yv.1.d; omega) (by have := yv.1.z; omega) (by omega) (by decide) (by decide))
          clear hcl hol hlt yv hat e5 e6
          unfold val pcCells at *
          go_wp2_with (refine Part.wpList_load_part rfl 32 (.tmp 125) rfl b3 (o3 + a * 11) [.int .i64 y.1.tos, .int .i64 y.1.id, .int .i64 y.1.ttl, .int .i64 y.1.proto, .bool y.1.df, .bool y.1.mf, .int .i64 y.1.off, .string y.1.src, .string y.1.dst, .string y.1.opt, .slice A9 y.2.length c9] rfl RP ?_)
          obtain ⟨d, st', seen', o1, o2, o3, o4, o5, o6, o7⟩ := RN.out.out OID.out HF6.out.1 HF6.out.2.1 HF6.out.2.2.1 HF6.out.2.2.2.1 hy
          have HALL := Lib.hid HF6.out.2.2.2.2
          rw [show putJ 0 (y.1, y.2) st = _ from o5] at PD
          clear o5
          refine PD.out.mono ?_
          rintro e w7 ⟨⟨A7, c7, rfl, hh⟩, hs, hk⟩
          cases d
          · have XB := (Below.refl w7.heap.size w7).alloc (Nat.le_refl _) (.cells #[.int .i64 0, .int .i64 0, .int .i64 0, .int .i64 0, .bool false, .bool false, .int .i64 0, .string ⟨#[]⟩, .string ⟨#[]⟩, .string ⟨#[]⟩, .slice A7 0 c7] 32)
            have K8 : Blk (w7.alloc (.cells #[.int .i64 0, .int .i64 0, .int .i64 0, .int .i64 0, .bool false, .bool false, .int .i64 0, .string ⟨#[]⟩, .string ⟨#[]⟩, .string ⟨#[]⟩, .slice A7 0 c7] 32)) G 4 (flags N seen) := Blk.alloc ((hk.block G (.inr rfl) HK6.out.lt).trans HK6.out) _
            have r9 : (storeVar 4 ⟨G, a, none⟩ (.bool true)).run Tryd.prog (w7.alloc (.cells #[.int .i64 0, .int .i64 0, .int .i64 0, .int .i64 0, .bool false, .bool false, .int .i64 0, .string ⟨#[]⟩, .string ⟨#[]⟩, .string ⟨#[]⟩, .slice A7 0 c7] 32)) = .ok () ((w7.alloc (.cells #[.int .i64 0, .int .i64 0, .int .i64 0, .int .i64 0, .bool false, .bool false, .int .i64 0, .string ⟨#[]⟩, .string ⟨#[]⟩, .string ⟨#[]⟩, .slice A7 0 c7] 32)).setRow G (flags N seen')) := Store.run_store_one K8 (by rw [flags_size]; exact ha) (by kernel_rfl) rfl _ (flags_set o1 o2) rfl
            have K9 : Blk ((w7.alloc (.cells #[.int .i64 0, .int .i64 0, .int .i64 0, .int .i64 0, .bool false, .bool false, .int .i64 0, .string ⟨#[]⟩, .string ⟨#[]⟩, .string ⟨#[]⟩, .slice A7 0 c7] 32)).setRow G (flags N seen')) G 4 (flags N seen') := setRow_heap _ _ _ _ _ _ K8
            have B7 : Below w3.heap.size w3 w7 := HW6.out.trans (hk.below HW6.out.size fun k z => .inl z)
            have B9 : Below w3.heap.size w3 ((w7.alloc (.cells #[.int .i64 0, .int .i64 0, .int .i64 0, .int .i64 0, .bool false, .bool false, .int .i64 0, .string ⟨#[]⟩, .string ⟨#[]⟩, .string ⟨#[]⟩, .slice A7 0 c7] 32)).setRow G (flags N seen')) := Com.setRow_bel (B7.trans (XB.mono B7.size)) GG.out _
            have S9 : Solo (JX JA g st') (fun k => k < w3.heap.size ∨ k = G) ((w7.alloc (.cells #[.int .i64 0, .int .i64 0, .int .i64 0, .int .i64 0, .bool false, .bool false, .int .i64 0, .string ⟨#[]⟩, .string ⟨#[]⟩, .string ⟨#[]⟩, .slice A7 0 c7] 32)).setRow G (flags N seen')) := Solo.write (S.obj g st') (hs.up (S.obj g st') XB) (by simp [World.setRow]) fun k _ nk => setRow_other _ _ _ _ fun e => nk (.inr e)
            obtain ⟨w9, hw9⟩ : ∃ w9, (w7.alloc (.cells #[.int .i64 0, .int .i64 0, .int .i64 0, .int .i64 0, .bool false, .bool false, .int .i64 0, .string ⟨#[]⟩, .string ⟨#[]⟩, .string ⟨#[]⟩, .slice A7 0 c7] 32)).setRow G (flags N seen') = w9 := ⟨_, rfl⟩
            rw [hw9] at r9 K9 B9 S9
            have R9 := Lib.hid r9
            have K9 := Lib.hid K9
            have B9 := Lib.hid B9
            have S9 := Lib.hid S9
            have IT := Lib.hid (And.intro o1 (And.intro o2 (And.intro o3 (And.intro o4 (And.intro o6 o7)))))
            clear hs hk hh XB K8 r9 B7 hw9 o1 o2 o3 o4 o6 o7 PD RP c1 c2 g7 HS6 HF6 HK6 HW6
            unfold ansP ansB val Pkt.zero
            dsimp only
            go_wp2_with (refine Store.at_store 4 (.tmp 135) (.const (.bool true)) ?_ ?_; exact rfl; refine wpList_store_run rfl 4 (.tmp 135) (.const (.bool true)) rfl ⟨G, a, none⟩ (.bool true) rfl rfl R9.out ?_)
            go_loopw [18, 19] (fun av kv wr => ∃ k : Nat, kv = .int .i64 (k : Int) ∧ k ≤ N ∧ av = .bool (decide (∀ j, j < k → j ∈ seen')) ∧ Hid (w9 = wr)) (fun _ kv _ => N - (intOf kv).toNat)
            case atStart => exact ⟨0, rfl, Nat.zero_le _, by rw [decide_eq_true (fun j hj => absurd hj (Nat.not_lt_zero _))], Lib.hid rfl⟩
            case round =>
              obtain ⟨k, rfl, hkN, rfl, HWr⟩ := hrel
              obtain rfl := HWr.out
              by_cases kl : k < N
              · have q1 : decide (k < N) = true := decide_eq_true kl
                have q2 : IntKind.i64.wrap ((k : Int) + 1) = ((k + 1 : Nat) : Int) := by rw [IntWalk.i64_in _ (by have := N2.out; omega)]; omega
                have q3 : w9.cell? ⟨G, k, none⟩ = some (.bool (decide (k ∈ seen'))) := (K9.out.cell k).trans (flags_at kl)
                have q4 : decide (∀ j, j < k + 1 → j ∈ seen') = (decide (∀ j, j < k → j ∈ seen') && decide (k ∈ seen')) := by
                  rw [← Bool.decide_and]
                  refine decide_eq_decide.2 ⟨fun z => ⟨fun j hj => z j (by omega), z k (by omega)⟩, fun z j hj => ?_⟩
                  rcases Nat.lt_or_ge j k with y | y
                  · exact z.1 j y
                  · obtain rfl : j = k := by omega
                    exact z.2
                have Q4 := Lib.hid q4
                clear q4
                generalize decide (∀ j, j < k → j ∈ seen') = b1 at *
                generalize decide (k ∈ seen') = b2 at *
                cases b1
                · go_wp2_with fail
                  go_roundw
                  case rel => exact ⟨k + 1, by go_num, by omega, by rw [Q4.out]; rfl, Lib.hid (by trivial)⟩
                  case measure => simp [intOf]; omega
                · go_wp2_with fail
                  go_roundw
                  case rel => exact ⟨k + 1, by go_num, by omega, by rw [Q4.out]; rfl, Lib.hid (by trivial)⟩
                  case measure => simp [intOf]; omega
              · obtain rfl : k = N := by omega
                have q1 : decide (k < k) = false := decide_eq_false (by omega)
                have q5 : decide (∀ j, j < k → j ∈ seen') = false := by
                  obtain ⟨_, _, _, _, o6, _⟩ := IT.out
                  rw [HN.out] at o6
                  exact decide_eq_false (by simpa using o6)
                rw [q5]
                clear q5
                go_wp2_with fail
                go_roundw
                case rel =>
                  obtain ⟨o1, o2, o3, o4, o6, o7⟩ := IT.out
                  refine ⟨i + 1, seen', st', by go_num, by omega, S9, Lib.hid ⟨(o7 trivial).1, o4, o3, (o7 trivial).2, fun j hj => ?_⟩, K9, B9⟩
                  rcases AJ.out j hj with z | z
                  · exact (o2 j).2 (.inl (HALL.out j z))
                  · exact (o2 j).2 (.inr z)
                case measure => simp [intOf]; omega
          · have one7 : Hid ((#[.int .i64 p.tos, .int .i64 p.id, .int .i64 p.ttl, .int .i64 p.proto, .bool p.df, .bool false, .int .i64 0, .string p.src, .string p.dst, .string p.opt, .slice A7 l.length c7] : Array Value).all (·.oneCell') = true) := Lib.hid (by simp [Value.oneCell'])
            have J7 := Lib.hid (Blk.new w7 32 #[.int .i64 0, .int .i64 0, .int .i64 0, .int .i64 0, .bool false, .bool false, .int .i64 0, .string ⟨#[]⟩, .string ⟨#[]⟩, .string ⟨#[]⟩, .slice none 0 0])
            obtain ⟨kb, XB⟩ := alloc_box w7 #[.int .i64 p.tos, .int .i64 p.id, .int .i64 p.ttl, .int .i64 p.proto, .bool p.df, .bool false, .int .i64 0, .string p.src, .string p.dst, .string p.opt, .slice A7 l.length c7] one7.out rfl
            have KB7 := Lib.hid kb
            have K7 : Blk w7 G 4 (flags N seen) := (hk.block G (.inr rfl) HK6.out.lt).trans HK6.out
            have K8 : Blk ((w7.alloc (.cells #[.int .i64 0, .int .i64 0, .int .i64 0, .int .i64 0, .bool false, .bool false, .int .i64 0, .string ⟨#[]⟩, .string ⟨#[]⟩, .string ⟨#[]⟩, .slice none 0 0] 32)).setRow w7.heap.size #[.int .i64 p.tos, .int .i64 p.id, .int .i64 p.ttl, .int .i64 p.proto, .bool p.df, .bool false, .int .i64 0, .string p.src, .string p.dst, .string p.opt, .slice A7 l.length c7]) G 4 (flags N seen) := K7.below XB K7.lt
            have r9 : (storeVar 4 ⟨G, a, none⟩ (.bool true)).run Tryd.prog ((w7.alloc (.cells #[.int .i64 0, .int .i64 0, .int .i64 0, .int .i64 0, .bool false, .bool false, .int .i64 0, .string ⟨#[]⟩, .string ⟨#[]⟩, .string ⟨#[]⟩, .slice none 0 0] 32)).setRow w7.heap.size #[.int .i64 p.tos, .int .i64 p.id, .int .i64 p.ttl, .int .i64 p.proto, .bool p.df, .bool false, .int .i64 0, .string p.src, .string p.dst, .string p.opt, .slice A7 l.length c7]) = .ok () (((w7.alloc (.cells #[.int .i64 0, .int .i64 0, .int .i64 0, .int .i64 0, .bool false, .bool false, .int .i64 0, .string ⟨#[]⟩, .string ⟨#[]⟩, .string ⟨#[]⟩, .slice none 0 0] 32)).setRow w7.heap.size #[.int .i64 p.tos, .int .i64 p.id, .int .i64 p.ttl, .int .i64 p.proto, .bool p.df, .bool false, .int .i64 0, .string p.src, .string p.dst, .string p.opt, .slice A7 l.length c7]).setRow G (flags N seen')) := Store.run_store_one K8 (by rw [flags_size]; exact ha) (by kernel_rfl) rfl _ (flags_set o1 o2) rfl
            have K9 : Blk (((w7.alloc (.cells #[.int .i64 0, .int .i64 0, .int .i64 0, .int .i64 0, .bool false, .bool false, .int .i64 0, .string ⟨#[]⟩, .string ⟨#[]⟩, .string ⟨#[]⟩, .slice none 0 0] 32)).setRow w7.heap.size #[.int .i64 p.tos, .int .i64 p.id, .int .i64 p.ttl, .int .i64 p.proto, .bool p.df, .bool false, .int .i64 0, .string p.src, .string p.dst, .string p.opt, .slice A7 l.length c7]).setRow G (flags N seen')) G 4 (flags N seen') := setRow_heap _ _ _ _ _ _ K8
            have B7 : Below w3.heap.size w3 w7 := HW6.out.trans (hk.below HW6.out.size fun k z => .inl z)
            have B9 : Below w3.heap.size w3 (((w7.alloc (.cells #[.int .i64 0, .int .i64 0, .int .i64 0, .int .i64 0, .bool false, .bool false, .int .i64 0, .string ⟨#[]⟩, .string ⟨#[]⟩, .string ⟨#[]⟩, .slice none 0 0] 32)).setRow w7.heap.size #[.int .i64 p.tos, .int .i64 p.id, .int .i64 p.ttl, .int .i64 p.proto, .bool p.df, .bool false, .int .i64 0, .string p.src, .string p.dst, .string p.opt, .slice A7 l.length c7]).setRow G (flags N seen')) := Com.setRow_bel (B7.trans (XB.mono B7.size)) GG.out _
            have H9 : Holds (((w7.alloc (.cells #[.int .i64 0, .int .i64 0, .int .i64 0, .int .i64 0, .bool false, .bool false, .int .i64 0, .string ⟨#[]⟩, .string ⟨#[]⟩, .string ⟨#[]⟩, .slice none 0 0] 32)).setRow w7.heap.size #[.int .i64 p.tos, .int .i64 p.id, .int .i64 p.ttl, .int .i64 p.proto, .bool p.df, .bool false, .int .i64 0, .string p.src, .string p.dst, .string p.opt, .slice A7 l.length c7]).setRow G (flags N seen')) w7.heap.size A7 l.length c7 l := holds_row (hh.below XB) K8 _
            have S7 : w7.heap.size ≤ (((w7.alloc (.cells #[.int .i64 0, .int .i64 0, .int .i64 0, .int .i64 0, .bool false, .bool false, .int .i64 0, .string ⟨#[]⟩, .string ⟨#[]⟩, .string ⟨#[]⟩, .slice none 0 0] 32)).setRow w7.heap.size #[.int .i64 p.tos, .int .i64 p.id, .int .i64 p.ttl, .int .i64 p.proto, .bool p.df, .bool false, .int .i64 0, .string p.src, .string p.dst, .string p.opt, .slice A7 l.length c7]).setRow G (flags N seen')).heap.size := by simp [World.setRow]
            have KQ9 := (setRow_other _ G w7.heap.size (flags N seen') (by have := K7.lt; omega)).trans KB7.out
            obtain ⟨w9, hw9⟩ : ∃ w9, ((w7.alloc (.cells #[.int .i64 0, .int .i64 0, .int .i64 0, .int .i64 0, .bool false, .bool false, .int .i64 0, .string ⟨#[]⟩, .string ⟨#[]⟩, .string ⟨#[]⟩, .slice none 0 0] 32)).setRow w7.heap.size #[.int .i64 p.tos, .int .i64 p.id, .int .i64 p.ttl, .int .i64 p.proto, .bool p.df, .bool false, .int .i64 0, .string p.src, .string p.dst, .string p.opt, .slice A7 l.length c7]).setRow G (flags N seen') = w9 := ⟨_, rfl⟩
            rw [hw9] at r9 K9 B9 H9 KQ9 S7
            have R9 := Lib.hid r9
            have K9 := Lib.hid K9
            have B9 := Lib.hid B9
            have H9 := Lib.hid H9
            have KQ9 := Lib.hid KQ9
            have S7 := Lib.hid (show w7.heap.size ≤ w9.heap.size from S7)
            have IT := Lib.hid (And.intro o1 (And.intro o2 (And.intro o3 (And.intro o4 (And.intro o6 o7)))))
            clear hs hk hh XB K8 K7 kb r9 B7 hw9 o1 o2 o3 o4 o6 o7 PD RP c1 c2 g7 HS6 HF6 HK6 HW6
            unfold ansP ansB val Pkt.zero
            dsimp only
            go_wp2_with (first | (refine Store.at_store 4 (.tmp 135) (.const (.bool true)) ?_ ?_; exact rfl; refine wpList_store_run rfl 4 (.tmp 135) (.const (.bool true)) rfl ⟨G, a, none⟩ (.bool true) rfl rfl R9.out ?_) | (refine Store.at_store 32 (.tmp 15) (.tmp 128) ?_ ?_; exact rfl; refine wpList_store_row rfl 32 (.tmp 15) (.tmp 128) rfl w7.heap.size #[.int .i64 p.tos, .int .i64 p.id, .int .i64 p.ttl, .int .i64 p.proto, .bool p.df, .bool false, .int .i64 0, .string p.src, .string p.dst, .string p.opt, .slice A7 l.length c7] rfl rfl 32 _ J7.out (by kernel_rfl) rfl one7.out ?_))
            go_loopw [18, 19] (fun av kv wr => ∃ k : Nat, kv = .int .i64 (k : Int) ∧ k ≤ N ∧ av = .bool (decide (∀ j, j < k → j ∈ seen')) ∧ Hid (w9 = wr)) (fun _ kv _ => N - (intOf kv).toNat)
            case atStart => exact ⟨0, rfl, Nat.zero_le _, by rw [decide_eq_true (fun j hj => absurd hj (Nat.not_lt_zero _))], Lib.hid rfl⟩
            case round =>
              obtain ⟨k, rfl, hkN, rfl, HWr⟩ := hrel
              obtain rfl := HWr.out
              by_cases kl : k < N
              · have q1 : decide (k < N) = true := decide_eq_true kl
                have q2 : IntKind.i64.wrap ((k : Int) + 1) = ((k + 1 : Nat) : Int) := by rw [IntWalk.i64_in _ (by have := N2.out; omega)]; omega
                have q3 : w9.cell? ⟨G, k, none⟩ = some (.bool (decide (k ∈ seen'))) := (K9.out.cell k).trans (flags_at kl)
                have q4 : decide (∀ j, j < k + 1 → j ∈ seen') = (decide (∀ j, j < k → j ∈ seen') && decide (k ∈ seen')) := by
                  rw [← Bool.decide_and]
                  refine decide_eq_decide.2 ⟨fun z => ⟨fun j hj => z j (by omega), z k (by omega)⟩, fun z j hj => ?_⟩
                  rcases Nat.lt_or_ge j k with y | y
                  · exact z.1 j y
                  · obtain rfl : j = k := by omega
                    exact z.2
                have Q4 := Lib.hid q4
                clear q4
                generalize decide (∀ j, j < k → j ∈ seen') = b1 at *
                generalize decide (k ∈ seen') = b2 at *
                cases b1
                · go_wp2_with fail
                  go_roundw
                  case rel => exact ⟨k + 1, by go_num, by omega, by rw [Q4.out]; rfl, Lib.hid (by trivial)⟩
                  case measure => simp [intOf]; omega
                · go_wp2_with fail
                  go_roundw
                  case rel => exact ⟨k + 1, by go_num, by omega, by rw [Q4.out]; rfl, Lib.hid (by trivial)⟩
                  case measure => simp [intOf]; omega
              · obtain rfl : k = N := by omega
                have q1 : decide (k < k) = false := decide_eq_false (by omega)
                have q5 : decide (∀ j, j < k → j ∈ seen') = true := by
                  obtain ⟨_, _, _, _, o6, _⟩ := IT.out
                  rw [HN.out] at o6
                  exact decide_eq_true (by simpa using o6)
                rw [q5]
                clear q5
                go_wp2_with fail
                have HG9 := Lib.hid (GH.out w9 (B3.out.trans (B9.out.mono B3.out.size)))
                refine (AW.out w9 HG9.out).mono ?_
                rintro e w10 ⟨rfl, hb⟩
                have B10 := Lib.hid (B9.out.trans (hb.mono B9.out.size))
                have RQ := Part.run_part w10 w7.heap.size 0 32 [.int .i64 p.tos, .int .i64 p.id, .int .i64 p.ttl, .int .i64 p.proto, .bool p.df, .bool false, .int .i64 0, .string p.src, .string p.dst, .string p.opt, .slice A7 l.length c7] _ Tryd.underlying32 rfl (by kernel_rfl) (fun j v hv => by
                  rw [Nat.zero_add]
                  exact keep_cell ((Blk.cell KQ9.out j).trans (by simpa using hv)) hb)
                have RP := Part.run_part w10 w.heap.size 0 32 [.int .i64 p.tos, .int .i64 p.id, .int .i64 p.ttl, .int .i64 p.proto, .bool p.df, .bool false, .int .i64 0, .string p.src, .string p.dst, .string p.opt, .slice A n c] _ Tryd.underlying32 rfl (by kernel_rfl) (fun j v hv => by
                  rw [Nat.zero_add]
                  exact keep_cell ((K3.out.cell j).trans (by simpa using hv)) B10.out)
                have SY := Lib.hid (same_yes { p with off := 0, mf := false } A7 A l.length c7 n c w10.heap.size l w10 ((H9.out.below (hb.mono (by have := S7.out; omega))).more (Nat.le_trans S7.out hb.size)) ((HH.out w10 (B3.out.trans (B10.out.mono B3.out.size))).more (Nat.le_trans HBB.out (Nat.le_trans B3.out.size B10.out.size))) (Nat.le_refl _))
                have B11 := Lib.hid (B3.out.trans (B10.out.mono B3.out.size))
                unfold val at SY
                clear hb
                go_wp2_with (first | (refine Store.at_load 32 (.tmp 15) ?_ ?_; exact rfl; refine Part.wpList_load_part rfl 32 (.tmp 15) rfl w7.heap.size 0 [.int .i64 p.tos, .int .i64 p.id, .int .i64 p.ttl, .int .i64 p.proto, .bool p.df, .bool false, .int .i64 0, .string p.src, .string p.dst, .string p.opt, .slice A7 l.length c7] rfl RQ ?_) | (refine Store.at_load 32 (.tmp 4) ?_ ?_; exact rfl; refine Part.wpList_load_part rfl 32 (.tmp 4) rfl w.heap.size 0 [.int .i64 p.tos, .int .i64 p.id, .int .i64 p.ttl, .int .i64 p.proto, .bool p.df, .bool false, .int .i64 0, .string p.src, .string p.dst, .string p.opt, .slice A n c] rfl RP ?_))
                refine SY.out.mono ?_
                rintro e w11 ⟨rfl, hb⟩
                have B12 := Lib.hid (B11.out.trans (hb.mono B11.out.size))
                clear hb SY
                go_wp2_with fail
                go_ret
                exact ⟨rfl, B12.out⟩
    · exfalso
      obtain ⟨_, _, _, ⟨j, hj, hjs⟩, hall⟩ := HF.out
      have := HN.out
      have := TT.out
      exact hjs (hall j (by omega))
end Go.Proofs.YtnpggkpcadefjaaDoor.LawSplits21

/- JoinSplits, whole: any arguments. -/
set_option linter.unusedVariables false
namespace Go.Proofs.YtnpggkpcadefjaaDoor.LawSplits22
open Go.RowKit Go.Proofs.YtnpggkpcadefjaaDoor.Sums Go.Proofs.YtnpggkpcadefjaaDoor.Mem Go.Proofs.YtnpggkpcadefjaaDoor.Blk Go.Proofs.YtnpggkpcadefjaaDoor.Pkt Go.Proofs.YtnpggkpcadefjaaDoor.Check Go.Proofs.YtnpggkpcadefjaaDoor.LawSplits20 Go.Proofs.YtnpggkpcadefjaaDoor.Errno Go.Proofs.YtnpggkpcadefjaaDoor.Args20

theorem splits_all (p q : Pkt) (A A' O : Option Addr) (n c n' c' no co : Nat) (l l' lo : List Int) (x : Int) (w : World) (hg : Handle w) (h : Holds w w.heap.size A n c l) (hq : Holds w w.heap.size A' n' c' l') (hO : no ≤ 1048576 → HoldsI w w.heap.size O no co lo) (hx : -9223372036854775808 ≤ x ∧ x ≤ 9223372036854775807)
    (s1 : p.src.size ≤ 140737488355328) (s2 : p.dst.size ≤ 140737488355328) (s3 : p.opt.size ≤ 140737488355328) (s4 : n ≤ 140737488355328) (k1 : q.src.size ≤ 140737488355328) (k2 : q.dst.size ≤ 140737488355328) (k3 : q.opt.size ≤ 140737488355328) (k4 : n' ≤ 140737488355328) :
    Calls Tryd.prog 4 #[val p (.slice A n c), .int .i64 x, .slice O no co, val q (.slice A' n' c')] w fun e w' => e = .returned (.bool true) ∧ Below w.heap.size w w' := by
  cases hb : smallB p q n n' no with
  | false => exact splits_big p q A A' O n c n' c' no co x w s1 s2 s3 s4 k1 k2 k3 k4 hb
  | true =>
    refine LawSplits21.splits_any Spl9.split_any Jc16.join_spec p q A A' O n c n' c' no co w.heap.size l l' lo x w hg h (Nat.le_refl _) hq (fun hn => ?_) hx.1 hx.2 hb
    obtain ⟨h1, h2, h3, h4⟩ := hO (by omega)
    refine ⟨h1, fun i v hv => ⟨h3 v (List.mem_of_getElem? hv), ?_⟩⟩
    have hi := (List.getElem?_eq_some_iff.1 hv).1
    obtain ⟨b, o, e, hb, hc⟩ := h4 (by omega)
    refine ⟨b, o, e, hb, ?_⟩
    have := hc i (by omega)
    rw [List.getD_eq_getElem?_getD, hv] at this
    exact this
end Go.Proofs.YtnpggkpcadefjaaDoor.LawSplits22

