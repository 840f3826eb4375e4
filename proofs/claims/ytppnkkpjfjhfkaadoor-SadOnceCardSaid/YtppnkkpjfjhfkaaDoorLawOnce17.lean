/- The law SadOnce. -/
import Derived.Test.YtppnkkpjfjhfkaaDoorM40
import Derived.Test.YtppnkkpjfjhfkaaDoorM39
set_option linter.unusedVariables false
set_option maxRecDepth 100000
namespace Go.Proofs.YtppnkkpjfjhfkaaDoor.LawOnce17
open Go.RowKit Go.Proofs.YtppnkkpjfjhfkaaDoor.Mem Go.Proofs.YtppnkkpjfjhfkaaDoor.Blk Go.Proofs.YtppnkkpjfjhfkaaDoor.ArgT Go.Proofs.YtppnkkpjfjhfkaaDoor.Part Go.Proofs.YtppnkkpjfjhfkaaDoor.Longs Go.Proofs.YtppnkkpjfjhfkaaDoor.SadM Go.Proofs.YtppnkkpjfjhfkaaDoor.SadR3 Go.Proofs.YtppnkkpjfjhfkaaDoor.SadR5 Go.Proofs.YtppnkkpjfjhfkaaDoor.SadR7 Go.Proofs.YtppnkkpjfjhfkaaDoor.SadR8 Go.Proofs.YtppnkkpjfjhfkaaDoor.SadR10 Go.Proofs.YtppnkkpjfjhfkaaDoor.SadW Go.Proofs.YtppnkkpjfjhfkaaDoor.Few17 Go.Proofs.YtppnkkpjfjhfkaaDoor.RowN Go.Proofs.YtppnkkpjfjhfkaaDoor.CadM Go.Proofs.YtppnkkpjfjhfkaaDoor.Ob17 Go.Proofs.YtppnkkpjfjhfkaaDoor.Errno

theorem _root_.Go.Proofs.YtppnkkpjfjhfkaaDoor.Ob17.Ob.last {F : Nat → Prop} {W w : World} {gs : Nat} {es : List Ent} (h : Ob F W w gs es) : ∀ e ∈ es, e.last < Q64 := fun e he => by
  obtain ⟨A, n, c, ls, h1, _⟩ := h.obj
  obtain ⟨i, hi⟩ := List.mem_iff_getElem?.1 he
  obtain ⟨l, hl⟩ : ∃ l, ls[i]? = some l := ⟨_, List.getElem?_eq_getElem (by rw [h1.len]; exact (List.getElem?_eq_some_iff.1 hi).1)⟩
  exact (h1.ent i l e hl hi).2.2.2.last
theorem send_last {A B : Ent} {x : Int} (h0 : A.life.x0 = x) (h7 : A.life.x7 = true) (now n : Int) (hl : A.last = 18446744073709551615) : (sendS now x n [A, B]).2.2.1 ≠ 0 := by
  unfold sendS
  split
  · simp
  · simp only [SadP.find_fst (B := B) h0 h7, List.getElem?_cons_zero]
    split
    · simp
    · rw [if_pos (.inl hl)]
      simp
/-- The two associations, behind k calls. -/
structure Pair (k : Nat) (A B : Ent) : Prop where
  good : SadP.Good (k + 2) [A, B]
  a0 : A.life.x0 = 300
  a7 : A.life.x7 = true
  b0 : B.life.x0 = 301
  b7 : B.life.x7 = false
theorem Pair.up {k : Nat} {A B : Ent} (h : Pair k A B) : Pair (k + 1) A B := ⟨h.good.up, h.a0, h.a7, h.b0, h.b7⟩
theorem Pair.acl {k : Nat} {A B : Ent} (h : Pair k A B) : B.acc.length ≤ k + 2 := (h.good.all B (by simp)).2.2.2.2.1
theorem Pair.sent {k : Nat} {A B : Ent} {n : Int} (h : Pair k A B) (hn : n ≤ 1000000000) (g : SadP.Good (k + 3) [sent A n, B]) : Pair (k + 1) (sent A n) B := ⟨g, h.a0, h.a7, h.b0, h.b7⟩
theorem Pair.took {k : Nat} {A B : Ent} {n : Int} {sq : Nat} (h : Pair k A B) (g : SadP.Good (k + 3) [A, { B with bytes := B.bytes + n, acc := B.acc ++ [sq] }]) : Pair (k + 1) A { B with bytes := B.bytes + n, acc := B.acc ++ [sq] } := ⟨g, h.a0, h.a7, h.b0, h.b7⟩
/-- The database, and the numbers that were taken. -/
structure St (F : Nat → Prop) (W w : World) (gs : Nat) (v : Value) (es : List Ent) (L : List Nat) : Prop where
  ob : Ob F W w gs es
  own : QOwn w W.heap.size v L
  inF : ∀ k, v.ownBlock = some k → F k
section
variable {F : Nat → Prop} {W w w' : World} {gs : Nat} {v : Value} {es es' : List Ent} {L : List Nat}
theorem St.up (h : St F W w gs v es L) (hb : Below w.heap.size w w') : St F W w' gs v es L := ⟨h.ob.up hb, h.own.up hb, h.inF⟩
theorem St.wide (h : St F W w gs v es L) (hb : Below w.heap.size w w') : St (fun k => F k ∨ (w.heap.size ≤ k ∧ k < w'.heap.size)) W w' gs v es L := ⟨h.ob.wide hb, h.own.up hb, fun k hk => .inl (h.inF k hk)⟩
theorem St.call (h : St F W w gs v es L) (o : Ob F W w' gs es') (k : Keep F w w') : St F W w' gs v es' L :=
  ⟨o, own_same h.own fun i hi => k.block i (h.inF i hi) (h.own.lt i hi).2, h.inF⟩
theorem St.append (h : St F W w gs v es L) {g2 n cap x : Nat} {t : TypeId} {cs : Array Value} (hb : Blk (w.alloc (.cells cs t)) w.heap.size t cs) {w2 : World} (hg : (w.alloc (.cells cs t)).grownBy w2 v.ownBlock) (o : QOwn w2 W.heap.size (.slice (some ⟨g2, 0, none⟩) n cap) (L ++ [x]))
    (ha : v.ownBlock = some g2 ∨ g2 = (w.alloc (.cells cs t)).heap.size) (hlt : g2 < w2.heap.size) : St (fun k => F k ∨ (w.heap.size ≤ k ∧ k < w2.heap.size)) W w2 gs (.slice (some ⟨g2, 0, none⟩) n cap) es (L ++ [x]) := by
  have b1 := (Below.refl w.heap.size w).alloc (Nat.le_refl _) (.cells cs t)
  have s1 : (w.alloc (.cells cs t)).heap.size = w.heap.size + 1 := by simp
  have o1 := h.ob.up b1
  have s2 : w.heap.size ≤ w2.heap.size := by have := hg.size; omega
  have kp : Keep (fun k => k < w.heap.size ∧ some k ≠ v.ownBlock) (w.alloc (.cells cs t)) w2 := ⟨hg.os, hg.tape, hg.output, hg.size, fun k hf hk => hg.block k hk hf.2⟩
  have wd : Ob (fun k => F k ∨ w.heap.size ≤ k ∧ k < w2.heap.size) W w2 gs es := by
    refine ⟨?_, fun k hk => hk.elim (fun z => Nat.lt_of_lt_of_le (h.ob.hF k z) s2) And.right, fun k hk => .inl (h.ob.low k hk), ?_, h.ob.hand⟩
    · have a1 : CadF (fun k => F k ∨ w.heap.size ≤ k) (w.alloc (.cells cs t)) gs es := (h.ob.obj.mono fun k hk z => z.resolve_right (by omega)).below b1
      have a2 := cadF_obj.other a1 kp fun k hk hf => ⟨Nat.lt_of_not_le fun z => hf (.inr z), fun z => hf (.inl (h.inF k z.symm))⟩
      exact a2.mono fun k hk z => z.imp id And.left
    · exact o1.bel.trans (kp.below o1.bel.size fun k hk => ⟨Nat.lt_of_lt_of_le hk h.ob.bel.size, fun z => by
        have := (h.own.lt k z.symm).1
        omega⟩)
  refine ⟨wd, o, fun k hk => ?_⟩
  have hk : g2 = k := by simpa [Value.ownBlock] using hk
  subst hk
  rcases ha with q | q
  · exact .inl (h.inF g2 q)
  · exact .inr ⟨by omega, hlt⟩
end
/-- The two lives. -/
def inR : LifeR := { lifeR 301 with x7 := false }
def eA : Ent := newE (lifeR 300) 0
def eB : Ent := newE inR 0
theorem z1 : addS 0 (lifeR 300) [] = (0, [eA]) := by kernel_rfl
theorem z2 : addS 0 inR [eA] = (0, [eA, eB]) := by kernel_rfl
theorem pair0 : Pair 0 eA eB := ⟨by
  have g1 := (SadP.Good.nil 0).add 0 (by decide) (lifeR 300)
  rw [z1] at g1
  have g2 := g1.add 0 (by decide) inR
  rw [z2] at g2
  exact g2, rfl, rfl, rfl, rfl⟩
section
variable {F : Nat → Prop} {W w : World} {gs : Nat}
theorem c1 (h : Ob F W w gs []) : Calls Tryd.prog 15 #[.pointer (some ⟨gs, 0, none⟩), .int .i64 0, .agg #[.int .i64 300, .string KY, .string SLT, .string MC, .bool false, .int .i64 64, .int .i64 1, .bool true, .int .i64 10, .int .i64 0, .int .i64 0, .int .i64 0]] w fun er w' => er = .returned (.int .i64 0) ∧ Ob F W w' gs [eA] :=
  (h.add (by simp) 0 (lifeR 300)).mono fun er w' ⟨p, q, k⟩ => by
    rw [z1] at p q
    exact ⟨p, q⟩
theorem c2 (h : Ob F W w gs [eA]) : Calls Tryd.prog 15 #[.pointer (some ⟨gs, 0, none⟩), .int .i64 0, .agg #[.int .i64 301, .string KY, .string SLT, .string MC, .bool false, .int .i64 64, .int .i64 1, .bool false, .int .i64 10, .int .i64 0, .int .i64 0, .int .i64 0]] w fun er w' => er = .returned (.int .i64 0) ∧ Ob F W w' gs [eA, eB] :=
  (h.add (by simp) 0 inR).mono fun er w' ⟨p, q, k⟩ => by
    rw [z2] at p q
    exact ⟨p, q⟩
end
set_option maxHeartbeats 4000000 in
theorem once_any (A : Option Addr) (n c : Nat) (rs : List Op17R) (W : World) (h : Op17Rows W A n rs) (hg : Handle W) : Calls Tryd.prog 4 #[.slice A n c] W fun er w' => er = .returned (.bool true) ∧ Below W.heap.size W w' := by
  have FW := Lib.hid (few_any A n c rs W h)
  have H := Lib.hid h
  have HG := Lib.hid hg
  clear h hg
  go_enter Tryd.func4, Tryd.ntmps4
  go_wp2_with fail
  refine FW.out.mono ?_
  rintro er w1 ⟨fb, rfl, hfb, hb⟩
  clear FW
  cases fb with
  | false =>
    have HB := Lib.hid hb
    clear hb hfb
    go_wp2_with fail
    go_ret
    exact ⟨rfl, HB.out⟩
  | true =>
    obtain ⟨n150, fits⟩ := hfb rfl
    have HF := Lib.hid fits
    have NC := Lib.hid (Ob.new HG.out hb)
    clear hb hfb fits HG
    go_wp2_with fail
    refine NC.out.mono ?_
    rintro er w2 ⟨rfl, o, -⟩
    have O2 := Lib.hid o
    clear o NC
    generalize w1.heap.size = gs at *
    go_wp2_with fail
    refine (life_c 300 _).mono ?_
    rintro er w3 ⟨rfl, hb⟩
    have O3 := Lib.hid (O2.out.up hb)
    clear hb O2
    go_wp2_with fail
    refine (c1 O3.out).mono ?_
    rintro er w4 ⟨rfl, o⟩
    have O4 := Lib.hid o
    clear o O3
    go_wp2_with fail
    refine (life_c 301 _).mono ?_
    rintro er w5 ⟨rfl, hb⟩
    have O5 := Lib.hid ((O4.out.up hb).up ((Below.refl w5.heap.size w5).alloc (Nat.le_refl _) (.cells #[.int .i64 301, .string KY, .string SLT, .string MC, .bool false, .int .i64 64, .int .i64 1, .bool false, .int .i64 10, .int .i64 0, .int .i64 0, .int .i64 0] 34)))
    clear hb O4
    go_wp2_with fail
    refine (c2 O5.out).mono ?_
    rintro er w6 ⟨rfl, o⟩
    have S6 : Hid (St (fun k => k < W.heap.size) W w6 gs (.slice none 0 0) [eA, eB] []) := Lib.hid ⟨o, QOwn.nil _ _, fun k hk => by cases hk⟩
    clear o O5
    go_wp2_with fail
    go_loopw [5, 6, 7] (fun lv tv iv wr => ∃ (i : Nat) (A0 B0 : Ent) (v : Value), iv = .int .i64 (i : Int) ∧ lv = .int .u64 (A0.last : Int) ∧ tv = v ∧ i ≤ n ∧ Hid (Pair i A0 B0) ∧ Hid (∃ F, St F W wr gs v [A0, B0] B0.acc)) (fun _ _ iv _ => n - (intOf iv).toNat)
    case atStart => exact ⟨0, eA, eB, _, rfl, rfl, rfl, by omega, Lib.hid pair0, Lib.hid ⟨_, S6.out⟩⟩
    case round =>
      clear S6
      obtain ⟨i, A0, B0, v, rfl, rfl, hv, hi, PR, HT⟩ := hrel
      replace hv := hv.symm
      subst hv
      by_cases hlt : i < n
      · obtain ⟨F0, T⟩ := HT.out
        obtain ⟨b, o, rfl, hbl, hall⟩ := H.out.2 (by omega)
        have hr : rs[i]? = some (rs[i]'(by rw [H.out.1]; exact hlt)) := List.getElem?_eq_getElem _
        generalize rs[i]'(by rw [H.out.1]; exact hlt) = r at hr
        obtain ⟨ok, cl⟩ := hall i r hr
        have ft := HF.out i r hr
        have FT : Hid (r.x4 ≤ 1000000000 ∧ -9223372036854775808 ≤ r.x4) := Lib.hid ⟨ft.2.1, ok.1.1⟩
        obtain ⟨sq, hsq⟩ : ∃ sq, sq = r.x7.toNat := ⟨_, rfl⟩
        have Q7 : Hid (sq < Q64) := Lib.hid (by have := ok.2.1; unfold Q64; omega)
        have E7 : Hid (r.x7 = (sq : Int)) := Lib.hid (by rw [hsq]; exact (Int.toNat_of_nonneg ok.2.1.1).symm)
        clear hsq
        have RP : (loadVar 36 ⟨b, o + i * 20, none⟩).run Tryd.prog wr = .ok (.agg (opCs r)) wr := run_part wr b (o + i * 20) 36 r.cells _ Tryd.underlying36 rfl (by kernel_rfl) ((show At W b (o + i * 20) r.cells from cl).below T.ob.bel hbl)
        have J := Blk.new wr 36 #[.int .i64 0, .int .i64 0, .int .i64 0, .int .i64 0, .int .i64 0, .int .i64 0, .bool false, .int .u64 0, .int .i64 0, .string ⟨#[]⟩, .string ⟨#[]⟩, .string ⟨#[]⟩, .bool false, .int .i64 0, .int .i64 0, .bool false, .int .i64 0, .int .i64 0, .int .i64 0, .int .i64 0]
        have K8 := Lib.hid (setRow_blk J (opCs r))
        have bn := setRow_bel ((Below.refl wr.heap.size wr).alloc (Nat.le_refl _) (.cells #[.int .i64 0, .int .i64 0, .int .i64 0, .int .i64 0, .int .i64 0, .int .i64 0, .bool false, .int .u64 0, .int .i64 0, .string ⟨#[]⟩, .string ⟨#[]⟩, .string ⟨#[]⟩, .bool false, .int .i64 0, .int .i64 0, .bool false, .int .i64 0, .int .i64 0, .int .i64 0, .int .i64 0] 36)) (Nat.le_refl _) (opCs r)
        have S8 := Lib.hid (T.wide bn)
        have LT : Hid (wr.heap.size < ((wr.alloc (.cells #[.int .i64 0, .int .i64 0, .int .i64 0, .int .i64 0, .int .i64 0, .int .i64 0, .bool false, .int .u64 0, .int .i64 0, .string ⟨#[]⟩, .string ⟨#[]⟩, .string ⟨#[]⟩, .bool false, .int .i64 0, .int .i64 0, .bool false, .int .i64 0, .int .i64 0, .int .i64 0, .int .i64 0] 36)).setRow wr.heap.size (opCs r)).heap.size) := Lib.hid (Blk.lt K8.out)
        have one := Lib.hid (one_op r)
        have NW := Lib.hid (PR.out.good.now (now := r.x1) ft.2.2.1 ft.2.2.2)
        obtain ⟨Av, cv, rfl⟩ := T.own.shape
        obtain ⟨N, hN⟩ : ∃ N, N = B0.acc.length := ⟨_, rfl⟩
        rw [← hN] at S8 HT ⊢
        have HN := Lib.hid hN
        have nb : N ≤ 152 := by have := PR.out.acl; omega
        obtain ⟨w8, hw8⟩ : ∃ w8, w8 = ((wr.alloc (.cells #[.int .i64 0, .int .i64 0, .int .i64 0, .int .i64 0, .int .i64 0, .int .i64 0, .bool false, .int .u64 0, .int .i64 0, .string ⟨#[]⟩, .string ⟨#[]⟩, .string ⟨#[]⟩, .bool false, .int .i64 0, .int .i64 0, .bool false, .int .i64 0, .int .i64 0, .int .i64 0, .int .i64 0] 36)).setRow wr.heap.size (opCs r)) := ⟨_, rfl⟩
        rw [← hw8] at K8 S8 LT
        have W8E := Lib.hid hw8.symm
        obtain ⟨bo, hbo⟩ : ∃ bo, bo = wr.heap.size := ⟨_, rfl⟩
        rw [← hbo] at K8 LT
        have BO := Lib.hid hbo.symm
        obtain ⟨F, hF⟩ : ∃ F : Nat → Prop, F = fun k => F0 k ∨ (wr.heap.size ≤ k ∧ k < w8.heap.size) := ⟨_, rfl⟩
        have FB : Hid (F bo) := Lib.hid (by rw [hF, hbo]; exact .inr ⟨Nat.le_refl _, by rw [← hbo]; exact LT.out⟩)
        rw [← hF] at S8
        have CL8 := Lib.hid True.intro
        have d0 : w8.cell? ⟨bo, 0, none⟩ = some (.int .i64 r.x0) := K8.out.cell 0
        have d1 : w8.cell? ⟨bo, 1, none⟩ = some (.int .i64 r.x1) := K8.out.cell 1
        have d2 : w8.cell? ⟨bo, 2, none⟩ = some (.int .i64 r.x2) := K8.out.cell 2
        have d4 : w8.cell? ⟨bo, 4, none⟩ = some (.int .i64 r.x4) := K8.out.cell 4
        have d6 : w8.cell? ⟨bo, 6, none⟩ = some (.bool r.x6) := K8.out.cell 6
        have d7 : w8.cell? ⟨bo, 7, none⟩ = some (.int .u64 (sq : Int)) := by rw [← E7.out]; exact K8.out.cell 7
        clear hall cl hr ok T HT bn ft hw8 hF hbo LT hN
        by_cases p4 : r.x0 = 4
        · as_aux_lemma =>
            have g04 : (r.x0 == 4) = true := by rw [beq_iff_eq]; exact p4
            obtain ⟨sr, hsr⟩ := Step17w.sendS_sa r.x1 300 r.x4 [A0, B0]
            obtain ⟨f, hf⟩ : ∃ f, f = (sendS r.x1 300 r.x4 [A0, B0]).2.2.1 := ⟨_, rfl⟩
            obtain ⟨sn, hsn⟩ : ∃ sn, sn = (sendS r.x1 300 r.x4 [A0, B0]).2.1 := ⟨_, rfl⟩
            obtain ⟨X, hX⟩ : ∃ X, X = (sendS r.x1 300 r.x4 [A0, B0]).2.2.2 := ⟨_, rfl⟩
            have SC := S8.out.ob.send (by simp) r.x1 300 r.x4 NW.out (PR.out.good.room (by omega) FT.out.2 FT.out.1)
            rw [hsr, ← hf, ← hsn, ← hX] at SC
            have SC := Lib.hid SC
            have TWO := Lib.hid (SadP.send_two (B := B0) PR.out.a0 PR.out.a7 r.x1 r.x4)
            rw [← hf, ← hsn, ← hX] at TWO
            have LA := Lib.hid (S8.out.ob.last A0 (List.mem_cons_self ..))
            have FE := Lib.hid hf
            have GS : Hid (SadP.Good (i + 3) X) := Lib.hid (by rw [hX]; exact PR.out.good.send r.x1 300 r.x4 FT.out.1)
            clear hf hsn hX hsr
            go_wp2_with (first
              | (refine Store.at_load 36 (.tmp 40) ?_ ?_; exact rfl; refine wpList_load_part rfl 36 (.tmp 40) rfl b (o + i * 20) (opCs r).toList rfl RP ?_)
              | (refine Store.at_store 36 (.tmp 8) (.tmp 41) ?_ ?_; exact rfl; refine wpList_store_row rfl 36 (.tmp 8) (.tmp 41) rfl wr.heap.size (opCs r) rfl rfl 36 _ J (by kernel_rfl) rfl one.out ?_; rw [W8E.out, BO.out]; clear RP J))
            refine SC.out.mono ?_
            rintro er w10 ⟨rfl, o, kp⟩
            have J10 := Blk.new w10 32 #[.int .i64 0, .string ⟨#[]⟩, .string ⟨#[]⟩, .string ⟨#[]⟩, .bool false, .int .i64 0]
            have B10 := Com.setRow_bel ((Below.refl w10.heap.size w10).alloc (Nat.le_refl _) (.cells #[.int .i64 0, .string ⟨#[]⟩, .string ⟨#[]⟩, .string ⟨#[]⟩, .bool false, .int .i64 0] 32)) (Nat.le_refl _) (saC sr).toArray
            have S10 := Lib.hid ((S8.out.call o kp).up B10)
            have one2 := Lib.hid (oneSa sr)
            clear o kp SC B10 S8 K8 CL8
            obtain ⟨wx, hwx⟩ : ∃ wx, wx = (w10.alloc (.cells #[.int .i64 0, .string ⟨#[]⟩, .string ⟨#[]⟩, .string ⟨#[]⟩, .bool false, .int .i64 0] 32)).setRow w10.heap.size (saC sr).toArray := ⟨_, rfl⟩
            rw [← hwx] at S10
            have WX := Lib.hid hwx.symm
            clear hwx
            rcases TWO.out with ⟨t1, t2, t3⟩ | ⟨t1, t3⟩
            · have g2 : ((f : Int) == 0) = true := by rw [beq_iff_eq]; omega
              have ll := LA.out
              unfold Q64 at ll
              have t4 : A0.last ≠ 18446744073709551615 := fun z => by
                have := send_last (B := B0) PR.out.a0 PR.out.a7 r.x1 r.x4 z
                rw [← FE.out] at this
                exact this t1
              have f1 : IntKind.u64.wrap ((A0.last : Int) + 1) = (A0.last : Int) + 1 := IntWalk.u64_in _ (by omega)
              have g3 : ((sn : Int) != (A0.last : Int) + 1) = false := by simp; omega
              have SN : Hid ((sn : Int) = ((sent A0 r.x4).last : Int)) := Lib.hid (by rw [t2]; rfl)
              have PN := Lib.hid (PR.out.sent (n := r.x4) FT.out.1 (by rw [← t3]; exact GS.out))
              rw [t3] at S10
              clear t1 t2 t3 t4 ll TWO
              go_wp2_with (refine wpList_store_row rfl 32 (.tmp 9) (.tmp 52) rfl w10.heap.size (saC sr).toArray rfl rfl 32 _ J10 (by kernel_rfl) (by kernel_rfl) one2.out ?_; rw [WX.out]; clear J10)
              go_roundw
              case rel => exact ⟨i + 1, sent A0 r.x4, B0, _, by go_num, by rw [SN.out], rfl, by omega, PN, Lib.hid ⟨_, S10.out⟩⟩
              case measure => simp [intOf]; omega
            · have g2 : ((f : Int) == 0) = false := by rw [beq_eq_false_iff_ne]; omega
              rw [t3] at S10
              clear t1 t3 TWO
              go_wp2_with (refine wpList_store_row rfl 32 (.tmp 9) (.tmp 52) rfl w10.heap.size (saC sr).toArray rfl rfl 32 _ J10 (by kernel_rfl) (by kernel_rfl) one2.out ?_; rw [WX.out]; clear J10)
              go_roundw
              case rel => exact ⟨i + 1, A0, B0, _, by go_num, rfl, rfl, by omega, Lib.hid PR.out.up, Lib.hid ⟨_, S10.out⟩⟩
              case measure => simp [intOf]; omega
        by_cases p5 : r.x0 < 5
        · as_aux_lemma =>
            have g04 : (r.x0 == 4) = false := by rw [beq_eq_false_iff_ne]; exact p4
            have g05 : decide (r.x0 < 5) = true := decide_eq_true p5
            by_cases q1 : r.x2 = 300
            · have g2 : (r.x2 != 300) = false := by simp [q1]
              clear q1
              go_wp2_with (first
              | (refine Store.at_load 36 (.tmp 40) ?_ ?_; exact rfl; refine wpList_load_part rfl 36 (.tmp 40) rfl b (o + i * 20) (opCs r).toList rfl RP ?_)
              | (refine Store.at_store 36 (.tmp 8) (.tmp 41) ?_ ?_; exact rfl; refine wpList_store_row rfl 36 (.tmp 8) (.tmp 41) rfl wr.heap.size (opCs r) rfl rfl 36 _ J (by kernel_rfl) rfl one.out ?_; rw [W8E.out, BO.out]; clear RP J))
              go_roundw
              case rel => exact ⟨i + 1, A0, B0, _, by go_num, rfl, rfl, by omega, Lib.hid PR.out.up, Lib.hid ⟨_, S8.out⟩⟩
              case measure => simp [intOf]; omega
            · have g2 : (r.x2 != 300) = true := by simp [q1]
              by_cases q2 : r.x2 = 301
              · have g3 : (r.x2 != 301) = false := by simp [q2]
                clear q1 q2
                go_wp2_with (first
              | (refine Store.at_load 36 (.tmp 40) ?_ ?_; exact rfl; refine wpList_load_part rfl 36 (.tmp 40) rfl b (o + i * 20) (opCs r).toList rfl RP ?_)
              | (refine Store.at_store 36 (.tmp 8) (.tmp 41) ?_ ?_; exact rfl; refine wpList_store_row rfl 36 (.tmp 8) (.tmp 41) rfl wr.heap.size (opCs r) rfl rfl 36 _ J (by kernel_rfl) rfl one.out ?_; rw [W8E.out, BO.out]; clear RP J))
                go_roundw
                case rel => exact ⟨i + 1, A0, B0, _, by go_num, rfl, rfl, by omega, Lib.hid PR.out.up, Lib.hid ⟨_, S8.out⟩⟩
                case measure => simp [intOf]; omega
              · have g3 : (r.x2 != 301) = true := by simp [q2]
                have RC := S8.out.ob.remove (by simp) r.x2 r.x6
                rw [SadP.remove_two PR.out.a0 PR.out.b0 q1 q2] at RC
                have RC := Lib.hid RC
                clear q1 q2
                go_wp2_with (first
              | (refine Store.at_load 36 (.tmp 40) ?_ ?_; exact rfl; refine wpList_load_part rfl 36 (.tmp 40) rfl b (o + i * 20) (opCs r).toList rfl RP ?_)
              | (refine Store.at_store 36 (.tmp 8) (.tmp 41) ?_ ?_; exact rfl; refine wpList_store_row rfl 36 (.tmp 8) (.tmp 41) rfl wr.heap.size (opCs r) rfl rfl 36 _ J (by kernel_rfl) rfl one.out ?_; rw [W8E.out, BO.out]; clear RP J))
                refine RC.out.mono ?_
                rintro er w10 ⟨rfl, o, kp⟩
                have S10 := Lib.hid (S8.out.call o kp)
                clear o kp RC S8 K8
                go_wp2_with fail
                go_roundw
                case rel => exact ⟨i + 1, A0, B0, _, by go_num, rfl, rfl, by omega, Lib.hid PR.out.up, Lib.hid ⟨_, S10.out⟩⟩
                case measure => simp [intOf]; omega
        as_aux_lemma =>
          have g04 : (r.x0 == 4) = false := by rw [beq_eq_false_iff_ne]; exact p4
          have g05 : decide (r.x0 < 5) = false := decide_eq_false p5
          obtain ⟨f, hf⟩ : ∃ f, f = (takeS r.x1 301 sq r.x4 [A0, B0]).1 := ⟨_, rfl⟩
          obtain ⟨X, hX⟩ : ∃ X, X = (takeS r.x1 301 sq r.x4 [A0, B0]).2 := ⟨_, rfl⟩
          have SC := S8.out.ob.take (by simp) r.x1 301 sq r.x4 NW.out (PR.out.good.room (by omega) FT.out.2 FT.out.1) Q7.out
          have GS : Hid (SadP.Good (i + 3) X) := Lib.hid (by rw [hX]; exact PR.out.good.take r.x1 301 sq r.x4 FT.out.1)
          rw [← hf, ← hX] at SC
          have SC := Lib.hid SC
          have TWO := Lib.hid (SadP.take_two PR.out.a7 PR.out.b0 PR.out.b7 r.x1 sq r.x4)
          rw [← hf, ← hX] at TWO
          clear hf hX
          go_wp2_with (first
            | (refine Store.at_load 36 (.tmp 40) ?_ ?_; exact rfl; refine wpList_load_part rfl 36 (.tmp 40) rfl b (o + i * 20) (opCs r).toList rfl RP ?_)
            | (refine Store.at_store 36 (.tmp 8) (.tmp 41) ?_ ?_; exact rfl; refine wpList_store_row rfl 36 (.tmp 8) (.tmp 41) rfl wr.heap.size (opCs r) rfl rfl 36 _ J (by kernel_rfl) rfl one.out ?_; rw [W8E.out, BO.out]; clear RP J))
          refine SC.out.mono ?_
          rintro er w10 ⟨rfl, o, kp⟩
          have S10 := Lib.hid (S8.out.call o kp)
          have K10 : Hid (Blk w10 bo 36 (opCs r)) := Lib.hid ((kp.block _ FB.out (Blk.lt K8.out)).trans K8.out)
          clear o kp SC S8 K8 CL8
          have acl := PR.out.acl
          rcases TWO.out with ⟨t1, t2, t3⟩ | ⟨t1, t3⟩
          · have g2 : ((f : Int) == 0) = true := by rw [beq_iff_eq]; omega
            obtain ⟨ES, hES⟩ : ∃ ES, ES = [A0, { B0 with bytes := B0.bytes + r.x4, acc := B0.acc ++ [sq] }] := ⟨_, rfl⟩
            have PN := Lib.hid (PR.out.took (n := r.x4) (sq := sq) (by rw [← t3]; exact GS.out))
            rw [t3, ← hES] at S10
            have EE := Lib.hid hES
            have NI : Hid (∀ j, j < N → ((B0.acc.getD j 0 : Nat) : Int) ≠ (sq : Int)) := Lib.hid fun j hj e => t2 (by
              have : B0.acc.getD j 0 = sq := by omega
              rw [← this, List.getD_eq_getElem?_getD, List.getElem?_eq_getElem (by rw [← HN.out]; exact hj)]
              exact List.getElem_mem _)
            clear t1 t2 t3 TWO hES
            go_wp2_with fail
            go_loopw [13] (fun jv wr => ∃ j : Nat, jv = .int .i64 (j : Int) ∧ j ≤ N ∧ Hid (St F W wr gs (.slice Av N cv) ES B0.acc ∧ Blk wr bo 36 (opCs r))) (fun jv _ => N - (intOf jv).toNat)
            case atStart => exact ⟨0, rfl, by omega, Lib.hid ⟨S10.out, K10.out⟩⟩
            case round =>
              clear S10 K10
              obtain ⟨j, rfl, hj, O4⟩ := hrel
              have K4 := O4.out.2
              by_cases hl2 : j < N
              · obtain ⟨g5, cap, e5, _⟩ := O4.out.1.own.form (by rw [← HN.out]; omega)
                have e6 : Av = some ⟨g5, 0, none⟩ := by injection e5
                subst e6
                have e7 := (show QOwn wr W.heap.size (.slice (some ⟨g5, 0, none⟩) B0.acc.length cv) B0.acc by rw [← HN.out]; exact O4.out.1.own).cell (i := j) (by rw [← HN.out]; exact hl2)
                have d7 : wr.cell? ⟨bo, 7, none⟩ = some (.int .u64 (sq : Int)) := by rw [← E7.out]; exact K4.cell 7
                have g1 : (((B0.acc.getD j 0 : Nat) : Int) == (sq : Int)) = false := beq_eq_false_iff_ne.2 (NI.out j hl2)
                generalize B0.acc.getD j 0 = z at *
                clear e5 K4
                go_wp2_with fail
                go_quiet (fail)
                have O5 := Lib.hid (And.intro (O4.out.1.up (below_drewN (Below.refl wr.heap.size wr) nq)) (O4.out.2.drewN nq))
                clear O4 e7 d7
                generalize wr.drewN nq = w5 at *
                go_wp2_with fail
                go_roundw
                case rel => exact ⟨j + 1, by go_num, by omega, O5⟩
                case measure => simp [intOf]; omega
              · obtain rfl : j = N := by omega
                have d7 : wr.cell? ⟨bo, 7, none⟩ = some (.int .u64 (sq : Int)) := by rw [← E7.out]; exact K4.cell 7
                clear K4
                go_wp2_with (at_builtin
                             refine wpList_append_long rfl (.tmp 110) (.tmp 113) rfl W.heap.size (.slice Av j cv) B0.acc rfl (O4.out.1.own.alloc _) wr.heap.size 1 [sq] rfl (fun i hi => ?_) (Nat.lt_succ_self 0) (by have := HN.out; show B0.acc.length + 1 ≤ 1048576; omega) (by have := O4.out.1.ob.bel.size; simp; omega) ?_
                             · obtain rfl : i = 0 := by simpa using hi
                               exact Blk.cell (Blk.new wr _ _) 0
                             intro g2 cap w5 o2 gr2 at2 lt2
                             have O5 : Hid (St (fun k => F k ∨ (wr.heap.size ≤ k ∧ k < w5.heap.size)) W w5 gs (.slice (some ⟨g2, 0, none⟩) (j + 1) cap) ES (B0.acc ++ [sq])) := Lib.hid (by
                               have q := St.append O4.out.1 (Blk.new wr 30 #[.int .u64 (sq : Int)]) gr2 o2 at2 lt2
                               rw [List.length_append, ← HN.out] at q
                               exact q)
                             clear o2 gr2 at2 lt2)
                clear O4 d7
                go_roundw
                case rel => exact ⟨i + 1, A0, { B0 with bytes := B0.bytes + r.x4, acc := B0.acc ++ [sq] }, _, by go_num, rfl, rfl, by omega, PN, Lib.hid ⟨_, by have := O5.out; rw [EE.out, HN.out] at this; exact this⟩⟩
                case measure => simp [intOf]; omega
          · have g2 : ((f : Int) == 0) = false := by rw [beq_eq_false_iff_ne]; omega
            obtain ⟨ES, hES⟩ : ∃ ES, ES = [A0, B0] := ⟨_, rfl⟩
            rw [t3, ← hES] at S10
            have EE := Lib.hid hES
            clear t1 t3 TWO hES
            go_wp2_with fail
            go_loopw [13] (fun jv wr => ∃ j : Nat, jv = .int .i64 (j : Int) ∧ j ≤ N ∧ Hid (St F W wr gs (.slice Av N cv) ES B0.acc ∧ Blk wr bo 36 (opCs r))) (fun jv _ => N - (intOf jv).toNat)
            case atStart => exact ⟨0, rfl, by omega, Lib.hid ⟨S10.out, K10.out⟩⟩
            case round =>
              clear S10 K10
              obtain ⟨j, rfl, hj, O4⟩ := hrel
              have K4 := O4.out.2
              by_cases hl2 : j < N
              · obtain ⟨g5, cap, e5, _⟩ := O4.out.1.own.form (by rw [← HN.out]; omega)
                have e6 : Av = some ⟨g5, 0, none⟩ := by injection e5
                subst e6
                have e7 := (show QOwn wr W.heap.size (.slice (some ⟨g5, 0, none⟩) B0.acc.length cv) B0.acc by rw [← HN.out]; exact O4.out.1.own).cell (i := j) (by rw [← HN.out]; exact hl2)
                have d7 : wr.cell? ⟨bo, 7, none⟩ = some (.int .u64 (sq : Int)) := by rw [← E7.out]; exact K4.cell 7

                generalize B0.acc.getD j 0 = z at *
                clear e5 K4
                go_wp2_with fail
                go_quiet (fail)
                have O5 := Lib.hid (And.intro (O4.out.1.up (below_drewN (Below.refl wr.heap.size wr) nq)) (O4.out.2.drewN nq))
                clear O4 e7 d7
                generalize wr.drewN nq = w5 at *
                go_wp2_with fail
                go_roundw
                case rel => exact ⟨j + 1, by go_num, by omega, O5⟩
                case measure => simp [intOf]; omega
              · obtain rfl : j = N := by omega
                clear K4
                go_wp2_with fail
                go_roundw
                case rel => exact ⟨i + 1, A0, B0, _, by go_num, rfl, rfl, by omega, Lib.hid PR.out.up, Lib.hid ⟨_, by have := O4.out.1; rw [EE.out] at this; exact this⟩⟩
                case measure => simp [intOf]; omega
      · have e : i = n := by omega
        subst e
        obtain ⟨F0, T⟩ := HT.out
        have BB := Lib.hid T.ob.bel
        have AW := Lib.hid (awake_any wr T.ob.hd)
        clear T HT
        go_wp2_with fail
        refine AW.out.mono ?_
        rintro er w7 ⟨rfl, hb⟩
        have BN := Lib.hid (BB.out.trans (hb.mono BB.out.size))
        clear hb
        go_wp2_with fail
        go_ret
        exact ⟨rfl, BN.out⟩
end Go.Proofs.YtppnkkpjfjhfkaaDoor.LawOnce17
