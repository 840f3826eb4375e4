/- The law of digests, however bytes are parted. -/
import Derived.Test.YtbcfeecdmkcngaaDoorLawMore
import Derived.Test.YtbcfeecdmkcngaaDoorArgs
set_option linter.unusedVariables false
namespace Go.Proofs.YtbcfeecdmkcngaaDoor.LawOf
open Go.RowKit Go.PlainAid Go.Proofs.YtbcfeecdmkcngaaDoor.Sums Go.Proofs.YtbcfeecdmkcngaaDoor.Mem Go.Proofs.YtbcfeecdmkcngaaDoor.Blk Go.Proofs.YtbcfeecdmkcngaaDoor.Bits3 Go.Proofs.YtbcfeecdmkcngaaDoor.Ints Go.Proofs.YtbcfeecdmkcngaaDoor.Free Go.Proofs.YtbcfeecdmkcngaaDoor.Steps Go.Proofs.YtbcfeecdmkcngaaDoor.Ops Go.Proofs.YtbcfeecdmkcngaaDoor.Both Go.Proofs.YtbcfeecdmkcngaaDoor.ShaD Go.Proofs.YtbcfeecdmkcngaaDoor.ShaO Go.Proofs.YtbcfeecdmkcngaaDoor.Dig1 Go.Proofs.YtbcfeecdmkcngaaDoor.Dig9 Go.Proofs.YtbcfeecdmkcngaaDoor.DigA Go.Proofs.YtbcfeecdmkcngaaDoor.LawMore

theorem sl_info : (Tryd.prog.info? 23).map (fun i => (i.zero, i.size, i.bytes)) = some (some (.slice none 0 0), 1, 24) := by kernel_rfl
def rval (r : Row) : Value := .slice r.A r.n r.c
/-- A row put behind rows that the call owns. -/
theorem wpList_append_row {w : World} {ops : Array Oper} {rest : List Oper} {o : Oper} {a : Act} {Q : Exit → Act → World → Prop} (hgd : o.guard = none) (s x : Operand)
    (ho : o.op = .call { callee := .builtin .append, args := #[s, x], argTypes := #[33, 33] })
    (base : Nat) (v : Value) (m : Nat) (xs : List Value) (hs : a.eval s = v) (h : w.ownsRow base 23 1 v m xs) (g c : Nat) (A : Option Addr) (n k : Nat) (hx : a.eval x = .slice (some ⟨g, 0, none⟩) 1 c)
    (hc : w.cell? ⟨g, 0, none⟩ = some (.slice A n k)) (hm : m ≤ 1000) (hbase : base ≤ w.heap.size)
    (hK : ∀ g' cap w', w'.ownsRow base 23 1 (.slice (some ⟨g', 0, none⟩) (m + 1) cap) (m + 1) (xs ++ [.slice A n k]) → w.grownBy w' v.ownBlock → (v.ownBlock = some g' ∨ g' = w.heap.size) → g' < w'.heap.size → wpList Tryd.prog ops Q rest (a.put o.dst (.slice (some ⟨g', 0, none⟩) (m + 1) cap)) w') : wpList Tryd.prog ops Q (o :: rest) a w := by
  refine wpList_plain hgd fun K' hK' => ?_
  obtain ⟨i, hi, hz, hsz, hby⟩ := info_parts sl_info
  refine Go.wp_append_lies w s x 33 ho base 23 i (.slice none 0 0) 1 24 Tryd.underlying33 hi hz hsz hby rfl (by decide) v m xs hs h ⟨g, 0, none⟩ 1 c [.slice A n k] hx rfl
    (fun j u hu => ?_) (fun u hu => by simp at hu; subst hu; rfl) (by decide) (by simp only [maxLen]; omega) (by omega) hbase _ rfl fun g' cap w' ow gr at_ hg' => ?_
  · have hj : j = 0 := by
      have := (List.getElem?_eq_some_iff.1 hu).1
      simpa using this
    subst hj
    simp at hu
    rw [add_plain, hc, hu]
  · exact hK' _ _ (hK g' cap w' ow gr at_ hg')

theorem holds_kept {w w' : World} {B n c : Nat} {A : Option Addr} {l : List Int} {row : Option Nat} (h : Holds w B A n c l) (hB : B ≤ w.heap.size) (hg : w.grownBy w' row) (ho : ∀ b o, 0 < n → A = some ⟨b, o, none⟩ → some b ≠ row) : Holds w' w'.heap.size A n c l :=
  ⟨h.1, h.2.1, h.2.2.1, h.2.2.2.1, fun hn => by
    obtain ⟨b, o, e, hb, hc⟩ := h.2.2.2.2 hn
    have := hg.size
    exact ⟨b, o, e, by omega, fun j z hz => hg.cell (hc j z hz) (ho b o hn e)⟩⟩
/-- Between two rounds: the bytes so far, the copies of the rows so far. -/
structure St (w W : World) (rs : List Row) (j : Nat) (bv ov : Value) (qs : List Row) : Prop where
  bo : Owns W w.heap.size bv (total (rs.take j)) (flat (rs.take j))
  oo : W.ownsRow w.heap.size 23 1 ov j (qs.map rval)
  ql : qs.length = j
  qe : qs.map (fun r => (r.n, r.l)) = (rs.take j).map fun r => (r.n, r.l)
  qh : ∀ q ∈ qs, Holds W W.heap.size q.A q.n q.c q.l ∧ ∀ b o, 0 < q.n → q.A = some ⟨b, o, none⟩ → some b ≠ bv.ownBlock ∧ some b ≠ ov.ownBlock
  ne : bv.ownBlock = none ∨ bv.ownBlock ≠ ov.ownBlock
  bl : Below w.heap.size w W
theorem grown_none {w w' : World} (h : Below w.heap.size w w') : w.grownBy w' none := ⟨h.os, h.tape, h.output, h.size, fun k hk _ => h.block k hk⟩
theorem St.start (w : World) (rs : List Row) : St w w rs 0 (.slice none 0 0) (.slice none 0 0) [] :=
  ⟨Owns.nil _ _, ⟨rfl, .inl ⟨rfl, rfl⟩⟩, rfl, rfl, (fun q hq => by cases hq), .inl rfl, Below.refl _ _⟩
theorem own_lt {w : World} {base n : Nat} {t : TypeId} {v : Value} {xs : List Value} (h : w.ownsRow base t 1 v n xs) : ∀ k, v.ownBlock = some k → base ≤ k ∧ k < w.heap.size := World.ownsRow.lt h
/-- The bytes are put behind the bytes. -/
theorem St.bytes {w W V : World} {rs qs : List Row} {j N : Nat} {bv ov v1 : Value} {l : List Int} (h : St w W rs j bv ov qs) (o1 : Owns V w.heap.size v1 N l) (g : W.grownBy V bv.ownBlock) (a : v1.ownBlock = bv.ownBlock ∨ v1.ownBlock = some W.heap.size) :
    V.ownsRow w.heap.size 23 1 ov j (qs.map rval) ∧ (∀ q ∈ qs, Holds V V.heap.size q.A q.n q.c q.l ∧ ∀ b o, 0 < q.n → q.A = some ⟨b, o, none⟩ → some b ≠ v1.ownBlock ∧ some b ≠ ov.ownBlock) ∧ (v1.ownBlock = none ∨ v1.ownBlock ≠ ov.ownBlock) ∧ Below w.heap.size w V := by
  refine ⟨World.ownsRow.kept h.oo g ?_, fun q hq => ⟨holds_kept (h.qh q hq).1 (Nat.le_refl _) g fun b o hn e => ((h.qh q hq).2 b o hn e).1, fun b o hn e => ⟨?_, ((h.qh q hq).2 b o hn e).2⟩⟩, ?_, h.bl.grown g h.bl.size fun k hk => (h.bo.lt k hk).1⟩
  · cases hb : bv.ownBlock with
    | none => cases ho : ov.ownBlock <;> simp
    | some k =>
      right
      intro e
      rcases h.ne with q | q
      · rw [hb] at q; cases q
      · exact q (by rw [hb, e])
  · rcases a with q' | q'
    · rw [q']; exact ((h.qh q hq).2 b o hn e).1
    · rw [q']
      intro q2
      obtain ⟨b', o', e', hb', _⟩ := (h.qh q hq).1.2.2.2.2 hn
      rw [e'] at e
      injection e with e
      injection e with e1 e2
      injection q2 with q2
      omega
  · rcases a with q | q
    · rw [q]; exact h.ne
    · right
      rw [q]
      intro e
      have := (own_lt h.oo _ e.symm).2
      omega
/-- A copy is put behind the copies. -/
theorem St.copy {w V X Y : World} {rs qs : List Row} {j : Nat} {v1 ov : Value} {r : Row} {A : Option Addr} {k g' cap : Nat} (hr : rs[j]? = some r)
    (bo : Owns V w.heap.size v1 (total (rs.take (j + 1))) (flat (rs.take (j + 1)))) (oo : V.ownsRow w.heap.size 23 1 ov j (qs.map rval)) (ql : qs.length = j) (qe : qs.map (fun r => (r.n, r.l)) = (rs.take j).map fun r => (r.n, r.l))
    (qh : ∀ q ∈ qs, Holds V V.heap.size q.A q.n q.c q.l ∧ ∀ b o, 0 < q.n → q.A = some ⟨b, o, none⟩ → some b ≠ v1.ownBlock ∧ some b ≠ ov.ownBlock) (ne : v1.ownBlock = none ∨ v1.ownBlock ≠ ov.ownBlock) (bl : Below w.heap.size w V)
    (hb : Below V.heap.size V X) (hc : Owns X V.heap.size (.slice A r.n k) r.n r.l)
    (ow : Y.ownsRow w.heap.size 23 1 (.slice (some ⟨g', 0, none⟩) (j + 1) cap) (j + 1) (qs.map rval ++ [.slice A r.n k])) (gr : X.grownBy Y ov.ownBlock) (at_ : ov.ownBlock = some g' ∨ g' = X.heap.size) :
    St w Y rs (j + 1) v1 (.slice (some ⟨g', 0, none⟩) (j + 1) cap) (qs ++ [⟨A, r.n, k, r.l⟩]) := by
  have hle := hb.size
  have old : ∀ b, b < V.heap.size → some b ≠ ov.ownBlock → some b ≠ (Value.slice (some ⟨g', 0, none⟩) (j + 1) cap).ownBlock := fun b hlt hne => by
    show some b ≠ some g'
    rcases at_ with q | q
    · rw [← q]; exact hne
    · intro e; injection e with e; omega
  have bX : Owns X w.heap.size v1 (total (rs.take (j + 1))) (flat (rs.take (j + 1))) := bo.below hb (Nat.le_refl _)
  have blX : Below w.heap.size w X := bl.trans (hb.mono bl.size)
  have ovlt : ∀ m, ov.ownBlock = some m → m < V.heap.size := fun m hm => (own_lt oo m hm).2
  refine ⟨bX.kept gr ?_, by rw [List.map_append]; exact ow, by rw [List.length_append, ql]; rfl, ?_, fun q hq => ?_, ?_, blX.grown gr blX.size fun m hm => (own_lt oo m hm).1⟩
  · exact ne
  · have e : rs.take (j + 1) = rs.take j ++ [r] := by rw [List.take_add_one, hr]; rfl
    rw [List.map_append, qe, e, List.map_append]; rfl
  · rcases List.mem_append.1 hq with q1 | q1
    · have hq' := qh q q1
      refine ⟨holds_kept (hq'.1.below hb) hle gr fun b o hn e => (hq'.2 b o hn e).2, fun b o hn e => ⟨(hq'.2 b o hn e).1, old b ?_ (hq'.2 b o hn e).2⟩⟩
      obtain ⟨b', o', e', hb', _⟩ := hq'.1.2.2.2.2 hn
      rw [e'] at e
      injection e with e
      injection e with e1 e2
      omega
    · rw [List.mem_singleton] at q1
      subst q1
      have hf : ∀ b o, 0 < r.n → A = some ⟨b, o, none⟩ → V.heap.size ≤ b ∧ b < X.heap.size := fun b o hn e => by
        obtain ⟨g, e2, h1, h2⟩ := hc.form hn
        rw [e2] at e
        injection e with e
        injection e with e3 e4
        omega
      have far : ∀ b o, 0 < r.n → A = some ⟨b, o, none⟩ → some b ≠ ov.ownBlock := fun b o hn e q => by
        have := ovlt b q.symm
        have := (hf b o hn e).1
        omega
      refine ⟨holds_kept hc.holds (Nat.le_refl _) gr far, fun b o hn e => ⟨fun q => ?_, ?_⟩⟩
      · have := (bo.lt b q.symm).2
        have := (hf b o hn e).1
        omega
      · show some b ≠ some g'
        intro q
        injection q with q
        have := hf b o hn e
        rcases at_ with q2 | q2
        · exact far b o hn e (by rw [q2, q])
        · omega
  · cases hv : v1.ownBlock with
    | none => left; rfl
    | some m =>
      right
      have := old m (bo.lt m hv).2 (by
        rcases ne with q | q
        · rw [hv] at q; cases q
        · rw [← hv]; exact q)
      exact this
theorem flat_same {qs rs : List Row} (h : qs.map (fun r => (r.n, r.l)) = rs.map fun r => (r.n, r.l)) : flat qs = flat rs ∧ total qs = total rs := by
  induction qs generalizing rs with
  | nil => cases rs with
    | nil => exact ⟨rfl, rfl⟩
    | cons r rs => simp at h
  | cons q qs ih => cases rs with
    | nil => simp at h
    | cons r rs =>
      simp only [List.map_cons, List.cons.injEq, Prod.mk.injEq] at h
      have := ih h.2
      have e1 : flat (q :: qs) = q.l ++ flat qs := rfl
      have e2 : flat (r :: rs) = r.l ++ flat rs := rfl
      have e3 : total (q :: qs) = q.n + total qs := rfl
      have e4 : total (r :: rs) = r.n + total rs := rfl
      rw [e1, e2, e3, e4, this.1, this.2, h.1.1, h.1.2]
      exact ⟨rfl, rfl⟩
/-- The copies as a slice of slices. -/
theorem St.parts {w W : World} {rs qs : List Row} {j : Nat} {bv ov : Value} (h : St w W rs j bv ov qs) : ∃ A c, ov = .slice A j c ∧ Parts W W.heap.size A qs := by
  rcases h.oo.2 with ⟨e, h0⟩ | ⟨g, cap, cur, e, hb, hg, _⟩
  · subst h0
    exact ⟨none, 0, e, .inl (List.eq_nil_of_length_eq_zero h.ql)⟩
  · subst e
    have lt : g < W.heap.size := (own_lt h.oo g rfl).2
    refine ⟨_, cap, rfl, .inr ⟨g, rfl, lt, fun k r hk => ⟨?_, (h.qh r (List.mem_of_getElem? hk)).1⟩⟩⟩
    have hkl : k < qs.length := (List.getElem?_eq_some_iff.1 hk).1
    have := World.ownsRow.cellAt h.oo k (by have := h.ql; omega)
    rw [this, List.getElem?_map, hk]
    rfl
theorem ent_awake : Enters Tryd.prog 12 := enters_of Tryd.func12 (by kernel_rfl) rfl
theorem ent_ref : Enters Tryd.prog 17 := enters_of Tryd.func17 (by kernel_rfl) rfl
theorem st_pick {o : Oper} {a : Act} {w : World} {K : Act → World → Prop} {Q : Exit → Act → World → Prop} (c x y : Operand) (ho : o.op = .pick c x y) (v : Value) (hc : a.eval c = .bool true) (hx : a.eval x = v) (hK : K (a.put o.dst v) w) : Step Tryd.prog o a w K Q :=
  wp_value v (by simp [execOp, ho, hc, hx, asBool]) hK
theorem b_eqs (s : ByteArray) (x y : Operand) (w : World) : (do eqGuard .eql 9 x y (.string s) (.string s); binOp .eql 9 (.string s) (.string s) : Sem Value).run Tryd.prog w = .ok (.bool true) w := by
  simp [go_sem, eqGuard]
theorem st_rows_1 {o : Oper} {a : Act} {w : World} {K : Act → World → Prop} {Q : Exit → Act → World → Prop} (x1 : Operand) (ho : o.op = .buildSlice 33 1 #[(0, x1)]) (A : Option Addr) (n c : Nat) (h1 : a.eval x1 = .slice A n c)
    (hK : K (a.put o.dst (.slice (some ⟨w.heap.size, 0, none⟩) 1 1)) (w.alloc (.cells #[.slice A n c] 23))) : Step Tryd.prog o a w K Q := by
  constructor
  have hb : (Instr.buildSlice 33 1 #[(0, .slice A n c)]).run Tryd.prog w = .ok (.slice (some ⟨w.heap.size, 0, none⟩) 1 1) (w.alloc (.cells #[.slice A n c] 23)) := by kernel_rfl
  have hr : (execOp a.eval o).run Tryd.prog w = .ok (.value (.slice (some ⟨w.heap.size, 0, none⟩) 1 1)) (w.alloc (.cells #[.slice A n c] 23)) := by
    simp [execOp, ho, h1, hb, Result.andThen]
  unfold Oper.wp
  rw [hr]
  exact hK

set_option maxHeartbeats 2000000 in
set_option maxRecDepth 100000 in
theorem of_any (A : Option Addr) (m c : Nat) (rs : List Row) (w : World) (hR : Args.Rows w A m rs) (hT : Tab w) :
    Calls Tryd.prog 4 #[.slice A m c] w fun e w' => e = .returned (.bool true) ∧ Below w.heap.size w w' := by
  by_cases q1 : 30 < m
  · have g1 : decide ((30 : Int) < (m : Int)) = true := decide_eq_true (by omega)
    go_enter Tryd.func4, Tryd.ntmps4
    go_wp2_with fail
    go_ret
    exact ⟨rfl, Below.refl _ _⟩
  have g1 : decide ((30 : Int) < (m : Int)) = false := decide_eq_false (by omega)
  have RL := Lib.hid hR.1
  have HR := Lib.hid hR.2
  have HT := Lib.hid hT
  have S0 := Lib.hid (St.start w rs)
  clear hR hT
  go_enter Tryd.func4, Tryd.ntmps4
  go_wp2_with fail
  clear g1
  go_loopw [3, 4, 5] (fun bv ov kv wr => ∃ (j : Nat) (qs : List Row), kv = .int .i64 (j : Int) ∧ j ≤ m ∧ Hid (St w wr rs j bv ov qs) ∧ Hid (total (rs.take j) ≤ 1400)) (fun _ _ kv _ => m - (intOf kv).toNat)
  case atStart => exact ⟨0, [], rfl, by omega, S0, Lib.hid (by show 0 ≤ 1400; decide)⟩
  case round =>
    obtain ⟨j, qs, rfl, hj, HS, HN⟩ := hrel
    clear S0
    by_cases hlt : j < m
    · obtain ⟨b, o, rfl, hbw, hrow⟩ : ∃ b o, A = some ⟨b, o, none⟩ ∧ b < w.heap.size ∧ ∀ k r, rs[k]? = some r → w.cell? ⟨b, o + k, none⟩ = some (.slice r.A r.n r.c) ∧ Holds w w.heap.size r.A r.n r.c r.l := by
        rcases HR.out with q | q
        · have := RL.out; rw [q] at this; simp at this; omega
        · exact q
      have hk' : j < rs.length := by rw [RL.out]; exact hlt
      have hr := Lib.hid (List.getElem?_eq_getElem hk')
      generalize rs[j] = r at hr
      obtain ⟨hc, hh⟩ := hrow j r hr.out
      have HC : Hid (∀ W : World, Below w.heap.size w W → W.cell? ⟨b, o + j, none⟩ = some (.slice r.A r.n r.c) ∧ Holds W w.heap.size r.A r.n r.c r.l) := Lib.hid fun W hW => ⟨(hW.cell (p := ⟨b, o + j, none⟩) hbw).trans hc, hh.below hW⟩
      have c1 := (HC.out wr HS.out.bl).1
      obtain ⟨Ab, cb, rfl, hbb⟩ := HS.out.bo.slice
      obtain ⟨rn, hrn⟩ : ∃ rn, rn = r.n := ⟨_, rfl⟩
      have RN := Lib.hid hrn
      obtain ⟨N, hN⟩ : ∃ N, N = total (rs.take j) := ⟨_, rfl⟩
      have NE := Lib.hid hN
      rw [← hrn] at c1
      rw [← hN]
      clear hc hh hrow hbb hk' hrn hN
      by_cases h4 : 400 < rn
      · have g1 : decide ((400 : Int) < (rn : Int)) = true := decide_eq_true (by omega)
        go_wp2_with fail
        go_ret
        exact ⟨rfl, HS.out.bl⟩
      · have g1 : decide ((400 : Int) < (rn : Int)) = false := decide_eq_false (by omega)
        by_cases h5 : 1000 < N
        · have g2 : decide ((1000 : Int) < (N : Int)) = true := decide_eq_true (by omega)
          go_wp2_with fail
          go_ret
          exact ⟨rfl, HS.out.bl⟩
        · have g2 : decide ((1000 : Int) < (N : Int)) = false := decide_eq_false (by omega)
          have OB : Hid (Owns wr w.heap.size (.slice Ab N cb) N (flat (rs.take j))) := Lib.hid (by have := HS.out.bo; rwa [← NE.out] at this)
          have HH1 : Hid (Holds wr w.heap.size r.A rn r.c r.l) := Lib.hid (by rw [RN.out]; exact (HC.out wr HS.out.bl).2)
          have ST : Hid (St w wr rs j (.slice Ab N cb) _ qs) := Lib.hid (by rw [NE.out]; exact HS.out)
          have TN : Hid (total (rs.take (j + 1)) = N + rn ∧ flat (rs.take (j + 1)) = flat (rs.take j) ++ r.l) := Lib.hid ⟨by rw [total_take hr.out, NE.out, RN.out], flat_take hr.out⟩
          clear HS HN
          go_wp2_with (at_builtin
                       refine wpList_append_bytes rfl (.tmp 28) (.tmp 32) rfl w.heap.size _ N _ rfl OB.out w.heap.size r.A rn r.c r.l rfl HH1.out (by omega) ST.out.bl.size ?_
                       intro v1 w1 o1 gr1 at1
                       have c2 := (HC.out w1 (ST.out.bytes o1 gr1 at1).2.2.2).1
                       rw [← RN.out] at c2)
          obtain ⟨oo1, qh1, ne1, bl1⟩ := ST.out.bytes o1 gr1 at1
          have BO1 : Hid (Owns w1 w.heap.size v1 (total (rs.take (j + 1))) (flat (rs.take (j + 1)))) := Lib.hid (by rw [TN.out.1, TN.out.2]; exact o1)
          have OO1 := Lib.hid oo1
          have QH1 := Lib.hid qh1
          have NE1 := Lib.hid ne1
          have BL1 := Lib.hid bl1
          have QL := Lib.hid ST.out.ql
          have QE := Lib.hid ST.out.qe
          have HH2 : Hid (Holds w1 w.heap.size r.A rn r.c r.l) := Lib.hid (by rw [RN.out]; exact (HC.out w1 bl1).2)
          clear o1 gr1 at1 oo1 qh1 ne1 bl1 OB HH1 ST c1 g1 g2
          refine (Both.both_lit (w := w1) (B := w.heap.size) BL1.out.size [⟨r.A, rn, r.c, r.l⟩] _ _ rfl (Both.mem1 HH2.out) _ 1 rfl rfl (by decide) (by show rn + 0 ≤ 1048576; omega)).mono ?_
          rintro e w2 ⟨A2, k2, rfl, _, o2, hb⟩
          have e1 : Both.flat [⟨r.A, rn, r.c, r.l⟩] = r.l := by simp [Both.flat]
          have e0 : Both.total [⟨r.A, rn, r.c, r.l⟩] = rn := rfl
          rw [e1, e0] at o2
          rw [e0]
          have LB : Hid (Below w1.heap.size w1 (w2.alloc (.cells #[.slice A2 rn k2] 23))) := Lib.hid (hb.alloc hb.size _)
          have LC : Hid ((w2.alloc (.cells #[.slice A2 rn k2] 23)).cell? ⟨w2.heap.size, 0, none⟩ = some (.slice A2 rn k2)) := Lib.hid (Blk.cell (Blk.new w2 23 #[.slice A2 rn k2]) 0)
          have LO : Hid (Owns (w2.alloc (.cells #[.slice A2 rn k2] 23)) w1.heap.size (.slice A2 r.n k2) r.n r.l) := Lib.hid (by rw [← RN.out]; exact o2.alloc _)
          have OO2 : Hid ((w2.alloc (.cells #[.slice A2 rn k2] 23)).ownsRow w.heap.size 23 1 _ j (qs.map rval)) := Lib.hid (World.ownsRow.kept OO1.out (grown_none LB.out) (by cases hv : Value.ownBlock _ <;> simp))
          have WS : w.heap.size ≤ (w2.alloc (.cells #[.slice A2 rn k2] 23)).heap.size := Nat.le_trans BL1.out.size LB.out.size
          clear o2 hb e1 e0 c2 HH2
          go_wp2_with (at_builtin
                       refine wpList_append_row rfl (.tmp 34) (.tmp 41) rfl w.heap.size _ j _ rfl OO2.out w2.heap.size 1 A2 rn k2 rfl LC.out (by omega) WS ?_
                       intro g4 cap4 w4 o4 gr4 at4 _)
          have SN : Hid (St w w4 rs (j + 1) v1 (.slice (some ⟨g4, 0, none⟩) (j + 1) cap4) (qs ++ [⟨A2, r.n, k2, r.l⟩])) := Lib.hid (St.copy hr.out BO1.out OO1.out QL.out QE.out QH1.out NE1.out BL1.out LB.out LO.out (by rw [← RN.out]; exact o4) gr4 at4)
          have TB : Hid (total (rs.take (j + 1)) ≤ 1400) := Lib.hid (by rw [TN.out.1]; omega)
          clear o4 gr4 at4 WS OO2 LO LC LB BO1 OO1 QH1 NE1 BL1 QL QE
          go_roundw
          case rel => exact ⟨j + 1, _, by go_num, by omega, SN, TB⟩
          case measure => simp [intOf]; omega
    · obtain rfl : j = m := by omega
      obtain ⟨Ao, co, rfl, hP⟩ := HS.out.parts
      have FS := Lib.hid (flat_same HS.out.qe)
      have TK : Hid (rs.take j = rs) := Lib.hid (List.take_of_length_le (by rw [RL.out]; exact Nat.le_refl _))
      rw [TK.out] at FS HN
      obtain ⟨X, hX⟩ : ∃ X, X = flat rs := ⟨_, rfl⟩
      obtain ⟨N, hN⟩ : ∃ N, N = total rs := ⟨_, rfl⟩
      have OB : Hid (Owns wr w.heap.size _ N X) := Lib.hid (by have := HS.out.bo; rw [TK.out, ← hX, ← hN] at this; exact this)
      have QN : Hid (∀ (k : Nat) (q : Row), qs[k]? = some q → ∃ r : Row, rs[k]? = some r ∧ q.n = r.n ∧ q.l = r.l) := Lib.hid fun k q hk => by
        have e := congrArg (fun z => z[k]?) HS.out.qe
        rw [TK.out] at e
        simp only [List.getElem?_map, hk, Option.map_some] at e
        cases hr : rs[k]? with
        | none => rw [hr] at e; cases e
        | some r =>
          rw [hr] at e
          simp only [Option.map_some, Option.some.injEq, Prod.mk.injEq] at e
          exact ⟨r, rfl, e.1, e.2⟩
      have PW := Lib.hid hP
      have QLN := Lib.hid HS.out.ql
      have NB : N ≤ 1400 := by rw [hN]; exact HN.out
      have OC := Lib.hid (of_no Ao j co qs wr wr.heap.size hP HS.out.ql (Nat.le_refl _) (by omega) (by rw [FS.out.1, FS.out.2, ← hX, ← hN]; exact OB.out.1) (by rw [FS.out.2, ← hN]; omega) (HT.out.up HS.out.bl))
      rw [FS.out.1, ← hX] at OC
      have BL := Lib.hid HS.out.bl
      obtain ⟨Ab, cb, eb, hbb⟩ := OB.out.slice
      subst eb
      have HB := Lib.hid hbb
      generalize wr = w1 at *
      clear hP HS HN FS hX hN hbb hlt hj OB
      go_wp2_with fail
      refine OC.out.mono ?_
      rintro e w2 ⟨v2, rfl, od, hb⟩
      obtain ⟨Ad, cd, rfl, hd⟩ := od.slice
      have HD := Lib.hid hd
      have B2 := Lib.hid (BL.out.trans (hb.mono BL.out.size))
      have HB2 := Lib.hid ((HB.out.below hb).more hb.size)
      have PW2 : Hid (qs = [] ∨ ∃ b, Ao = some ⟨b, 0, none⟩ ∧ Both.All w2 w1.heap.size b qs) := Lib.hid (by
        rcases PW.out with q | ⟨b, e, q⟩
        · exact .inl q
        · exact .inr ⟨b, e, all_below q hb⟩)
      have HBH := Lib.hid hb
      clear od hd hb HB PW OC
      go_wp2_with fail
      go_loopw [7] (fun kv wr => ∃ k : Nat, kv = .int .i64 (k : Int) ∧ k ≤ j ∧ Hid (Below w2.heap.size w2 wr)) (fun kv _ => j - (intOf kv).toNat)
      case atStart => exact ⟨0, rfl, by omega, Lib.hid (Below.refl _ _)⟩
      case round =>
        obtain ⟨k, rfl, hk, HBx⟩ := hrel
        by_cases hlk : k < j
        · have hk' : k < qs.length := by rw [QLN.out]; exact hlk
          have hq := List.getElem?_eq_getElem hk'
          generalize qs[k] = q at hq
          obtain ⟨r, hr, en, el⟩ := QN.out k q hq
          obtain ⟨b, rfl, ha⟩ : ∃ b, Ao = some ⟨b, 0, none⟩ ∧ Both.All w2 w1.heap.size b qs := by
            rcases PW2.out with z | z
            · rw [z] at hk'; simp at hk'
            · exact z
          obtain ⟨b2, o2, rfl, hbw, hrow⟩ : ∃ b o, A = some ⟨b, o, none⟩ ∧ b < w.heap.size ∧ ∀ k r, rs[k]? = some r → w.cell? ⟨b, o + k, none⟩ = some (.slice r.A r.n r.c) ∧ Holds w w.heap.size r.A r.n r.c r.l := by
            rcases HR.out with z | z
            · rw [z] at hr; simp at hr
            · exact z
          have hle := HBH.out.size
          have a1 := ha.2 k q hq
          have a2 := hrow k r hr
          have BW := B2.out.trans (HBx.out.mono B2.out.size)
          have d1 : wr.cell? ⟨b, k, none⟩ = some (.slice q.A q.n q.c) := (HBx.out.cell (p := ⟨b, k, none⟩) (Nat.lt_of_lt_of_le ha.1 hle)).trans a1.1
          have d2 : wr.cell? ⟨b2, o2 + k, none⟩ = some (.slice r.A r.n r.c) := (BW.cell (p := ⟨b2, o2 + k, none⟩) hbw).trans a2.1
          have s1 := a1.2.below (HBx.out.mono hle)
          have s2 := a2.2.below BW
          have cv1 : ∀ t, (convert 23 9 (.slice q.A q.n q.c)).run Tryd.prog (wr.drewN t) = .ok (.string (strOfNums r.l)) (wr.drewN t) := fun t => by
            rw [← el]
            exact run_string_bytes (s1.keep fun _ _ _ => rfl)
          have cv2 : ∀ t, (convert 23 9 (.slice r.A r.n r.c)).run Tryd.prog (wr.drewN t) = .ok (.string (strOfNums r.l)) (wr.drewN t) := fun t => run_string_bytes (s2.keep fun _ _ _ => rfl)
          generalize strOfNums r.l = sr at *
          generalize Value.slice q.A q.n q.c = vq at *
          generalize Value.slice r.A r.n r.c = vr at *
          clear s1 s2 a1 a2 hrow ha hr hq en el hk' BW
          go_wp2_with fail
          go_quiet (fail)
          have BX := Lib.hid (below_drewN HBx.out nq)
          clear cv1 cv2 d1 d2
          go_wp2_with fail
          go_roundw
          case rel => exact ⟨k + 1, by go_num, by omega, BX⟩
          case measure => simp [intOf]; omega
        · obtain rfl : k = j := by omega
          generalize wr = wq at *
          have X1 : Hid (∀ V : World, Below wq.drew.heap.size wq.drew V → Below w2.heap.size w2 V) := Lib.hid fun V hV => HBx.out.trans (((below_drewN (Below.refl wq.heap.size wq) 1).trans hV).mono HBx.out.size)
          have X2 : Hid (∀ V : World, Below wq.drew.heap.size wq.drew V → Tab V) := Lib.hid fun V hV => HT.out.up (B2.out.trans ((X1.out V hV).mono B2.out.size))
          have X3 : Hid (∀ V : World, Below wq.drew.heap.size wq.drew V → Holds V w2.heap.size Ab N cb X ∧ w2.heap.size ≤ V.heap.size) := Lib.hid fun V hV => ⟨HB2.out.below (X1.out V hV), (X1.out V hV).size⟩
          obtain ⟨sd, hsd⟩ : ∃ sd, sd = strOfNums (ints (digest (nats X))) := ⟨_, rfl⟩
          have X4 : Hid (∀ V : World, Below wq.drew.heap.size wq.drew V → (convert 23 9 (.slice Ad 32 cd)).run Tryd.prog V = .ok (.string sd) V) := Lib.hid fun V hV => by
            rw [hsd]
            exact run_string_bytes (HD.out.below (X1.out V hV))
          have X5 : Hid (∀ (V : World) (v : Value) (bs : Nat), Owns V bs v 32 (ints (digest (nats X))) → ∃ A' c', v = .slice A' 32 c' ∧ (convert 23 9 (.slice A' 32 c')).run Tryd.prog V = .ok (.string sd) V) := Lib.hid fun V v bs hV => by
            obtain ⟨A', c', e, hh⟩ := hV.slice
            rw [hsd]
            exact ⟨A', c', e, run_string_bytes hh⟩
          have X6 : Hid (∀ (V : World) (g : Nat), Below wq.drew.heap.size wq.drew V → Both.All V V.heap.size g [⟨Ab, N, cb, X⟩] → Calls Tryd.prog 16 #[.slice (some ⟨g, 0, none⟩) 1 1] V fun e w' => ∃ v, e = .returned v ∧ Owns w' V.heap.size v 32 (ints (digest (nats X))) ∧ Below V.heap.size V w') := Lib.hid fun V g hV ha => by
            have lx : X.length = N := HB2.out.1
            have q := of_no (some ⟨g, 0, none⟩) 1 1 [⟨Ab, N, cb, X⟩] V V.heap.size (.inr ⟨g, rfl, ha⟩) rfl (Nat.le_refl _) (by decide) (flat_len (by intro r hr; simp only [List.mem_singleton] at hr; subst hr; exact lx)) (by show N + 0 ≤ 1048576; omega) (X2.out V hV)
            rwa [show flat [⟨Ab, N, cb, X⟩] = X from by simp [Both.flat]] at q
          clear hsd hlk hk
          go_wp2_with fail
          refine wp_region_freeP [0, 1, 2, 3, 4, 5, 6, 7, 8, 9, 10, 11, 12, 13, 14, 15, 16, 17, 18, 19, 20, 21, 22] 23 [] [(1, true), (9, true), (18, true)] (fun w1 w2 => Below w1.heap.size w1 w2) (fun k' w' v => match k' with
            | 0 => v = .bool true
            | 1 => v = .bool true
            | 2 => v = .slice Ad 32 cd
            | 3 => v = .string sd
            | 4 => v = .slice Ab N cb
            | 5 => Owns w' 0 v 32 (ints (digest (nats X)))
            | 6 => v = .string sd
            | 7 => v = .bool true
            | 8 => v = .bool true
            | 9 => v = .bool true
            | 10 => v = .slice Ad 32 cd
            | 11 => v = .string sd
            | 12 => v = .slice Ab N cb
            | 13 => ∃ g, v = .slice (some ⟨g, 0, none⟩) 1 1 ∧ Both.All w' w'.heap.size g [⟨Ab, N, cb, X⟩]
            | 14 => Owns w' 0 v 32 (ints (digest (nats X)))
            | 15 => v = .string sd
            | 16 => v = .bool true
            | 17 => v = .bool true
            | 18 => v = .bool true
            | 19 => v = .slice Ad 32 cd
            | 20 => v = .int .i64 (((32 : Nat) : Int))
            | 21 => v = .bool true
            | _ => v = .bool true) (by kernel_rfl) (by kernel_rfl) (fun q hq w v hv => ?_) (Below.refl _ _) (fun _ _ _ h k => h.trans (k.mono h.size)) (fun k' w1 w2 v h => match k' with
            | 0 => fun x => x
            | 1 => fun x => x
            | 2 => fun x => x
            | 3 => fun x => x
            | 4 => fun x => x
            | 5 => fun q => q.below h (Nat.le_refl _)
            | 6 => fun x => x
            | 7 => fun x => x
            | 8 => fun x => x
            | 9 => fun x => x
            | 10 => fun x => x
            | 11 => fun x => x
            | 12 => fun x => x
            | 13 => fun ⟨g, e, q⟩ => ⟨g, e, all_more (all_below q h) h.size⟩
            | 14 => fun q => q.below h (Nat.le_refl _)
            | 15 => fun x => x
            | 16 => fun x => x
            | 17 => fun x => x
            | 18 => fun x => x
            | 19 => fun x => x
            | 20 => fun x => x
            | 21 => fun x => x
            | _ + 22 => fun x => x) (fun _ _ _ _ _ h => h) ?_ _ (by rfl) ?_
          · simp only [List.mem_cons, List.not_mem_nil, or_false] at hq
            rcases hq with rfl | rfl | rfl <;> exact hv
          · refine obs_cons (by rfl) (fun vals w' hgr hdep K hK => ?_) (obs_cons (by rfl) (fun vals w' hgr hdep K hK => ?_) (obs_cons (by rfl) (fun vals w' hgr hdep K hK => ?_) (obs_cons (by rfl) (fun vals w' hgr hdep K hK => ?_) (obs_cons (by rfl) (fun vals w' hgr hdep K hK => ?_) (obs_cons (by rfl) (fun vals w' hgr hdep K hK => ?_) (obs_cons (by rfl) (fun vals w' hgr hdep K hK => ?_) (obs_cons (by rfl) (fun vals w' hgr hdep K hK => ?_) (obs_cons (by rfl) (fun vals w' hgr hdep K hK => ?_) (obs_cons (by rfl) (fun vals w' hgr hdep K hK => ?_) (obs_cons (by rfl) (fun vals w' hgr hdep K hK => ?_) (obs_cons (by rfl) (fun vals w' hgr hdep K hK => ?_) (obs_cons (by rfl) (fun vals w' hgr hdep K hK => ?_) (obs_cons (by rfl) (fun vals w' hgr hdep K hK => ?_) (obs_cons (by rfl) (fun vals w' hgr hdep K hK => ?_) (obs_cons (by rfl) (fun vals w' hgr hdep K hK => ?_) (obs_cons (by rfl) (fun vals w' hgr hdep K hK => ?_) (obs_cons (by rfl) (fun vals w' hgr hdep K hK => ?_) (obs_cons (by rfl) (fun vals w' hgr hdep K hK => ?_) (obs_cons (by rfl) (fun vals w' hgr hdep K hK => ?_) (obs_cons (by rfl) (fun vals w' hgr hdep K hK => ?_) (obs_cons (by rfl) (fun vals w' hgr hdep K hK => ?_) (obs_cons (by rfl) (fun vals w' hgr hdep K hK => ?_) (obs_nil)))))))))))))))))))))))
            · exact wp_call 12 [] _ rfl ent_awake [] rfl (fun v w'' => v = .bool true ∧ Below w'.heap.size w' w'') ((awake_any w' (X2.out w' hgr)).mono fun e w'' ⟨h1, h2⟩ => ⟨_, h1, rfl, h2⟩) (fun v w'' ⟨h1, h2⟩ => hK v _ h2 h1)
            · exact wp_move (.tmp 62) rfl _ ((at_dst 0 (by kernel_rfl)).trans (hdep 0 (by simp) (by kernel_rfl))) (hK _ _ (Below.refl _ _) rfl)
            · exact wp_move (.tmp 6) rfl _ (at_out _ (by kernel_rfl) rfl) (hK _ _ (Below.refl _ _) rfl)
            · exact wp_conv (.tmp 64) rfl _ _ ((at_dst 2 (by kernel_rfl)).trans (hdep 2 (by simp) (by kernel_rfl))) (X4.out _ hgr) (hK _ _ (Below.refl _ _) rfl)
            · exact wp_move (.tmp 3) rfl _ (at_out _ (by kernel_rfl) rfl) (hK _ _ (Below.refl _ _) rfl)
            · exact wp_call 17 [.tmp 66] _ rfl ent_ref [.slice Ab N cb] (congrArg (fun z => [z]) ((at_dst 4 (by kernel_rfl)).trans (hdep 4 (by simp) (by kernel_rfl)))) (fun v w'' => Owns w'' w'.heap.size v 32 (ints (digest (nats X))) ∧ Below w'.heap.size w' w'') ((of_ref Ab N cb X w' w2.heap.size (X3.out w' hgr).1 (X3.out w' hgr).2 (by omega)).mono fun e w'' ⟨v, h1, h2, h3⟩ => ⟨v, h1, h2, h3⟩) (fun v w'' ⟨h1, h2⟩ => hK v _ h2 (h1.mono (Nat.zero_le _)))
            · obtain ⟨A', c', e, cv⟩ := X5.out w' (vals 5) 0 (hdep 5 (by simp) (by kernel_rfl))
              exact wp_conv (.tmp 67) rfl _ _ ((at_dst 5 (by kernel_rfl)).trans e) cv (hK _ _ (Below.refl _ _) rfl)
            · exact wp_bin (.tmp 65) (.tmp 68) rfl _ _ _ ((at_dst 3 (by kernel_rfl)).trans (hdep 3 (by simp) (by kernel_rfl))) ((at_dst 6 (by kernel_rfl)).trans (hdep 6 (by simp) (by kernel_rfl))) (b_eqs _ _ _ _) (hK _ _ (Below.refl _ _) rfl)
            · exact st_pick (.tmp 63) (.tmp 69) _ rfl _ ((at_dst 1 (by kernel_rfl)).trans (hdep 1 (by simp) (by kernel_rfl))) ((at_dst 7 (by kernel_rfl)).trans (hdep 7 (by simp) (by kernel_rfl))) (hK _ _ (Below.refl _ _) rfl)
            · exact wp_move (.tmp 70) rfl _ ((at_dst 8 (by kernel_rfl)).trans (hdep 8 (by simp) (by kernel_rfl))) (hK _ _ (Below.refl _ _) rfl)
            · exact wp_move (.tmp 6) rfl _ (at_out _ (by kernel_rfl) rfl) (hK _ _ (Below.refl _ _) rfl)
            · exact wp_conv (.tmp 72) rfl _ _ ((at_dst 10 (by kernel_rfl)).trans (hdep 10 (by simp) (by kernel_rfl))) (X4.out _ hgr) (hK _ _ (Below.refl _ _) rfl)
            · exact wp_move (.tmp 3) rfl _ (at_out _ (by kernel_rfl) rfl) (hK _ _ (Below.refl _ _) rfl)
            · refine st_rows_1 (.tmp 74) rfl Ab N cb ((at_dst 12 (by kernel_rfl)).trans (hdep 12 (by simp) (by kernel_rfl))) (hK _ _ ((Below.refl _ _).alloc (Nat.le_refl _) _) ⟨_, rfl, ?_⟩)
              have q := Both.All.lit (w := w') (B := w'.heap.size) (Nat.le_refl _) [⟨Ab, N, cb, X⟩] #[.slice Ab N cb] 23 rfl (Both.mem1 ((X3.out w' hgr).1.more (X3.out w' hgr).2))
              simpa using q
            · obtain ⟨g, e13, al⟩ : ∃ g, vals 13 = .slice (some ⟨g, 0, none⟩) 1 1 ∧ Both.All w' w'.heap.size g [⟨Ab, N, cb, X⟩] := hdep 13 (by simp) (by kernel_rfl)
              exact wp_call 16 [.tmp 75] _ rfl ent_of [.slice (some ⟨g, 0, none⟩) 1 1] (congrArg (fun z => [z]) ((at_dst 13 (by kernel_rfl)).trans e13)) (fun v w'' => Owns w'' w'.heap.size v 32 (ints (digest (nats X))) ∧ Below w'.heap.size w' w'') ((X6.out w' g hgr al).mono fun e w'' ⟨v, h1, h2, h3⟩ => ⟨v, h1, h2, h3⟩) (fun v w'' ⟨h1, h2⟩ => hK v _ h2 (h1.mono (Nat.zero_le _)))
            · obtain ⟨A', c', e, cv⟩ := X5.out w' (vals 14) 0 (hdep 14 (by simp) (by kernel_rfl))
              exact wp_conv (.tmp 76) rfl _ _ ((at_dst 14 (by kernel_rfl)).trans e) cv (hK _ _ (Below.refl _ _) rfl)
            · exact wp_bin (.tmp 73) (.tmp 77) rfl _ _ _ ((at_dst 11 (by kernel_rfl)).trans (hdep 11 (by simp) (by kernel_rfl))) ((at_dst 15 (by kernel_rfl)).trans (hdep 15 (by simp) (by kernel_rfl))) (b_eqs _ _ _ _) (hK _ _ (Below.refl _ _) rfl)
            · exact st_pick (.tmp 71) (.tmp 78) _ rfl _ ((at_dst 9 (by kernel_rfl)).trans (hdep 9 (by simp) (by kernel_rfl))) ((at_dst 16 (by kernel_rfl)).trans (hdep 16 (by simp) (by kernel_rfl))) (hK _ _ (Below.refl _ _) rfl)
            · exact wp_move (.tmp 79) rfl _ ((at_dst 17 (by kernel_rfl)).trans (hdep 17 (by simp) (by kernel_rfl))) (hK _ _ (Below.refl _ _) rfl)
            · exact wp_move (.tmp 6) rfl _ (at_out _ (by kernel_rfl) rfl) (hK _ _ (Below.refl _ _) rfl)
            · exact st_len_bytes (.tmp 81) rfl Ad 32 cd ((at_dst 19 (by kernel_rfl)).trans (hdep 19 (by simp) (by kernel_rfl))) (hK _ _ (Below.refl _ _) rfl)
            · exact wp_bin (.tmp 82) (.const (.int .i64 32)) rfl _ _ _ ((at_dst 20 (by kernel_rfl)).trans (hdep 20 (by simp) (by kernel_rfl))) rfl ((b_eql _ _ _ _ _).trans (by rfl)) (hK _ _ (Below.refl _ _) rfl)
            · exact st_pick (.tmp 80) (.tmp 83) _ rfl _ ((at_dst 18 (by kernel_rfl)).trans (hdep 18 (by simp) (by kernel_rfl))) ((at_dst 21 (by kernel_rfl)).trans (hdep 21 (by simp) (by kernel_rfl))) (hK _ _ (Below.refl _ _) rfl)
          · intro vals w' hgr hG
            have ev : vals 22 = .bool true := hG 22 (by simp)
            refine st_assign (.tmp 84) _ rfl (at_dst 22 (by kernel_rfl)) (wpAnyH_done (by kernel_rfl) ?_ _)
            have BF := Lib.hid (B2.out.trans ((X1.out w' hgr).mono B2.out.size))
            clear hG hgr
            simp only [fill, dstAt, List.getElem?_cons_zero, List.getElem?_cons_succ, Option.bind_some, Act.put, List.setIfInBounds_toArray, List.set_cons_zero, List.set_cons_succ]
            rw [ev]
            clear ev
            generalize vals 0 = y0, vals 1 = y1, vals 2 = y2, vals 3 = y3, vals 4 = y4, vals 5 = y5, vals 6 = y6, vals 7 = y7, vals 8 = y8, vals 9 = y9, vals 10 = y10, vals 11 = y11, vals 12 = y12, vals 13 = y13, vals 14 = y14, vals 15 = y15, vals 16 = y16, vals 17 = y17, vals 18 = y18, vals 19 = y19, vals 20 = y20, vals 21 = y21 at *
            generalize w' = wz at *
            go_wp2_with fail
            go_ret
            exact ⟨rfl, BF.out⟩
end Go.Proofs.YtbcfeecdmkcngaaDoor.LawOf
