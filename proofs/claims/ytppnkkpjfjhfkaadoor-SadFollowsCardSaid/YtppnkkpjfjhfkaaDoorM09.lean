/- One association is written; the others stay. -/
import Derived.Test.YtppnkkpjfjhfkaaDoorM06
import Derived.Test.YtppnkkpjfjhfkaaDoorM07
set_option linter.unusedVariables false
namespace Go.Proofs.YtppnkkpjfjhfkaaDoor.SadW
open Go.RowKit Go.Proofs.YtppnkkpjfjhfkaaDoor.Mem Go.Proofs.YtppnkkpjfjhfkaaDoor.Blk Go.Proofs.YtppnkkpjfjhfkaaDoor.ArgT Go.Proofs.YtppnkkpjfjhfkaaDoor.Longs Go.Proofs.YtppnkkpjfjhfkaaDoor.WinR Go.Proofs.YtppnkkpjfjhfkaaDoor.SadM

theorem own_same {w w' : World} {base : Nat} {t : TypeId} {z : Nat} {v : Value} {n : Nat} {xs : List Value} (h : w.ownsRow base t z v n xs) (hk : ∀ k, v.ownBlock = some k → w'.heap[k]? = w.heap[k]?) : w'.ownsRow base t z v n xs := by
  refine ⟨h.1, ?_⟩
  rcases h.2 with hn | ⟨g, cap, cur, rfl, hb, hgg, rest⟩
  · exact .inl hn
  · exact .inr ⟨g, cap, cur, rfl, hb, (hk g rfl).trans hgg, rest⟩
theorem win_same {w w' : World} {base g S : Nat} {v : Value} {wd : Bool} {l : List Nat} (h : Win w base g v S wd l) (h1 : w'.heap[g]? = w.heap[g]?) (h2 : ∀ k, v.ownBlock = some k → w'.heap[k]? = w.heap[k]?) : Win w' base g v S wd l :=
  ⟨h1.trans h.blk, own_same h.own h2, h.ne, h.lt, h.len, h.sz⟩
section
variable {w w' : World} {base gs : Nat} {vl : Value} {ls : List Spot} {es : List Ent}
theorem SadAt.mem (h : SadAt w base gs vl ls es) {l : Spot} (hl : l ∈ ls) : ∃ (j : Nat) (e : Ent), ls[j]? = some l ∧ es[j]? = some e := by
  obtain ⟨j, hj⟩ := List.mem_iff_getElem?.1 hl
  obtain ⟨hlt, _⟩ := List.getElem?_eq_some_iff.1 hj
  exact ⟨j, _, hj, List.getElem?_eq_getElem (by rw [← h.len]; exact hlt)⟩
theorem SadAt.lts (h : SadAt w base gs vl ls es) {l : Spot} (hl : l ∈ ls) : l.g < w.heap.size ∧ l.gw < w.heap.size ∧ ∀ k, l.v.ownBlock = some k → k < w.heap.size := by
  obtain ⟨j, e, h1, h2⟩ := SadAt.mem h hl
  obtain ⟨a, b, _⟩ := h.ent j l e h1 h2
  exact ⟨Blk.lt a, Blk.lt b.blk, fun k hk => (QOwn.lt b.own k hk).2⟩
theorem SadAt.apart (h : SadAt w base gs vl ls es) {i j : Nat} {l m : Spot} (hi : ls[i]? = some l) (hj : ls[j]? = some m) (hij : j ≠ i) : m.g ≠ l.g := by
  intro z
  have n := h.nodup
  rw [List.Nodup, List.pairwise_iff_getElem] at n
  obtain ⟨a, rfl⟩ := List.getElem?_eq_some_iff.1 hi
  obtain ⟨b, rfl⟩ := List.getElem?_eq_some_iff.1 hj
  rcases Nat.lt_or_gt_of_ne hij with q | q
  · exact n j i (by simpa using b) (by simpa using a) q (by simpa using z)
  · exact n i j (by simpa using a) (by simpa using b) q (by simpa using z.symm)

theorem SadAt.edit (h : SadAt w base gs vl ls es) {i : Nat} {l : Spot} {e : Ent} (hl : ls[i]? = some l) (he : es[i]? = some e) (e' : Ent) (v' : Value)
    (hx : ∀ k, k < w.heap.size → k ≠ l.g → k ≠ l.gw → some k ≠ l.v.ownBlock → w'.heap[k]? = w.heap[k]?)
    (hE : Blk w' l.g 68 (ecells e' l.gw)) (hW : Win w' base l.gw v' e'.life.x5.toNat e'.life.x4 e'.acc)
    (hr : v'.ownBlock = l.v.ownBlock ∨ ∃ k, v'.ownBlock = some k ∧ w.heap.size ≤ k) (hlife : e'.life = e.life) (hlast : e'.last < Q64) :
    SadAt w' base gs vl (ls.set i ⟨l.g, l.gw, v'⟩) (es.set i e') := by
  obtain ⟨T, t0, t1, tl⟩ := h.tag
  have hm : l ∈ ls := List.mem_of_getElem? hl
  obtain ⟨a2, a3, a4⟩ := tl l hm
  have hi : i < ls.length := (List.getElem?_eq_some_iff.1 hl).1
  have same : ∀ k, k < w.heap.size → T k ≠ (2, l.g) → T k ≠ (3, l.g) → T k ≠ (4, l.g) → w'.heap[k]? = w.heap[k]? := fun k hk q2 q3 q4 =>
    hx k hk (fun z => q2 (by rw [z]; exact a2)) (fun z => q3 (by rw [z]; exact a3)) (fun z => q4 (a4 k z.symm))
  have hg : (ls.set i ⟨l.g, l.gw, v'⟩).map (·.g) = ls.map (·.g) := by
    apply List.ext_getElem?
    intro k
    rw [List.getElem?_map, List.getElem?_map, List.getElem?_set]
    by_cases q : i = k
    · subst q
      rw [if_pos rfl, if_pos hi, hl]
      rfl
    · rw [if_neg q]
  refine ⟨(same gs (Blk.lt h.blk) (by rw [t0]; simp) (by rw [t0]; simp) (by rw [t0]; simp)).trans h.blk, ?_, by simp [h.len], ?_, ?_, by rw [hg]; exact h.nodup, h.ge.1, ?_⟩
  · rw [hg]
    exact own_same h.own fun k hk => same k (World.ownsRow.lt h.own k hk).2 (by rw [t1 k hk]; simp) (by rw [t1 k hk]; simp) (by rw [t1 k hk]; simp)
  · intro j m d hj hd
    rw [List.getElem?_set] at hj hd
    by_cases q : i = j
    · subst q
      rw [if_pos rfl, if_pos hi] at hj
      rw [if_pos rfl, if_pos (by rw [← h.len]; exact hi)] at hd
      cases hj
      cases hd
      obtain ⟨_, _, c1, c2, _⟩ := h.ent i l e hl he
      exact ⟨hE, hW, by rw [hlife]; exact c1, by rw [hlife]; exact c2, hlast⟩
    · rw [if_neg q] at hj hd
      have ap := SadAt.apart h hl hj (fun z => q z.symm)
      have mm : m ∈ ls := List.mem_of_getElem? hj
      obtain ⟨b2, b3, b4⟩ := tl m mm
      obtain ⟨l1, l2, l3⟩ := SadAt.lts h mm
      obtain ⟨c1, c2, c3⟩ := h.ent j m d hj hd
      refine ⟨(same m.g l1 (by rw [b2]; simp [ap]) (by rw [b2]; simp) (by rw [b2]; simp)).trans c1, win_same c2 (same m.gw l2 (by rw [b3]; simp) (by rw [b3]; simp [ap]) (by rw [b3]; simp)) fun k hk => same k (l3 k hk) (by rw [b4 k hk]; simp) (by rw [b4 k hk]; simp) (by rw [b4 k hk]; simp [ap]), c3⟩
  · rcases hr with hr | ⟨k0, hk0, hge⟩
    · refine ⟨T, t0, t1, fun m hm' => ?_⟩
      rcases List.mem_or_eq_of_mem_set hm' with q | rfl
      · exact tl m q
      · exact ⟨a2, a3, fun k hk => a4 k (by rw [← hr]; exact hk)⟩
    · have old : ∀ k, k < w.heap.size → (if k = k0 then ((4 : Nat), l.g) else T k) = T k := fun k hk => if_neg (by omega)
      refine ⟨fun k => if k = k0 then (4, l.g) else T k, (old gs (Blk.lt h.blk)).trans t0, fun k hk => (old k (World.ownsRow.lt h.own k hk).2).trans (t1 k hk), fun m hm' => ?_⟩
      rcases List.mem_or_eq_of_mem_set hm' with q | rfl
      · obtain ⟨b2, b3, b4⟩ := tl m q
        obtain ⟨l1, l2, l3⟩ := SadAt.lts h q
        exact ⟨(old _ l1).trans b2, (old _ l2).trans b3, fun k hk => (old k (l3 k hk)).trans (b4 k hk)⟩
      · obtain ⟨l1, l2, l3⟩ := SadAt.lts h hm
        exact ⟨(old _ l1).trans a2, (old _ l2).trans a3, fun k hk => by
          rw [hk0] at hk
          cases hk
          exact if_pos rfl⟩
  · intro m hm'
    rcases List.mem_or_eq_of_mem_set hm' with q | rfl
    · exact h.ge.2 m q
    · exact h.ge.2 l hm
/-- But for the object's own blocks all that was is as it was. -/
structure Fr (base gs : Nat) (vl : Value) (ls : List Spot) (w w' : World) : Prop where
  bel : Below base w w'
  rest : ∀ k, k < w.heap.size → k ≠ gs → some k ≠ vl.ownBlock → (∀ l ∈ ls, k ≠ l.g ∧ k ≠ l.gw ∧ some k ≠ l.v.ownBlock) → w'.heap[k]? = w.heap[k]?
theorem Fr.of {base gs : Nat} {vl : Value} {ls : List Spot} {w w' : World} (hb : Below w.heap.size w w') (hB : base ≤ w.heap.size) : Fr base gs vl ls w w' := ⟨hb.mono hB, fun k hk _ _ _ => hb.block k hk⟩
/-- Where the associations lie now: where they lay, or in new blocks. -/
def Nw (w : World) (ls ls' : List Spot) : Prop := ∀ l' ∈ ls', ∃ l ∈ ls, l'.g = l.g ∧ l'.gw = l.gw ∧ (l'.v.ownBlock = l.v.ownBlock ∨ ∃ k, l'.v.ownBlock = some k ∧ w.heap.size ≤ k)
theorem Nw.refl (w : World) (ls : List Spot) : Nw w ls ls := fun l h => ⟨l, h, rfl, rfl, .inl rfl⟩
theorem Nw.sub {w : World} {ls ls' : List Spot} (h : ∀ l ∈ ls', l ∈ ls) : Nw w ls ls' := fun l hl => ⟨l, h l hl, rfl, rfl, .inl rfl⟩
theorem Nw.set {w : World} {ls : List Spot} {i : Nat} {l : Spot} {v' : Value} (hl : ls[i]? = some l) (hr : v'.ownBlock = l.v.ownBlock ∨ ∃ k, v'.ownBlock = some k ∧ w.heap.size ≤ k) : Nw w ls (ls.set i ⟨l.g, l.gw, v'⟩) := fun l' h => by
  rcases List.mem_or_eq_of_mem_set h with q | q
  · exact ⟨l', q, rfl, rfl, .inl rfl⟩
  · subst q
    exact ⟨l, List.mem_of_getElem? hl, rfl, rfl, hr⟩
end
end Go.Proofs.YtppnkkpjfjhfkaaDoor.SadW

/- The document's Take. -/
set_option linter.unusedVariables false
namespace Go.Proofs.YtppnkkpjfjhfkaaDoor.SadR5
open Go.RowKit Go.Proofs.YtppnkkpjfjhfkaaDoor.Mem Go.Proofs.YtppnkkpjfjhfkaaDoor.Blk Go.Proofs.YtppnkkpjfjhfkaaDoor.ArgT Go.Proofs.YtppnkkpjfjhfkaaDoor.Longs Go.Proofs.YtppnkkpjfjhfkaaDoor.WinD Go.Proofs.YtppnkkpjfjhfkaaDoor.WinR Go.Proofs.YtppnkkpjfjhfkaaDoor.WinA Go.Proofs.YtppnkkpjfjhfkaaDoor.SadM Go.Proofs.YtppnkkpjfjhfkaaDoor.SadR1 Go.Proofs.YtppnkkpjfjhfkaaDoor.SadR2 Go.Proofs.YtppnkkpjfjhfkaaDoor.SadR3 Go.Proofs.YtppnkkpjfjhfkaaDoor.SadW

def took (e : Ent) (seq : Nat) (n : Int) : Ent := { e with bytes := if chk e.life.x5.toNat e.life.x4 e.acc seq = 0 then e.bytes + n else e.bytes, acc := WinD.acc e.life.x5.toNat e.life.x4 e.acc seq }
def takeS (now spi : Int) (seq : Nat) (n : Int) (es : List Ent) : Nat × List Ent := if n < 0 then (1, es) else match findI spi false es with
  | none => (6, es)
  | some i => match es[i]? with
    | none => (6, es)
    | some e => if ageN e now = 2 then (171, es) else (chk e.life.x5.toNat e.life.x4 e.acc seq, es.set i (took e seq n))
/-- What a call takes as read: the rows are short, the numbers fit. -/
def RoomOk (n : Int) (es : List Ent) : Prop := ∀ e ∈ es, e.acc.length < 1000000 ∧ -9223372036854775808 ≤ e.bytes + n ∧ e.bytes + n ≤ 9223372036854775807

/-- Nothing under base is touched. -/
theorem below_of {w w1 w' : World} {base : Nat} (hb : Below w.heap.size w w1) (h : w'.os = w1.os ∧ w'.tape = w1.tape ∧ w'.output = w1.output ∧ w1.heap.size ≤ w'.heap.size) (hk : ∀ k, k < base → w'.heap[k]? = w1.heap[k]?) (hB : base ≤ w.heap.size) : Below base w w' :=
  ⟨h.1.trans hb.os, h.2.1.trans hb.tape, h.2.2.1.trans hb.output, Nat.le_trans hb.size h.2.2.2, fun k q => (hk k q).trans (hb.block k (Nat.lt_of_lt_of_le q hB))⟩

set_option maxHeartbeats 2000000 in
theorem take_ref (base gs : Nat) (vl : Value) (ls : List Spot) (es : List Ent) (now spi : Int) (seq : Nat) (n : Int) (w : World) (h : SadAt w base gs vl ls es) (hn : es.length ≤ 1048576) (hc : NowOk now es) (hr : RoomOk n es) (hq : seq < Q64) :
    Calls Tryd.prog 29 #[.pointer (some ⟨gs, 0, none⟩), .int .i64 now, .int .i64 spi, .int .u64 (seq : Int), .int .i64 n] w fun er w' => er = .returned (.int .i64 ((takeS now spi seq n es).1 : Int)) ∧ Fr base gs vl ls w w' ∧ ∃ ls', Nw w ls ls' ∧ SadAt w' base gs vl ls' (takeS now spi seq n es).2 := by
  have hB : base ≤ w.heap.size := Nat.le_trans h.ge.1 (Nat.le_of_lt (Blk.lt h.blk))
  have C := Lib.hid (find_ref base gs vl ls es spi false w h hn)
  have H := Lib.hid h
  obtain ⟨r, hr0⟩ : ∃ r, r = takeS now spi seq n es := ⟨_, rfl⟩
  rw [← hr0]
  by_cases a1 : n < 0
  · have g1 : decide (n < 0) = true := decide_eq_true a1
    have E : Hid (r = (1, es)) := Lib.hid (by rw [hr0, takeS, if_pos a1])
    clear h hc hr hr0 hq
    go_enter Tryd.func29, Tryd.ntmps29
    go_wp2_with fail
    refine C.out.mono ?_
    rintro er w1 ⟨rfl, hb⟩
    have HB := Lib.hid hb
    clear hb C
    generalize ptrAt ls (findI spi false es) = pv at *
    go_wp2_with fail
    go_ret
    exact ⟨by rw [E.out]; rfl, Fr.of HB.out hB, ls, Nw.refl _ _, by rw [E.out]; exact H.out.up HB.out⟩
  have g1 : decide (n < 0) = false := decide_eq_false a1
  cases hf : findI spi false es with
  | none =>
    have E : Hid (r = (6, es)) := Lib.hid (by rw [hr0, takeS, if_neg a1, hf])
    rw [hf] at C
    clear h hc hr hr0 hf hq a1
    go_enter Tryd.func29, Tryd.ntmps29
    go_wp2_with fail
    refine C.out.mono ?_
    rintro er w1 ⟨rfl, hb⟩
    have HB := Lib.hid hb
    clear hb C
    simp only [ptrAt]
    go_wp2_with fail
    go_ret
    exact ⟨by rw [E.out]; rfl, Fr.of HB.out hB, ls, Nw.refl _ _, by rw [E.out]; exact H.out.up HB.out⟩
  | some i =>
    obtain ⟨l, e, hl, he, hm, hp⟩ := found h hf
    have E : Hid (r = if ageN e now = 2 then (171, es) else (chk e.life.x5.toNat e.life.x4 e.acc seq, es.set i (took e seq n))) := Lib.hid (by rw [hr0, takeS, if_neg a1, hf]; simp only [he])
    rw [hf, hp] at C
    have D := Lib.hid (And.intro hl he)
    have CB := Lib.hid (hc e hm)
    have RM := Lib.hid (hr e hm)
    have HQ := Lib.hid hq
    have f13 : IntKind.i64.wrap (e.bytes + n) = e.bytes + n := IntWalk.i64_in _ (hr e hm).2
    clear h hc hr hr0 hf hl he hm hp hq a1
    go_enter Tryd.func29, Tryd.ntmps29
    go_wp2_with fail
    refine C.out.mono ?_
    rintro er w1 ⟨rfl, hb⟩
    have HB := Lib.hid hb
    have C2 := Lib.hid (age1_ref e l.g l.gw now w1 ((H.out.up hb).ent i l e D.out.1 D.out.2).1 CB.out)
    clear hb C
    go_wp2_with fail
    refine C2.out.mono ?_
    rintro er w2 ⟨rfl, hb⟩
    have HB2 := Lib.hid (HB.out.trans (hb.mono HB.out.size))
    clear hb C2 HB
    by_cases a2 : ageN e now = 2
    · have E2 : r = (171, es) := E.out.trans (if_pos a2)
      rw [a2]
      clear E
      go_wp2_with fail
      go_ret
      exact ⟨by rw [E2]; rfl, Fr.of HB2.out hB, ls, Nw.refl _ _, by rw [E2]; exact H.out.up HB2.out⟩
    · have E2 := Lib.hid (E.out.trans (if_neg a2))
      have g2 : (((ageN e now : Nat) : Int) == 2) = false := by rw [beq_eq_false_iff_ne]; omega
      generalize ageN e now = ag at *
      have H2 := Lib.hid (H.out.up HB2.out)
      obtain ⟨hE, hW, z1, z2, hL⟩ := H2.out.ent i l e D.out.1 D.out.2
      have c15 : w2.cell? ⟨l.g, 15, none⟩ = some (.pointer (some ⟨l.gw, 0, none⟩)) := hE.cell 15
      have KE := Lib.hid hE
      have KW := Lib.hid hW
      have LL := Lib.hid hL
      have C3 := Lib.hid (accept_ref base l.gw l.v e.life.x5.toNat e.life.x4 e.acc seq w2 hW HQ.out RM.out.1 (Nat.le_trans hB HB2.out.size))
      clear hE hW z1 z2 hL E a2
      go_wp2_with fail
      refine C3.out.mono ?_
      rintro er w3 ⟨rfl, hbut, v', hW', hv'⟩
      obtain ⟨T, _, _, tl⟩ := H2.out.tag
      obtain ⟨t2, t3, t4⟩ := tl l (List.mem_of_getElem? D.out.1)
      have n1 : l.g ≠ l.gw := fun z => by rw [← z, t2] at t3; cases t3
      have n2 : some l.g ≠ l.v.ownBlock := fun z => by have := t4 l.g z.symm; rw [t2] at this; cases this
      have n3 : ∀ k, v'.ownBlock = some k → k ≠ l.g := fun k hk => by
        rcases hv' with q | ⟨k', q1, q2⟩
        · intro z; exact n2 (by rw [← q, hk, z])
        · rw [hk] at q1; cases q1
          have := Blk.lt KE.out; omega
      have K3 : Blk w3 l.g 68 (ecells e l.gw) := (hbut.block l.g (Blk.lt KE.out) n1 n2).trans KE.out
      have o1 : base ≤ l.g ∧ base ≤ l.gw := H2.out.ge.2 l (List.mem_of_getElem? D.out.1)
      have o2 : ∀ k, l.v.ownBlock = some k → base ≤ k := fun k hk => (QOwn.lt KW.out.own k hk).1
      have BT := Lib.hid hbut
      have KK := Lib.hid K3
      have W3 := Lib.hid hW'
      have V3 := Lib.hid hv'
      have N := Lib.hid (And.intro n1 (And.intro n2 n3))
      have O := Lib.hid (And.intro o1 o2)
      have c13 : w3.cell? ⟨l.g, 13, none⟩ = some (.int .i64 e.bytes) := K3.cell 13
      have fz13 := Blk.frozen K3 13
      have TK : Hid (took e seq n = { e with bytes := if chk e.life.x5.toNat e.life.x4 e.acc seq = 0 then e.bytes + n else e.bytes, acc := WinD.acc e.life.x5.toNat e.life.x4 e.acc seq }) := Lib.hid rfl
      obtain ⟨e', he'⟩ : ∃ e', e' = took e seq n := ⟨_, rfl⟩
      rw [← he'] at E2 TK
      clear hbut K3 hW' hv' n1 n2 n3 o1 o2 C3 tl t2 t3 t4 he' c15
      generalize hch : chk e.life.x5.toNat e.life.x4 e.acc seq = ch at *
      by_cases q : ch = 0
      · subst q
        have T2 : e' = { e with bytes := e.bytes + n, acc := WinD.acc e.life.x5.toNat e.life.x4 e.acc seq } := TK.out
        clear TK hch
        go_wp2_with fail
        go_ret
        refine ⟨by rw [E2.out]; rfl, ⟨?_, fun k hk _ _ kl => ?_⟩, (ls.set i ⟨l.g, l.gw, v'⟩), Nw.set D.out.1 (V3.out.imp id fun ⟨k, z1, z2⟩ => ⟨k, z1, Nat.le_trans HB2.out.size z2⟩), ?_⟩
        · refine below_of HB2.out ⟨BT.out.os, BT.out.tape, BT.out.output, by simpa using BT.out.size⟩ (fun k hk => ?_) hB
          exact (Below.heap_setCell w3 ⟨l.g, 13, none⟩ _ k (show k ≠ l.g by have := O.out.1.1; omega)).trans (BT.out.block k (by have := HB2.out.size; omega) (by have := O.out.1.2; omega) (fun z => by have := O.out.2 k z.symm; omega))
        · obtain ⟨k1, k2, k3⟩ := kl l (List.mem_of_getElem? D.out.1)
          exact (Below.heap_setCell w3 ⟨l.g, 13, none⟩ _ k k1).trans ((BT.out.block k (Nat.lt_of_lt_of_le hk HB2.out.size) k2 k3).trans (HB2.out.block k hk))
        · rw [E2.out]
          refine SadAt.edit H.out D.out.1 D.out.2 e' v' (fun k hk k1 k2 k3 => ?_) ?_ ?_ ?_ (by rw [T2]) (by rw [T2]; exact LL.out)
          · exact (Below.heap_setCell w3 ⟨l.g, 13, none⟩ _ k k1).trans ((BT.out.block k (Nat.lt_of_lt_of_le hk HB2.out.size) k2 k3).trans (HB2.out.block k hk))
          · rw [T2]; exact Blk.put KK.out 13 _
          · rw [T2]; exact win_same W3.out (Below.heap_setCell w3 ⟨l.g, 13, none⟩ _ _ (fun z => N.out.1 z.symm)) (fun k hk => Below.heap_setCell w3 ⟨l.g, 13, none⟩ _ _ (N.out.2.2 k hk))
          · rcases V3.out with z | ⟨k, z1, z2⟩
            · exact .inl z
            · exact .inr ⟨k, z1, Nat.le_trans HB2.out.size z2⟩
      · have g3 : ((ch : Int) == 0) = false := by rw [beq_eq_false_iff_ne]; omega
        have T2 : e' = { e with acc := WinD.acc e.life.x5.toNat e.life.x4 e.acc seq } := by rw [TK.out, if_neg q]
        clear TK hch
        go_wp2_with fail
        go_ret
        refine ⟨by rw [E2.out]; rfl, ⟨?_, fun k hk _ _ kl => ?_⟩, (ls.set i ⟨l.g, l.gw, v'⟩), Nw.set D.out.1 (V3.out.imp id fun ⟨k, z1, z2⟩ => ⟨k, z1, Nat.le_trans HB2.out.size z2⟩), ?_⟩
        · refine below_of HB2.out ⟨BT.out.os, BT.out.tape, BT.out.output, BT.out.size⟩ (fun k hk => ?_) hB
          exact BT.out.block k (by have := HB2.out.size; omega) (by have := O.out.1.2; omega) (fun z => by have := O.out.2 k z.symm; omega)
        · obtain ⟨k1, k2, k3⟩ := kl l (List.mem_of_getElem? D.out.1)
          exact (BT.out.block k (Nat.lt_of_lt_of_le hk HB2.out.size) k2 k3).trans (HB2.out.block k hk)
        · rw [E2.out]
          refine SadAt.edit H.out D.out.1 D.out.2 e' v' (fun k hk k1 k2 k3 => (BT.out.block k (Nat.lt_of_lt_of_le hk HB2.out.size) k2 k3).trans (HB2.out.block k hk)) (by rw [T2]; exact KK.out) (by rw [T2]; exact W3.out) ?_ (by rw [T2]) (by rw [T2]; exact LL.out)
          rcases V3.out with z | ⟨k, z1, z2⟩
          · exact .inl z
          · exact .inr ⟨k, z1, Nat.le_trans HB2.out.size z2⟩
end Go.Proofs.YtppnkkpjfjhfkaaDoor.SadR5

