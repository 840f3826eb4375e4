/- The document's Remove: a row of pointers that grows; one association is left out. -/
import Derived.Test.YtppnkkpjfjhfkaaDoorM07
import Derived.Test.YtppnkkpjfjhfkaaDoorM09
import Derived.LoopTactic
import Derived.LaidEqlPtr
set_option linter.unusedVariables false
set_option maxRecDepth 100000
namespace Go.Proofs.YtppnkkpjfjhfkaaDoor.SadR8
open Go.RowKit Go.Proofs.YtppnkkpjfjhfkaaDoor.Sums Go.Proofs.YtppnkkpjfjhfkaaDoor.Mem Go.Proofs.YtppnkkpjfjhfkaaDoor.Blk Go.Proofs.YtppnkkpjfjhfkaaDoor.ArgT Go.Proofs.YtppnkkpjfjhfkaaDoor.Longs Go.Proofs.YtppnkkpjfjhfkaaDoor.WinR Go.Proofs.YtppnkkpjfjhfkaaDoor.SadM Go.Proofs.YtppnkkpjfjhfkaaDoor.SadR2 Go.Proofs.YtppnkkpjfjhfkaaDoor.SadW

theorem ptr_info : (Tryd.prog.info? 69).map (fun i => (i.zero, i.size, i.bytes)) = some (some (.pointer none), 1, 8) := by kernel_rfl
/-- A pointer put behind a row of pointers. -/
theorem wpList_append_ptr {w : World} {ops : Array Oper} {rest : List Oper} {o : Oper} {a : Act} {Q : Exit → Act → World → Prop} (hgd : o.guard = none) (s x : Operand)
    (ho : o.op = .call { callee := .builtin .append, args := #[s, x], argTypes := #[27, 27] })
    (base : Nat) (v : Value) (l : List Nat) (hs : a.eval s = v) (h : POwn w base v l) (g c : Nat) (k : Nat) (hx : a.eval x = .slice (some ⟨g, 0, none⟩) 1 c)
    (hk : w.cell? ⟨g, 0, none⟩ = some (ptr k)) (hsm : l.length + 1 ≤ 1048576) (hbase : base ≤ w.heap.size)
    (hK : ∀ g' cap w', POwn w' base (.slice (some ⟨g', 0, none⟩) (l.length + 1) cap) (l ++ [k]) → w.grownBy w' v.ownBlock → (v.ownBlock = some g' ∨ g' = w.heap.size) → g' < w'.heap.size → wpList Tryd.prog ops Q rest (a.put o.dst (.slice (some ⟨g', 0, none⟩) (l.length + 1) cap)) w') : wpList Tryd.prog ops Q (o :: rest) a w := by
  refine wpList_plain hgd fun K' hK' => ?_
  obtain ⟨i, hi, hz, hsz, hby⟩ := info_parts ptr_info
  refine Go.wp_append_lies w s x 27 ho base 69 i (.pointer none) 1 8 Tryd.underlying27 hi hz hsz hby rfl (by decide) v l.length (l.map ptr) hs h ⟨g, 0, none⟩ 1 c [ptr k] hx rfl
    (fun j u hu => ?_) (by simp [ptr, Value.oneCell']) (by decide) (by simp only [maxLen]; omega) (by omega) hbase _ rfl fun g' cap w' ow gr hat hnew => ?_
  · have hj : j = 0 := by have := (List.getElem?_eq_some_iff.1 hu).1; simpa using this
    subst hj
    rw [add_plain, hk]
    exact hu
  · refine hK' _ _ (hK g' cap w' ?_ gr hat hnew)
    unfold POwn
    rw [List.length_append, List.map_append]
    exact ow
theorem filter_erase : ∀ (l : List Nat) (i a : Nat), l.Nodup → l[i]? = some a → l.filter (fun x => x != a) = l.eraseIdx i
  | [], _, _, _, h => by simp at h
  | x :: t, 0, a, hn, h => by
    obtain rfl : x = a := by simpa using h
    rw [List.filter_cons_of_neg (by simp), List.eraseIdx_cons_zero, List.filter_eq_self]
    intro y hy
    have := (List.nodup_cons.1 hn).1
    simp
    rintro rfl
    exact this hy
  | x :: t, i + 1, a, hn, h => by
    have h' : t[i]? = some a := by simpa using h
    have hne : x ≠ a := fun z => (List.nodup_cons.1 hn).1 (by rw [z]; exact List.mem_of_getElem? h')
    rw [List.filter_cons_of_pos (by simpa using hne), List.eraseIdx_cons_succ, filter_erase t i a (List.nodup_cons.1 hn).2 h']
theorem erase_map {α β : Type} (f : α → β) : ∀ (l : List α) (i : Nat), (l.map f).eraseIdx i = (l.eraseIdx i).map f
  | [], _ => rfl
  | _ :: _, 0 => rfl
  | x :: t, i + 1 => by rw [List.map_cons, List.eraseIdx_cons_succ, List.eraseIdx_cons_succ, erase_map f t i]; rfl
theorem own_base {w : World} {b2 base : Nat} {t : TypeId} {z : Nat} {v : Value} {n : Nat} {xs : List Value} (h : w.ownsRow base t z v n xs) (hb : b2 ≤ base) : w.ownsRow b2 t z v n xs := by
  refine ⟨h.1, ?_⟩
  rcases h.2 with hn | ⟨g, cap, cur, rfl, hb', rest⟩
  · exact .inl hn
  · exact .inr ⟨g, cap, cur, rfl, Nat.le_trans hb hb', rest⟩
theorem take_filter {l : List Nat} {i a : Nat} (p : Nat → Bool) (h : l[i]? = some a) : (l.take (i + 1)).filter p = (l.take i).filter p ++ (if p a then [a] else []) := by
  rw [List.take_add_one, h, List.filter_append]
  cases hp : p a <;> simp [hp]
def removeS (spi : Int) (out : Bool) (es : List Ent) : Nat × List Ent := match findI spi out es with
  | none => (6, es)
  | some i => (0, es.eraseIdx i)
/-- One is left out, the row is a new one. -/
theorem SadAt.drop {w w' : World} {base gs : Nat} {vl nv : Value} {ls : List Spot} {es : List Ent} (h : SadAt w base gs vl ls es) (i : Nat) (hb : Blk w' gs 29 #[nv])
    (ho : POwn w' w.heap.size nv ((ls.eraseIdx i).map (·.g))) (hx : ∀ k, k < w.heap.size → k ≠ gs → w'.heap[k]? = w.heap[k]?) : SadAt w' base gs nv (ls.eraseIdx i) (es.eraseIdx i) := by
  obtain ⟨T, t0, t1, tl⟩ := h.tag
  have sub : ∀ l ∈ ls.eraseIdx i, l ∈ ls := fun l hl => (List.eraseIdx_sublist ls i).subset hl
  have hB : base ≤ w.heap.size := Nat.le_trans h.ge.1 (Nat.le_of_lt (Blk.lt h.blk))
  refine ⟨hb, ?_, by rw [List.length_eraseIdx, List.length_eraseIdx, h.len], ?_, ?_, ((List.eraseIdx_sublist ls i).map _).nodup h.nodup, h.ge.1, fun l hl => h.ge.2 l (sub l hl)⟩
  · refine ⟨ho.1, ?_⟩
    rcases ho.2 with hn | ⟨g, cap, cur, z, hb', rest⟩
    · exact .inl hn
    · exact .inr ⟨g, cap, cur, z, Nat.le_trans hB hb', rest⟩
  · intro j l e hl he
    have key : ∃ k : Nat, ls[k]? = some l ∧ es[k]? = some e := by
      rw [List.getElem?_eraseIdx] at hl he
      by_cases q : j < i
      · rw [if_pos q] at hl he
        exact ⟨_, hl, he⟩
      · rw [if_neg q] at hl he
        exact ⟨_, hl, he⟩
    obtain ⟨k, h1, h2⟩ := key
    have mm := List.mem_of_getElem? h1
    obtain ⟨b2, b3, b4⟩ := tl l mm
    obtain ⟨l1, l2, l3⟩ := SadAt.lts h mm
    obtain ⟨c1, c2, c3⟩ := h.ent k l e h1 h2
    have ne : ∀ k, T k ≠ (0, 0) → k ≠ gs := fun k hk z => hk (by rw [z]; exact t0)
    exact ⟨(hx l.g l1 (ne _ (by rw [b2]; simp))).trans c1, win_same c2 (hx l.gw l2 (ne _ (by rw [b3]; simp))) fun k hk => hx k (l3 k hk) (ne _ (by rw [b4 k hk]; simp)), c3⟩
  · cases hv : nv.ownBlock with
    | none => exact ⟨T, t0, (fun k hk => by cases hk), fun l hl => tl l (sub l hl)⟩
    | some k0 =>
      have hk0 : w.heap.size ≤ k0 := (World.ownsRow.lt ho k0 hv).1
      have old : ∀ k, k < w.heap.size → (if k = k0 then ((1 : Nat), (0 : Nat)) else T k) = T k := fun k hk => if_neg (by omega)
      refine ⟨fun k => if k = k0 then (1, 0) else T k, (old gs (Blk.lt h.blk)).trans t0, fun k hk => ?_, fun l hl => ?_⟩
      · cases hk
        exact if_pos rfl
      · obtain ⟨b2, b3, b4⟩ := tl l (sub l hl)
        obtain ⟨l1, l2, l3⟩ := SadAt.lts h (sub l hl)
        exact ⟨(old _ l1).trans b2, (old _ l2).trans b3, fun k hk => (old k (l3 k hk)).trans (b4 k hk)⟩
theorem neq_same (w : World) (g : Nat) : (binOp .neq 69 (.pointer (some ⟨g, 0, none⟩)) (.pointer (some ⟨g, 0, none⟩))).run Tryd.prog w = .ok (.bool false) w := by
  cases hj : Tryd.prog.info? 68 with
  | none => exact absurd (show (Tryd.prog.info? 68).isSome = true by kernel_rfl) (by rw [hj]; simp)
  | some j =>
    have h : ∀ d : Nat, (Op.equalIn (d + 1) 69 (.pointer (some ⟨g, 0, none⟩)) (.pointer (some ⟨g, 0, none⟩))).run Tryd.prog w = .ok true w := fun d => by
      simp [Op.equalIn, run_underlying Tryd.underlying69, sizeOf, typeInfo, hj, run_sameAddr_same]
    simp only [binOp]
    simp [Op.equal, Op.maxDepth, h 9999]
theorem neq_other (w : World) (g g0 : Nat) (hne : g ≠ g0) {ca cb : Array Value} {ta tb : TypeId} (ha : Blk w g ta ca) (hb : Blk w g0 tb cb) : (binOp .neq 69 (.pointer (some ⟨g, 0, none⟩)) (.pointer (some ⟨g0, 0, none⟩))).run Tryd.prog w = .ok (.bool true) w := by
  cases hj : Tryd.prog.info? 68 with
  | none => exact absurd (show (Tryd.prog.info? 68).isSome = true by kernel_rfl) (by rw [hj]; simp)
  | some j =>
    have hz : ((Tryd.prog.info? 68).map (·.size)) = some 16 := by kernel_rfl
    have hsz : j.size ≠ 0 := by rw [hj] at hz; simp at hz; omega
    have h : ∀ d : Nat, (Op.equalIn (d + 1) 69 (.pointer (some ⟨g, 0, none⟩)) (.pointer (some ⟨g0, 0, none⟩))).run Tryd.prog w = .ok false w := fun d => by
      simp [Op.equalIn, run_underlying Tryd.underlying69, sizeOf, typeInfo, hj, hsz, run_sameAddr_other w (a := ⟨g, 0, none⟩) (b := ⟨g0, 0, none⟩) (fun z => hne (by injection z)) ha hb]
    simp only [binOp]
    simp [Op.equal, Op.maxDepth, h 9999]

set_option maxHeartbeats 2000000 in
theorem remove_ref (base gs : Nat) (vl : Value) (ls : List Spot) (es : List Ent) (spi : Int) (out : Bool) (w : World) (h : SadAt w base gs vl ls es) (hn : es.length ≤ 1048575) :
    Calls Tryd.prog 24 #[.pointer (some ⟨gs, 0, none⟩), .int .i64 spi, .bool out] w fun er w' => er = .returned (.int .i64 ((removeS spi out es).1 : Int)) ∧ Fr base gs vl ls w w' ∧ ∃ vl' ls', (vl'.ownBlock = vl.ownBlock ∨ ∀ k, vl'.ownBlock = some k → w.heap.size ≤ k) ∧ Nw w ls ls' ∧ SadAt w' base gs vl' ls' (removeS spi out es).2 := by
  have hB : base ≤ w.heap.size := Nat.le_trans h.ge.1 (Nat.le_of_lt (Blk.lt h.blk))
  have C := Lib.hid (find_ref base gs vl ls es spi out w h (by omega))
  have H0 := Lib.hid h
  obtain ⟨r, hr0⟩ : ∃ r, r = removeS spi out es := ⟨_, rfl⟩
  rw [← hr0]
  cases hf : findI spi out es with
  | none =>
    have E : Hid (r = (6, es)) := Lib.hid (by rw [hr0, removeS, hf])
    rw [hf] at C
    clear h hr0 hf
    go_enter Tryd.func24, Tryd.ntmps24
    go_wp2_with fail
    refine C.out.mono ?_
    rintro er w1 ⟨rfl, hb⟩
    have HB := Lib.hid hb
    clear hb C
    simp only [ptrAt]
    go_wp2_with fail
    go_ret
    exact ⟨by rw [E.out]; rfl, Fr.of HB.out hB, vl, ls, .inl rfl, Nw.refl _ _, by rw [E.out]; exact H0.out.up HB.out⟩
  | some i0 =>
    have E : Hid (r = (0, es.eraseIdx i0)) := Lib.hid (by rw [hr0, removeS, hf])
    obtain ⟨e0, he0, _⟩ := findI_is hf
    have hl0 : ls[i0]? = some (ls[i0]'(by rw [h.len]; exact (List.getElem?_eq_some_iff.1 he0).1)) := List.getElem?_eq_getElem _
    generalize ls[i0]'(by rw [h.len]; exact (List.getElem?_eq_some_iff.1 he0).1) = l0 at hl0
    have hp : ptrAt ls (some i0) = .pointer (some ⟨l0.g, 0, none⟩) := by simp only [ptrAt, hl0]; rfl
    rw [hf, hp] at C
    have ER : Hid ((ls.map (·.g)).filter (fun x => x != l0.g) = (ls.eraseIdx i0).map (·.g)) := Lib.hid (by
      rw [filter_erase _ i0 l0.g h.nodup (by rw [List.getElem?_map, hl0]; rfl), erase_map])
    have Z0 : Hid (∀ V, Below w.heap.size w V → Blk V l0.g 68 (ecells e0 l0.gw)) := Lib.hid fun V hV => ((h.up hV).ent i0 l0 e0 hl0 he0).1
    generalize ecells e0 l0.gw = CS0 at *
    generalize l0.g = g0 at *
    obtain ⟨A, c, rfl, hA⟩ := h.own.shape
    obtain ⟨n, hn0⟩ : ∃ n, n = es.length := ⟨_, rfl⟩
    have hl : (ls.map (·.g)).length = n := by rw [List.length_map, h.len, hn0]
    rw [hl] at h hA H0
    rw [← hn0] at hn
    have HN := Lib.hid hn0
    clear h hr0 hf he0 hl0 hp hA hl hn0
    go_enter Tryd.func24, Tryd.ntmps24
    go_wp2_with fail
    refine C.out.mono ?_
    rintro er w1 ⟨rfl, hb⟩
    have HB := Lib.hid hb
    have H1 := Lib.hid (H0.out.up hb)
    clear hb C
    have c0 : w1.cell? ⟨gs, 0, none⟩ = some (.slice A n c) := H1.out.blk.cell 0
    go_wp2_with fail
    go_loopw [8, 9] (fun lv iv wr => ∃ (i : Nat) (A2 : Option Addr) (n2 c2 : Nat), iv = .int .i64 (i : Int) ∧ lv = .slice A2 n2 c2 ∧ i ≤ n ∧ n2 ≤ i ∧ Hid (n2 = (((ls.map (·.g)).take i).filter (fun x => x != g0)).length) ∧ Hid (POwn wr w1.heap.size (.slice A2 n2 c2) (((ls.map (·.g)).take i).filter (fun x => x != g0))) ∧ Hid (Below w1.heap.size w1 wr)) (fun _ iv _ => n - (intOf iv).toNat)
    case atStart => exact ⟨0, none, 0, 0, rfl, rfl, by omega, by omega, Lib.hid rfl, Lib.hid ⟨rfl, .inl ⟨rfl, rfl⟩⟩, Lib.hid (Below.refl _ _)⟩
    case round =>
      obtain ⟨i, A2, n2, c2, rfl, rfl, hi, hn2, HL, HO, HW⟩ := hrel
      have H2 := H1.out.up HW.out
      have c0 : wr.cell? ⟨gs, 0, none⟩ = some (.slice A n c) := H2.blk.cell 0
      by_cases hlt : i < n
      · have hl : ls[i]? = some (ls[i]'(by rw [H2.len, ← HN.out]; exact hlt)) := List.getElem?_eq_getElem _
        generalize ls[i]'(by rw [H2.len, ← HN.out]; exact hlt) = l at hl
        obtain ⟨A', c', hv, hA'⟩ := H2.own.shape
        have hlen : (ls.map (·.g)).length = n := by rw [List.length_map, H2.len, ← HN.out]
        rw [hlen] at hv hA'
        cases hv
        obtain ⟨b, rfl, hc⟩ := hA' (by omega)
        have hg : (ls.map (·.g))[i]? = some l.g := by rw [List.getElem?_map, hl]; rfl
        have cp : wr.cell? ⟨b, i, none⟩ = some (.pointer (some ⟨l.g, 0, none⟩)) := hc i l.g hg
        have TF : Hid (((ls.map (·.g)).take (i + 1)).filter (fun x => x != g0) = ((ls.map (·.g)).take i).filter (fun x => x != g0) ++ (if (l.g != g0) = true then [l.g] else [])) := Lib.hid (take_filter (fun x => x != g0) hg)
        have CP : Hid (∀ V, Below wr.heap.size wr V → V.cell? ⟨gs, 0, none⟩ = some (.slice (some ⟨b, 0, none⟩) n c) ∧ V.cell? ⟨b, i, none⟩ = some (.pointer (some ⟨l.g, 0, none⟩))) := Lib.hid fun V hV => ⟨Blk.cell (Blk.below H2.blk hV (Blk.lt H2.blk)) 0, keep_cell cp hV⟩
        have he : es[i]? = some (es[i]'(by rw [← HN.out]; exact hlt)) := List.getElem?_eq_getElem _
        generalize es[i]'(by rw [← HN.out]; exact hlt) = e at he
        have ZG : Hid (Blk wr l.g 68 (ecells e l.gw)) := Lib.hid (H2.ent i l e hl he).1
        have ZZ : Hid (Blk wr g0 68 CS0) := Lib.hid (Z0.out wr (HB.out.trans (HW.out.mono HB.out.size)))
        generalize ecells e l.gw = CS at *
        generalize l.g = g at *
        clear he
        clear hc hA' hlen H2 hl hg
        generalize ((ls.map (·.g)).take i).filter (fun x => x != g0) = ks at *
        by_cases q : g = g0
        · subst q
          have N : Hid (((ls.map (·.g)).take (i + 1)).filter (fun x => x != g) = ks) := Lib.hid (by rw [TF.out]; simp)
          clear TF
          go_wp2_with fail
          rw [neq_same, Result.andThen_ok, Oper.upon_value]
          go_wp2_with fail
          go_roundw
          case rel => exact ⟨i + 1, A2, n2, c2, by go_num, rfl, by omega, by omega, Lib.hid (by rw [N.out]; exact HL.out), Lib.hid (by rw [N.out]; exact HO.out), HW⟩
          case measure => simp [intOf]; omega
        · have N : Hid (((ls.map (·.g)).take (i + 1)).filter (fun x => x != g0) = ks ++ [g]) := Lib.hid (by rw [TF.out, if_pos (by simpa using q)])
          clear TF
          go_wp2_with fail
          rw [neq_other wr g g0 q ZG.out ZZ.out, Result.andThen_ok, Oper.upon_value]
          clear ZG ZZ
          have BS := HW.out.size
          go_wp2_with (at_builtin
                       refine wpList_append_ptr rfl (.tmp 34) (.tmp 42) rfl w1.heap.size (.slice A2 n2 c2) ks rfl (World.ownsRow.alloc HO.out _) wr.heap.size 1 g rfl (Blk.cell (Blk.new wr _ _) 0) (by have := HL.out; omega) (by simp; omega) ?_
                       intro g2 cap w5 o2 gr2 at2 lt2
                       have O5 := Lib.hid o2
                       have G5 := Lib.hid gr2
                       clear o2 gr2 at2 lt2)
          have BW : Hid (Below w1.heap.size w1 w5) := Lib.hid ⟨G5.out.os.trans HW.out.os, G5.out.tape.trans HW.out.tape, G5.out.output.trans HW.out.output, by have := G5.out.size; simp at this; omega, fun k hk => (G5.out.block k (by simp; omega) (fun z => by have := (World.ownsRow.lt HO.out k z.symm).1; omega)).trans ((Below.heap_alloc wr _ k (by omega)).trans (HW.out.block k hk))⟩
          go_roundw
          case rel => exact ⟨i + 1, some ⟨g2, 0, none⟩, ks.length + 1, cap, by go_num, rfl, by omega, by have := HL.out; omega, Lib.hid (by rw [N.out, List.length_append]; rfl), Lib.hid (by rw [N.out]; exact O5.out), BW⟩
          case measure => simp [intOf]; omega
      · have e : i = n := by omega
        have FF : Hid (POwn wr w1.heap.size (.slice A2 n2 c2) ((ls.eraseIdx i0).map (·.g))) := Lib.hid (by
          have := HO.out
          rwa [List.take_of_length_le (by rw [List.length_map, H2.len, ← HN.out]; omega), ER.out] at this)
        have fz := Blk.frozen H2.blk 0
        clear HO HL e
        go_wp2_with fail
        go_ret
        refine ⟨by rw [E.out]; rfl, ⟨?_, fun k hk k1 _ _ => ?_⟩, .slice A2 n2 c2, ls.eraseIdx i0, .inr fun k hk => Nat.le_trans HB.out.size (World.ownsRow.lt FF.out k hk).1, Nw.sub fun l hl => (List.eraseIdx_sublist ls i0).subset hl, ?_⟩
        · exact ((HB.out.trans (HW.out.mono HB.out.size)).mono hB).setCell (p := ⟨gs, 0, none⟩) H0.out.ge.1 _
        · exact (Below.heap_setCell wr ⟨gs, 0, none⟩ _ k k1).trans ((HW.out.block k (Nat.lt_of_lt_of_le hk HB.out.size)).trans (HB.out.block k hk))
        · rw [E.out]
          have gl : gs < w1.heap.size := Blk.lt H1.out.blk
          exact SadAt.drop H0.out i0 (Blk.put H2.blk 0 _) (own_base (own_same FF.out fun k hk => Below.heap_setCell wr ⟨gs, 0, none⟩ _ k (show k ≠ gs by have := (World.ownsRow.lt FF.out k hk).1; omega)) HB.out.size)
            fun k hk hne => (Below.heap_setCell wr ⟨gs, 0, none⟩ _ k hne).trans ((HW.out.block k (Nat.lt_of_lt_of_le hk HB.out.size)).trans (HB.out.block k hk))
end Go.Proofs.YtppnkkpjfjhfkaaDoor.SadR8

