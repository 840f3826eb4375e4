/- slices.Delete of one element, slices.Index, at pointers. -/
import Derived.Test.YtppnkkpjfjhfkaaDoorM26
import Derived.Test.YtppnkkpjfjhfkaaDoorM30
import Derived.Test.YtppnkkpjfjhfkaaDoorM12
import Derived.LoopTactic
import Derived.LaidEqlPtr
import Derived.Lib.Overlaps
import Derived.Shelf.RegionOpenPlain
import Derived.Laws.Externs
set_option linter.unusedVariables false
set_option maxRecDepth 100000
namespace Go.Proofs.YtppnkkpjfjhfkaaDoor.DelP
open Go.RowKit Go.Proofs.YtppnkkpjfjhfkaaDoor.Mem Go.Proofs.YtppnkkpjfjhfkaaDoor.Blk Go.Proofs.YtppnkkpjfjhfkaaDoor.RowN Go.Proofs.YtppnkkpjfjhfkaaDoor.RowA Go.Proofs.YtppnkkpjfjhfkaaDoor.Part Go.Proofs.YtppnkkpjfjhfkaaDoor.SadM Go.Proofs.YtppnkkpjfjhfkaaDoor.CadM
theorem info_ptr : ∃ i, Tryd.prog.info? RT = some i ∧ i.zero = some (.pointer none) ∧ i.size = 1 ∧ i.bytes = 8 := by
  have h : (Tryd.prog.info? RT).map (fun i => (i.zero, i.size, i.bytes)) = some (some (.pointer none), 1, 8) := by kernel_rfl
  obtain ⟨i, hi, hz⟩ := Option.map_eq_some_iff.1 h
  simp only [Prod.mk.injEq] at hz
  exact ⟨i, hi, hz.1, hz.2.1, hz.2.2⟩
theorem spl_list {X : Array Value} {a b c vs : List Value} {o : Nat} (hX : X.toList = a ++ (b ++ c)) (ho : a.length = o) (hb : b.length = vs.length) : (spl X o vs).toList = a ++ (vs ++ c) := by
  unfold spl
  have h1 : X.toList.take o = a := by rw [hX]; exact List.take_left' ho
  have h2 : X.toList.drop (o + vs.length) = c := by
    rw [hX, ← List.append_assoc]
    exact List.drop_left' (by simp [ho, hb])
  rw [h1, h2]
  simp
theorem step_append_runI {P : Program} {ops : Array Oper} {o : Oper} {a : Act} {w : World} {K : Act → World → Prop} {Q : Exit → Act → World → Prop} {E : Prop}
    (hg : o.guard = none) (d x : Operand) (dT sT : TypeId) (hop : o.op = Op.call { callee := Callee.builtin Builtin.append, args := #[d, x], argTypes := #[dT, sT] })
    (v u : Value) (hd : a.eval d = v) (hx : a.eval x = u) {v' : Value} {w' : World} (hr : (Builtin.append_ #[dT, sT] o.type #[v, u]).run P w = .ok v' w') (hK : K (a.put o.dst v') w') :
    if Region.wanted o (yielded ops a.tmps) = true then Oper.wp P o a w K Q else E := by
  have hw : Region.wanted o (yielded ops a.tmps) = true := by simp [Region.wanted, hg]
  rw [if_pos hw]
  unfold Oper.wp
  simp [execOp, hop, resolve, invoke, builtin, hd, hx, hr, Result.andThen]
  exact hK
theorem del_list (a x d Y : List Value) (hx : x.length = 1) (X : Array Value) (hX : X.toList = a ++ (x ++ (d ++ Y))) (Z : List Value) (hZ : Z.length = 1) : (spl (spl X a.length d) (a.length + d.length) Z).toList = a ++ d ++ (Z ++ Y) := by
  have e1 : (spl X a.length d).toList = a ++ (d ++ ((x ++ d).drop d.length ++ Y)) := by
    refine spl_list (b := (x ++ d).take d.length) ?_ rfl (by simp)
    rw [hX, ← List.append_assoc ((x ++ d).take d.length), List.take_append_drop, List.append_assoc]
  refine spl_list (b := (x ++ d).drop d.length) ?_ (by simp) (by simp [hx, hZ])
  rw [e1, List.append_assoc]
set_option maxHeartbeats 4000000 in
theorem delete_ptr (A : Option Addr) (n c i : Nat) (cs : List Value) (w : World) (hx : RowZ w A n c cs) (hn : n ≤ 1000000) (hi : i < n) :
    Calls Tryd.prog 40 #[.slice A n c, .int .i64 (i : Int), .int .i64 ((i : Int) + 1)] w fun e w' => e = .returned (.slice A (n - 1) c) ∧ RowZ w' A (n - 1) c (cs.eraseIdx i) ∧ Keep (fun k => ¬ own A k) w w' := by
  obtain ⟨inf, hinf, hz, hsz, hby⟩ := info_ptr
  have h := hx.row
  obtain ⟨b, X, rfl, hX, hXc, hXt⟩ := h.some (by omega)
  have hfit := hx.fits b X rfl hX
  have htl := hx.tail b X rfl hX
  have hcl := h.len
  have hle := h.le
  have hbig := h.big
  rw [Nat.mul_one] at hcl hXt hfit hXc
  have er : cs.eraseIdx i = cs.take i ++ cs.drop (i + 1) := List.eraseIdx_eq_take_drop_succ ..
  obtain ⟨al, dl⟩ : (cs.take i).length = i ∧ (cs.drop (i + 1)).length = n - (i + 1) := by
    constructor
    · simp [hcl]; omega
    · simp [hcl]
  have hXl : X.toList = cs.take i ++ ((cs.drop i).take 1 ++ (cs.drop (i + 1) ++ X.toList.drop n)) := by
    have e : cs.drop (i + 1) = (cs.drop i).drop 1 := by rw [List.drop_drop]
    rw [e, ← List.append_assoc ((cs.drop i).take 1), List.take_append_drop, ← List.append_assoc, List.take_append_drop, ← hXt, List.take_append_drop]
  obtain ⟨Z, hZ⟩ : ∃ Z, Z = (Builtin.zeroCells (Value.pointer none).cells 1).toList := ⟨_, rfl⟩
  have zl : Z.length = 1 := by rw [hZ, Array.length_toList, size_zeroCells]; rfl
  have z1 : ∀ v ∈ Z, v.oneCell' = true := by
    rw [hZ]
    have : (Builtin.zeroCells (Value.pointer none).cells 1).toList.all (·.oneCell') = true := by kernel_rfl
    exact fun v hv => List.all_eq_true.1 this v hv
  obtain ⟨X1, hX1⟩ : ∃ X1, X1 = spl X i (cs.drop (i + 1)) := ⟨_, rfl⟩
  obtain ⟨X2, hX2⟩ : ∃ X2, X2 = spl X1 (n - 1) Z := ⟨_, rfl⟩
  have s1 : X1.size = X.size := by rw [hX1]; exact spl_size (by rw [dl]; omega)
  have s2 : X2.size = X.size := by rw [hX2]; exact (spl_size (by rw [zl]; omega)).trans s1
  have fl : (cs.take i ++ cs.drop (i + 1)).length = n - 1 := by rw [List.length_append, al, dl]; omega
  have ht : X2.toList.take (n - 1) = cs.take i ++ cs.drop (i + 1) := by
    have q := del_list (cs.take i) ((cs.drop i).take 1) (cs.drop (i + 1)) (X.toList.drop n) (by simp [hcl]; omega) X hXl Z zl
    rw [al, dl, show i + (n - (i + 1)) = n - 1 by omega, ← hX1, ← hX2] at q
    rw [q]
    exact List.take_left' fl
  have tl2 : ∀ v ∈ X2.toList.drop (n - 1), v = .pointer none := by
    have q := del_list (cs.take i) ((cs.drop i).take 1) (cs.drop (i + 1)) (X.toList.drop n) (by simp [hcl]; omega) X hXl Z zl
    rw [al, dl, show i + (n - (i + 1)) = n - 1 by omega, ← hX1, ← hX2] at q
    rw [q, List.drop_left' fl]
    intro v hv
    rcases List.mem_append.1 hv with z | z
    · rw [hZ] at z
      simpa [Builtin.zeroCells, Value.cells] using z
    · exact htl v z
  obtain ⟨Ad, hA, hsrc⟩ : ∃ Ad : Addr, (if c = i + 1 then (some ⟨b, 0, none⟩ : Option Addr) else some ⟨b, i + 1, none⟩) = some Ad ∧ ∀ j v, (cs.drop (i + 1))[j]? = some v → w.drew.cell? (Ad.add j) = some v := by
    by_cases q : c = i + 1
    · refine ⟨_, if_pos q, fun j v hj => ?_⟩
      have : cs.drop (i + 1) = [] := List.length_eq_zero_iff.1 (by rw [dl]; omega)
      rw [this] at hj
      cases hj
    · refine ⟨_, if_neg q, fun j v hj => ?_⟩
      rw [Addr.add_lit]
      rw [List.getElem?_drop] at hj
      exact h.cell rfl hj
  have hap : ∀ ty, (Builtin.append_ #[58, 58] ty #[.slice (some ⟨b, 0, none⟩) i c, .slice (some Ad) (n - (i + 1)) (c - (i + 1))]).run Tryd.prog w.drew = .ok (.slice (some ⟨b, 0, none⟩) (i + (n - (i + 1))) c) (w.drew.setRow b X1) := fun ty => by
    have q := run_append_spl (w := w.drew) Tryd.underlying58 hinf (show Blk w.drew b RT X from hX) i c Ad (n - (i + 1)) (c - (i + 1)) _ (by rw [dl, hsz]; omega) hsrc (fun v hv => h.one v (List.mem_of_mem_drop hv)) (by omega) (by rw [dl, hsz]; omega) ty
    rw [hsz, Nat.mul_one, ← hX1] at q
    exact q
  have B1 : Blk (w.drew.setRow b X1) b RT X1 := setRow_heap _ _ _ X1 _ _ hX
  have hcl2 : ∀ ty cc, (Builtin.clear_ #[58] ty #[.slice (some ⟨b, n - 1, none⟩) (n - (n - 1)) cc]).run Tryd.prog (w.drew.setRow b X1) = .ok (.tuple #[]) ((w.drew.setRow b X1).setRow b X2) := fun ty cc => by
    rw [hX2, show n - (n - 1) = 1 by omega]
    exact run_clear_spl Tryd.underlying58 (fun w => by kernel_rfl) B1 _ 1 cc (by omega) Z hZ.symm (by rw [zl]; omega) z1 ty
  have E := Lib.hid (show RowZ ((w.drew.setRow b X1).setRow b X2) (some ⟨b, 0, none⟩) (n - 1) c (cs.eraseIdx i) ∧ Keep (fun k => ¬ own (some ⟨b, 0, none⟩) k) w ((w.drew.setRow b X1).setRow b X2) from
    ⟨⟨⟨by rw [er, fl]; omega, by omega, hbig, fun v hv => h.one v ((List.eraseIdx_sublist cs i).subset hv), .inr ⟨b, X2, rfl, setRow_heap _ _ _ _ _ _ B1, by omega, by rw [Nat.mul_one, ht, er]⟩⟩, fun b' X' hA' hB' => by
        cases hA'
        have q := hB'.symm.trans (setRow_heap _ _ _ X2 _ _ B1)
        simp at q
        rw [q, s2, hfit, Nat.mul_one], fun b' X' hA' hB' => by
        cases hA'
        have q := hB'.symm.trans (setRow_heap _ _ _ X2 _ _ B1)
        simp at q
        rw [q]
        exact tl2⟩,
      ((Keep.refl _ w).drewN 1).trans ((Keep.row (F := fun k => ¬ own (some ⟨b, 0, none⟩) k) w.drew b X1 (fun z => z ⟨_, rfl, rfl⟩)).trans (Keep.row _ b _ (fun z => z ⟨_, rfl, rfl⟩)))⟩)
  have mixed : Tryd.prog.follows .mixedOrders = true := by kernel_rfl
  have hw1 : IntKind.i64.wrap ((i : Int) + 1) = (i : Int) + 1 := IntWalk.i64_in _ (by omega)
  have hb1 : (0 : Int) ≤ (i : Int) + 1 := by omega
  have hin : i ≤ n := by omega
  have hin1 : i + 1 ≤ n := by omega
  have hin2 : (i : Int) + 1 ≤ (n : Int) := by omega
  have htn : ((i : Int) + 1).toNat = i + 1 := by omega
  have hne : ¬ ((i : Int) = (i : Int) + 1) := by omega
  have hsum : i + (n - (i + 1)) = n - 1 := by omega
  have hic : i ≤ c := by omega
  have hjc : i + 1 ≤ c := by omega
  have hcl := hcl2
  clear htl tl2 h hx hX hXc hXt hXl hX1 hX2 s1 s2 ht fl al dl zl z1 hZ hsrc B1 hcl2 hfit er
  rw [hsum] at hap
  go_enter Tryd.func40, Tryd.ntmps40
  go_wp2_with fail
  go_region_law_o (refine step_append_runI rfl (.tmp 22) (.tmp 25) 58 58 rfl _ _ (by simp [Act.eval, Act.put]) (by simp [Act.eval, Act.put]) (hap _) ?_)
  go_wp2
  go_ret
  exact ⟨rfl, E.out.1, E.out.2⟩
theorem eql_same (w : World) (g : Nat) : (binOp .eql RT (.pointer (some ⟨g, 0, none⟩)) (.pointer (some ⟨g, 0, none⟩))).run Tryd.prog w = .ok (.bool true) w := by
  cases hj : Tryd.prog.info? 65 with
  | none => exact absurd (show (Tryd.prog.info? 65).isSome = true by kernel_rfl) (by rw [hj]; simp)
  | some j =>
    have h : ∀ d : Nat, (Op.equalIn (d + 1) RT (.pointer (some ⟨g, 0, none⟩)) (.pointer (some ⟨g, 0, none⟩))).run Tryd.prog w = .ok true w := fun d => by
      simp [Op.equalIn, run_underlying Tryd.underlying61, sizeOf, typeInfo, hj, run_sameAddr_same]
    simp only [binOp]
    simp [Op.equal, Op.maxDepth, h 9999]
theorem eql_other (w : World) (g g0 : Nat) (hne : g ≠ g0) {ca cb : Array Value} {ta tb : TypeId} (ha : Blk w g ta ca) (hb : Blk w g0 tb cb) : (binOp .eql RT (.pointer (some ⟨g, 0, none⟩)) (.pointer (some ⟨g0, 0, none⟩))).run Tryd.prog w = .ok (.bool false) w := by
  cases hj : Tryd.prog.info? 65 with
  | none => exact absurd (show (Tryd.prog.info? 65).isSome = true by kernel_rfl) (by rw [hj]; simp)
  | some j =>
    have hz : ((Tryd.prog.info? 65).map (·.size)) = some 16 := by kernel_rfl
    have hsz : j.size ≠ 0 := by rw [hj] at hz; simp at hz; omega
    have h : ∀ d : Nat, (Op.equalIn (d + 1) RT (.pointer (some ⟨g, 0, none⟩)) (.pointer (some ⟨g0, 0, none⟩))).run Tryd.prog w = .ok false w := fun d => by
      simp [Op.equalIn, run_underlying Tryd.underlying61, sizeOf, typeInfo, hj, hsz, run_sameAddr_other w (a := ⟨g, 0, none⟩) (b := ⟨g0, 0, none⟩) (fun z => hne (by injection z)) ha hb]
    simp only [binOp]
    simp [Op.equal, Op.maxDepth, h 9999]
set_option maxHeartbeats 2000000 in
theorem index_c (gs : Nat) (A : Option Addr) (n c : Nat) (ls : List CSpot) (es : List Ent) (i : Nat) (l : CSpot) (w : World) (h : CadAt w gs A n c ls es) (hn : es.length ≤ 1048576) (hl : ls[i]? = some l) :
    Calls Tryd.prog 39 #[.slice A n c, .pointer (some ⟨l.g, 0, none⟩)] w fun e w' => e = .returned (.int .i64 (i : Int)) ∧ Below w.heap.size w w' := by
  have hn0 := h.num
  rw [← hn0] at hn
  have hin : i < n := by
    have := (List.getElem?_eq_some_iff.1 hl).1
    rw [h.len, ← hn0] at this
    exact this
  have H := Lib.hid h
  have HN := Lib.hid hn0
  have HL := Lib.hid hl
  clear h hn0 hl
  go_enter Tryd.func39, Tryd.ntmps39
  go_wp2_with fail
  go_loopw [8] (fun iv wr => ∃ j : Nat, iv = .int .i64 (j : Int) ∧ j ≤ i ∧ Hid (Below w.heap.size w wr)) (fun iv _ => n - (intOf iv).toNat)
  case atStart => exact ⟨0, rfl, by omega, Lib.hid (Below.refl _ _)⟩
  case round =>
    obtain ⟨j, rfl, hi, HB⟩ := hrel
    have H2 := H.out.up HB.out
    have hlt : j < n := by omega
    have he : es[j]? = some (es[j]'(by rw [← HN.out]; exact hlt)) := List.getElem?_eq_getElem _
    have hm : ls[j]? = some (ls[j]'(by rw [H2.len, ← HN.out]; exact hlt)) := List.getElem?_eq_getElem _
    generalize es[j]'(by rw [← HN.out]; exact hlt) = e at he
    generalize ls[j]'(by rw [H2.len, ← HN.out]; exact hlt) = m at hm
    obtain ⟨b, X, rfl, -⟩ := H2.row.row.some (by omega)
    have cp : wr.cell? ⟨b, j, none⟩ = some (.pointer (some ⟨m.g, 0, none⟩)) := H2.row.row.cell rfl (by rw [List.getElem?_map, hm]; rfl)
    by_cases q : j = i
    · subst q
      obtain rfl := Option.some.inj (HL.out.symm.trans hm)
      have g1 := eql_same wr l.g
      clear H2 he hm
      generalize l.g = g at *
      go_wp2_with fail
      go_ret
      exact ⟨rfl, HB.out⟩
    · have ne := H2.apart HL.out hm q
      obtain ⟨ei, hei⟩ : ∃ ei, es[i]? = some ei := ⟨_, List.getElem?_eq_getElem (by rw [← HN.out]; exact hin)⟩
      have g1 := eql_other wr l.g m.g (fun z => ne z.symm) (H2.ent i l ei HL.out hei).1 (H2.ent j m e hm he).1
      clear H2 he hm ne hei
      generalize l.g = g at *
      generalize m.g = g2 at *
      go_wp2_with fail
      go_roundw
      case rel => exact ⟨j + 1, by go_num, by omega, HB⟩
      case measure => simp [intOf]; omega
end Go.Proofs.YtppnkkpjfjhfkaaDoor.DelP

/- The code's Remove. -/
set_option linter.unusedVariables false
set_option maxRecDepth 100000
namespace Go.Proofs.YtppnkkpjfjhfkaaDoor.Cad8
open Go.RowKit Go.Proofs.YtppnkkpjfjhfkaaDoor.Mem Go.Proofs.YtppnkkpjfjhfkaaDoor.Blk Go.Proofs.YtppnkkpjfjhfkaaDoor.ArgT Go.Proofs.YtppnkkpjfjhfkaaDoor.Longs Go.Proofs.YtppnkkpjfjhfkaaDoor.SadM Go.Proofs.YtppnkkpjfjhfkaaDoor.SadR2 Go.Proofs.YtppnkkpjfjhfkaaDoor.SadR8 Go.Proofs.YtppnkkpjfjhfkaaDoor.RowN Go.Proofs.YtppnkkpjfjhfkaaDoor.RowA Go.Proofs.YtppnkkpjfjhfkaaDoor.CadM Go.Proofs.YtppnkkpjfjhfkaaDoor.Cad0 Go.Proofs.YtppnkkpjfjhfkaaDoor.Cad2 Go.Proofs.YtppnkkpjfjhfkaaDoor.DelP Go.Proofs.YtppnkkpjfjhfkaaDoor.Errno

theorem CadAt.noRow {w : World} {gs : Nat} {A : Option Addr} {n c : Nat} {ls : List CSpot} {es : List Ent} (h : CadAt w gs A n c ls es) : ¬ own A gs ∧ ∀ l ∈ ls, ¬ own A l.g ∧ l.g ≠ gs ∧ ∀ p, l.w = some p → ¬ own A p.1 ∧ ¬ own A p.2 ∧ p.1 ≠ gs ∧ p.2 ≠ gs := by
  obtain ⟨T, t0, t1, tl⟩ := h.tag
  refine ⟨fun z => by have := t1 _ z; rw [t0] at this; simp at this, fun l hl => ?_⟩
  obtain ⟨a, b⟩ := tl l hl
  refine ⟨fun z => by have := t1 _ z; rw [a] at this; simp at this, fun z => by rw [z, t0] at a; simp at a, fun p hp => ?_⟩
  obtain ⟨b1, b2⟩ := b p hp
  exact ⟨fun z => by have := t1 _ z; rw [b1] at this; simp at this, fun z => by have := t1 _ z; rw [b2] at this; simp at this, fun z => by rw [z, t0] at b1; simp at b1, fun z => by rw [z, t0] at b2; simp at b2⟩
theorem CadAt.drop {w w' : World} {gs : Nat} {A : Option Addr} {n c n' : Nat} {ls : List CSpot} {es : List Ent} (h : CadAt w gs A n c ls es) (i : Nat) (hb : Blk w' gs 60 #[.slice A n' c])
    (hr : RowZ w' A n' c ((ls.map fun l => ptr l.g).eraseIdx i)) (hx : ∀ k, k < w.heap.size → k ≠ gs → ¬ own A k → w'.heap[k]? = w.heap[k]?) : CadAt w' gs A n' c (ls.eraseIdx i) (es.eraseIdx i) := by
  have nr := CadAt.noRow h
  have sub : ∀ l ∈ ls.eraseIdx i, l ∈ ls := fun l hl => (List.eraseIdx_sublist ls i).subset hl
  obtain ⟨T, t0, t1, tl⟩ := h.tag
  refine ⟨hb, by rw [← erase_map]; exact hr, by rw [List.length_eraseIdx, List.length_eraseIdx, h.len], ?_, ⟨T, t0, t1, fun l hl => tl l (sub l hl)⟩, ((List.eraseIdx_sublist ls i).map _).nodup h.nodup⟩
  intro j l e hl he
  have key : ∃ k : Nat, ls[k]? = some l ∧ es[k]? = some e := by
    rw [List.getElem?_eraseIdx] at hl he
    by_cases q : j < i
    · rw [if_pos q] at hl he
      exact ⟨_, hl, he⟩
    · rw [if_neg q] at hl he
      exact ⟨_, hl, he⟩
  obtain ⟨k, h1, h2⟩ := key
  have mm := List.mem_of_getElem? h1
  obtain ⟨l1, l2⟩ := h.lts mm
  obtain ⟨c1, c2, c3⟩ := h.ent k l e h1 h2
  obtain ⟨n1, n2, n3⟩ := nr.2 l mm
  exact ⟨(hx l.g l1 n2 n1).trans c1, fun p hp => has_same (c2 p hp) (hx p.1 (l2 p hp).1 (n3 p hp).2.2.1 (n3 p hp).1) (hx p.2 (l2 p hp).2 (n3 p hp).2.2.2 (n3 p hp).2.1), c3⟩
theorem remove_nil (spi : Int) (out : Bool) (w : World) (hg : Handle w) : Calls Tryd.prog 18 #[.pointer none, .int .i64 spi, .bool out] w fun er w' => er = .returned (.int .i64 3) ∧ Below w.heap.size w w' := by
  have ER := Lib.hid (errno_fault spi out ((3 : Nat) : Int) w hg)
  go_enter Tryd.func18, Tryd.ntmps18
  go_wp2_with fail
  refine (find_nil spi out w).mono ?_
  rintro er w1 ⟨rfl, rfl⟩
  unfold failV
  go_wp2_with fail
  refine ER.out.mono ?_
  rintro er w2 ⟨rfl, hb⟩
  have HB := Lib.hid hb
  clear hb ER
  go_wp2_with fail
  go_ret
  exact ⟨rfl, HB.out⟩
set_option maxHeartbeats 2000000 in
theorem remove_c (gs : Nat) (A : Option Addr) (n c : Nat) (ls : List CSpot) (es : List Ent) (spi : Int) (out : Bool) (w : World) (h : CadAt w gs A n c ls es) (hg : Handle w) (hn : es.length ≤ 1000000) :
    Calls Tryd.prog 18 #[.pointer (some ⟨gs, 0, none⟩), .int .i64 spi, .bool out] w fun er w' => er = .returned (.int .i64 ((removeS spi out es).1 : Int)) ∧ (∃ n' ls', CadAt w' gs A n' c ls' (removeS spi out es).2 ∧ ∀ l ∈ ls', l ∈ ls) ∧ Keep (fun k => ¬ Mine gs A ls k) w w' := by
  obtain ⟨u, hu⟩ : ∃ u, u = removeS spi out es := ⟨_, rfl⟩
  rw [← hu]
  unfold removeS at hu
  have FC := Lib.hid (find_c gs A n c ls es spi out w h (by omega))
  have HU := Lib.hid hu
  have HH := Lib.hid h
  have HG := Lib.hid hg
  clear hu h hg
  go_enter Tryd.func18, Tryd.ntmps18
  go_wp2_with fail
  refine FC.out.mono ?_
  rintro er w1 ⟨rfl, hb⟩
  cases hf : findI spi out es with
  | none =>
    have E : Hid (u = (6, es)) := Lib.hid (by rw [HU.out, hf])
    have HB := Lib.hid hb
    have ER := Lib.hid (errno_fault spi out ((6 : Nat) : Int) w1 (HG.out.keep hb))
    clear FC HU hf hb
    unfold foundV foundE failV
    go_wp2_with fail
    refine ER.out.mono ?_
    rintro er w2 ⟨rfl, hb2⟩
    have HB2 := Lib.hid (HB.out.trans (hb2.mono HB.out.size))
    clear hb2 ER HB
    go_wp2_with fail
    go_ret
    exact ⟨by rw [E.out]; rfl, ⟨n, ls, by rw [E.out]; exact HH.out.up HB2.out, fun _ h => h⟩, Keep.of HB2.out⟩
  | some i =>
    obtain ⟨e, he, _⟩ := findI_is hf
    have hin : i < n := by
      have := (List.getElem?_eq_some_iff.1 he).1
      rw [← HH.out.num] at this
      exact this
    have n1 : n ≤ 1000000 := by rw [HH.out.num]; exact hn
    obtain ⟨l, hl⟩ : ∃ l, ls[i]? = some l := ⟨_, List.getElem?_eq_getElem (by rw [HH.out.len]; exact (List.getElem?_eq_some_iff.1 he).1)⟩
    have H1 := HH.out.up hb
    have IC := Lib.hid (index_c gs A n c ls es i l w1 H1 (by omega) hl)
    have P : Hid (foundV ls (some i) = ptr l.g) := Lib.hid (by simp only [foundV, hl])
    have E : Hid (u = (0, es.eraseIdx i)) := Lib.hid (by rw [HU.out, hf])
    have HB := Lib.hid hb
    have c0 : w1.cell? ⟨gs, 0, none⟩ = some (.slice A n c) := H1.blk.cell 0
    have K1 := Lib.hid H1
    rw [P.out]
    clear FC HU hf he hl hb P H1
    generalize l.g = g at *
    unfold foundE ptr
    go_wp2_with fail
    refine IC.out.mono ?_
    rintro er w2 ⟨rfl, hb2⟩
    have K2 := Lib.hid (K1.out.up hb2)
    have B2 := Lib.hid (HB.out.trans (hb2.mono HB.out.size))
    have c0 : w2.cell? ⟨gs, 0, none⟩ = some (.slice A n c) := K2.out.blk.cell 0
    have DC := Lib.hid (delete_ptr A n c i _ w2 K2.out.row n1 hin)
    have f1 : IntKind.i64.wrap ((i : Int) + 1) = (i : Int) + 1 := IntWalk.i64_in _ (by omega)
    clear HB IC K1 hb2
    go_wp2_with fail
    refine DC.out.mono ?_
    rintro er w3 ⟨rfl, hrow, hk⟩
    have nr := CadAt.noRow K2.out
    have J3 : Hid (Blk w3 gs 60 #[.slice A n c]) := Lib.hid ((hk.block gs nr.1 (Blk.lt K2.out.blk)).trans K2.out.blk)
    have ST : (storeVar 58 ⟨gs, 0, none⟩ (.slice A (n - 1) c)).run Tryd.prog w3 = .ok () (w3.setRow gs #[.slice A (n - 1) c]) := Store.run_store_one J3.out (by simp) (by kernel_rfl) rfl _ rfl rfl
    have RW := Lib.hid (hrow.keep (w' := w3.setRow gs #[.slice A (n - 1) c]) fun k hk' _ => setRow_other _ _ _ _ (fun z => nr.1 (z ▸ hk')))
    have KP := Lib.hid hk
    have J4 := Lib.hid (setRow_heap w3 gs #[.slice A n c] #[.slice A (n - 1) c] _ _ J3.out)
    clear DC hrow hk nr f1 c0 J3
    go_wp2_with (refine Store.at_store 58 (.tmp 37) (.tmp 35) ?_ ?_; exact rfl; refine wpList_store_run rfl 58 (.tmp 37) (.tmp 35) rfl _ _ rfl rfl ST ?_)
    go_ret
    have old : ∀ k, k < w2.heap.size → k ≠ gs → ¬ own A k → (w3.setRow gs #[.slice A (n - 1) c]).heap[k]? = w2.heap[k]? := fun k hk k1 k2 => (setRow_other _ _ _ _ k1).trans (KP.out.block k k2 hk)
    refine ⟨by rw [E.out]; rfl, ⟨n - 1, ls.eraseIdx i, ?_, fun l hl => (List.eraseIdx_sublist ls i).subset hl⟩, ⟨KP.out.os.trans B2.out.os, KP.out.tape.trans B2.out.tape, KP.out.output.trans B2.out.output, ?_, fun k hf hk => ?_⟩⟩
    · rw [E.out]
      exact CadAt.drop K2.out i J4.out RW.out old
    · have := B2.out.size
      have := KP.out.size
      simp [World.setRow]
      omega
    · exact (old k (Nat.lt_of_lt_of_le hk B2.out.size) (fun z => hf (.inl z)) (fun z => hf (.inr (.inl z)))).trans (B2.out.block k hk)
end Go.Proofs.YtppnkkpjfjhfkaaDoor.Cad8

