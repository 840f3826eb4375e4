/- The document's Look. -/
import Derived.Test.YtppnkkpjfjhfkaaDoorM07
import Derived.Test.YtppnkkpjfjhfkaaDoorM42
import Derived.Test.YtppnkkpjfjhfkaaDoorM09
import Derived.LoopTactic
set_option linter.unusedVariables false
namespace Go.Proofs.YtppnkkpjfjhfkaaDoor.SadR6
open Go.RowKit Go.Proofs.YtppnkkpjfjhfkaaDoor.Mem Go.Proofs.YtppnkkpjfjhfkaaDoor.Blk Go.Proofs.YtppnkkpjfjhfkaaDoor.ArgT Go.Proofs.YtppnkkpjfjhfkaaDoor.Longs Go.Proofs.YtppnkkpjfjhfkaaDoor.WinD Go.Proofs.YtppnkkpjfjhfkaaDoor.WinR Go.Proofs.YtppnkkpjfjhfkaaDoor.WinA Go.Proofs.YtppnkkpjfjhfkaaDoor.WinI Go.Proofs.YtppnkkpjfjhfkaaDoor.SadM Go.Proofs.YtppnkkpjfjhfkaaDoor.SadR1 Go.Proofs.YtppnkkpjfjhfkaaDoor.SadR2 Go.Proofs.YtppnkkpjfjhfkaaDoor.SadR3

def aggB : TypeDesc → Bool
  | .struct _ => true
  | .array _ _ => true
  | _ => false
theorem results_triple {fn : Func} {p q s : Tmp} {ty : TypeId} (h : fn.results = #[.cell p ty, .tmp q, .tmp s]) (tmps : Array Value) (w : World) (g : Nat) (t : TypeId) (cs : Array Value) (fr : Nat × Nat) (d : TypeDesc) (v u : Value)
    (hp : tmps.getD p undef = .pointer (some ⟨g, 0, none⟩)) (hq : tmps.getD q undef = v) (hs : tmps.getD s undef = u) (hg : w.heap[g]? = some (.cells cs t fr))
    (hu : Tryd.prog.underlying ty = some d) (hd : aggB d = true) (hi : (Tryd.prog.info? ty).map (·.size) = some cs.size) :
    (results fn tmps).run Tryd.prog w = .ok (.tuple #[.agg cs, v, u]) w := by
  have hp' : tmps[p]?.getD undef = .pointer (some ⟨g, 0, none⟩) := by simpa using hp
  have hq' : tmps[q]?.getD undef = v := by simpa using hq
  have hs' : tmps[s]?.getD undef = u := by simpa using hs
  have e := run_loadVar_row (P := Tryd.prog) w g t ty cs fr d hg hu (by cases d <;> first | rfl | cases hd) hi
  simp [results, h, hp', hq', hs', asAddr, e]

theorem inf_lt (S : Nat) (wd : Bool) (l : List Nat) (low : Int) : (inf S wd l low).1 < Q64 := by
  unfold inf Q64
  split
  · simp
  split
  · simp; omega
  split
  · simp
  · simp; omega
def zeroL : LifeR := ⟨0, ⟨#[]⟩, ⟨#[]⟩, ⟨#[]⟩, false, 0, 0, false, 0, 0, 0, 0⟩
def Zz : Array Value := #[.int .i64 0, .string ⟨#[]⟩, .string ⟨#[]⟩, .string ⟨#[]⟩, .bool false, .int .i64 0, .int .i64 0, .bool false, .int .i64 0, .int .i64 0, .int .i64 0, .int .i64 0]
theorem oneL (r : LifeR) : r.cells.toArray.all (·.oneCell') = true := by simp [LifeR.cells, Value.oneCell']
def lookS (now spi low : Int) (es : List Ent) : LifeR × Nat × Nat := match findI spi false es with
  | none => (zeroL, 0, 6)
  | some i => match es[i]? with
    | none => (zeroL, 0, 6)
    | some e => if ageN e now = 2 then (zeroL, 0, 171) else
      let f := inf e.life.x5.toNat e.life.x4 e.acc low
      let c := if f.2 = 0 then chk e.life.x5.toNat e.life.x4 e.acc f.1 else f.2
      if c = 0 then (e.life, f.1, 0) else (zeroL, 0, c)

set_option maxRecDepth 100000 in
set_option maxHeartbeats 2000000 in
theorem look_ref (base gs : Nat) (vl : Value) (ls : List Spot) (es : List Ent) (now spi low : Int) (w : World) (h : SadAt w base gs vl ls es) (hn : es.length ≤ 1048576) (hc : NowOk now es) :
    Calls Tryd.prog 28 #[.pointer (some ⟨gs, 0, none⟩), .int .i64 now, .int .i64 spi, .int .i64 low] w fun er w' => er = .returned (.tuple #[.agg (lookS now spi low es).1.cells.toArray, .int .u64 ((lookS now spi low es).2.1 : Int), .int .i64 ((lookS now spi low es).2.2 : Int)]) ∧ Below w.heap.size w w' := by
  have J0 := Lib.hid (Blk.new w 34 Zz)
  have B0 := Lib.hid ((Below.refl w.heap.size w).alloc (Nat.le_refl _) (.cells Zz 34))
  have HA : SadAt (w.alloc (.cells Zz 34)) base gs vl ls es := h.up B0.out
  have C := Lib.hid (find_ref base gs vl ls es spi false _ HA hn)
  have H := Lib.hid HA
  obtain ⟨r, hr0⟩ : ∃ r, r = lookS now spi low es := ⟨_, rfl⟩
  rw [← hr0]
  cases hf : findI spi false es with
  | none =>
    have E : Hid (r = (zeroL, 0, 6)) := Lib.hid (by rw [hr0, lookS, hf])
    rw [hf] at C
    clear h hc hr0 hf HA
    go_enter Tryd.func28, Tryd.ntmps28
    go_wp2_with fail
    refine C.out.mono ?_
    rintro er w1 ⟨rfl, hb⟩
    have J1 : Hid (Blk w1 w.heap.size 34 Zz) := Lib.hid (Blk.below J0.out hb (Blk.lt J0.out))
    have B1 := Lib.hid (B0.out.trans (hb.mono B0.out.size))
    clear hb C J0 B0
    simp only [ptrAt]
    go_wp2_with (refine wpList_store_row rfl 34 (.tmp 8) (.tmp 19) rfl w.heap.size Zz rfl rfl 34 _ J1.out (by kernel_rfl) (by kernel_rfl) (by kernel_rfl) ?_)
    exact bodyPost_ret (results_triple rfl _ _ w.heap.size 34 Zz (0, 0) _ _ _ rfl rfl rfl (setRow_heap _ _ _ _ _ _ J1.out) Tryd.underlying34 rfl (by kernel_rfl)) rfl ⟨by rw [E.out]; rfl, Part.setRow_bel B1.out (Nat.le_refl _) _⟩
  | some i =>
    obtain ⟨l, e, hl, he, hm, hp⟩ := found HA hf
    have E : Hid (r = if ageN e now = 2 then (zeroL, 0, 171) else if (if (inf e.life.x5.toNat e.life.x4 e.acc low).2 = 0 then chk e.life.x5.toNat e.life.x4 e.acc (inf e.life.x5.toNat e.life.x4 e.acc low).1 else (inf e.life.x5.toNat e.life.x4 e.acc low).2) = 0 then (e.life, (inf e.life.x5.toNat e.life.x4 e.acc low).1, 0) else (zeroL, 0, (if (inf e.life.x5.toNat e.life.x4 e.acc low).2 = 0 then chk e.life.x5.toNat e.life.x4 e.acc (inf e.life.x5.toNat e.life.x4 e.acc low).1 else (inf e.life.x5.toNat e.life.x4 e.acc low).2))) := Lib.hid (by rw [hr0, lookS, hf]; simp only [he])
    rw [hf, hp] at C
    have D := Lib.hid (And.intro hl he)
    have CB := Lib.hid (hc e hm)
    clear h hc hr0 hf hl he hm hp HA
    go_enter Tryd.func28, Tryd.ntmps28
    go_wp2_with fail
    refine C.out.mono ?_
    rintro er w1 ⟨rfl, hb⟩
    have H1 := Lib.hid (H.out.up hb)
    have J1 : Hid (Blk w1 w.heap.size 34 Zz) := Lib.hid (Blk.below J0.out hb (Blk.lt J0.out))
    have B1 := Lib.hid (B0.out.trans (hb.mono B0.out.size))
    have C2 := Lib.hid (age1_ref e l.g l.gw now w1 (H1.out.ent i l e D.out.1 D.out.2).1 CB.out)
    clear hb C J0 B0 H
    go_wp2_with fail
    refine C2.out.mono ?_
    rintro er w2 ⟨rfl, hb⟩
    have H2 := Lib.hid (H1.out.up hb)
    have J2 : Hid (Blk w2 w.heap.size 34 Zz) := Lib.hid (Blk.below J1.out hb (Blk.lt J1.out))
    have B2 := Lib.hid (B1.out.trans (hb.mono B1.out.size))
    clear hb C2 J1 B1 H1
    by_cases a2 : ageN e now = 2
    · have E2 : Hid (r = (zeroL, 0, 171)) := Lib.hid (E.out.trans (if_pos a2))
      rw [a2]
      clear E
      go_wp2_with (refine wpList_store_row rfl 34 (.tmp 8) (.tmp 24) rfl w.heap.size Zz rfl rfl 34 _ J2.out (by kernel_rfl) (by kernel_rfl) (by kernel_rfl) ?_)
      exact bodyPost_ret (results_triple rfl _ _ w.heap.size 34 Zz (0, 0) _ _ _ rfl rfl rfl (setRow_heap _ _ _ _ _ _ J2.out) Tryd.underlying34 rfl (by kernel_rfl)) rfl ⟨by rw [E2.out]; rfl, Part.setRow_bel B2.out (Nat.le_refl _) _⟩
    · have E2 := Lib.hid (E.out.trans (if_neg a2))
      have g2 : (((ageN e now : Nat) : Int) == 2) = false := by rw [beq_eq_false_iff_ne]; omega
      generalize ageN e now = ag at *
      obtain ⟨hE, hW, z1, z2, hL⟩ := H2.out.ent i l e D.out.1 D.out.2
      have c15 : w2.cell? ⟨l.g, 15, none⟩ = some (.pointer (some ⟨l.gw, 0, none⟩)) := hE.cell 15
      have KE := Lib.hid hE
      have KW := Lib.hid hW
      have C3 := Lib.hid (infer_ref base l.gw l.v e.life.x5.toNat e.life.x4 e.acc low w2 hW)
      have C4 := Lib.hid (fun m hm => check_ref base l.gw l.v e.life.x5.toNat e.life.x4 e.acc m w2 hW hm)
      have FL : Hid ((inf e.life.x5.toNat e.life.x4 e.acc low).1 < Q64) := Lib.hid (inf_lt _ _ _ _)
      clear hE hW z1 z2 hL E a2
      generalize inf e.life.x5.toNat e.life.x4 e.acc low = f at *
      obtain ⟨m, c⟩ := f
      go_wp2_with fail
      refine C3.out.mono ?_
      rintro er w3 ⟨rfl, rfl⟩
      clear C3
      by_cases q : c = 0
      · subst q
        have C5 := Lib.hid (C4.out m FL.out)
        have E3 : Hid (r = if chk e.life.x5.toNat e.life.x4 e.acc m = 0 then (e.life, m, 0) else (zeroL, 0, chk e.life.x5.toNat e.life.x4 e.acc m)) := Lib.hid E2.out
        clear C4 E2
        go_wp2_with fail
        refine C5.out.mono ?_
        rintro er w4 ⟨rfl, hb⟩
        have J4 : Hid (Blk w4 w.heap.size 34 Zz) := Lib.hid (Blk.below J2.out hb (Blk.lt J2.out))
        have B4 := Lib.hid (B2.out.trans (hb.mono B2.out.size))
        have K4 : Hid (Blk w4 l.g 68 (ecells e l.gw)) := Lib.hid (Blk.below KE.out hb (Blk.lt KE.out))
        clear hb C5 J2 B2
        generalize chk e.life.x5.toNat e.life.x4 e.acc m = c2 at *
        by_cases q2 : c2 = 0
        · subst q2
          have E4 : Hid (r = (e.life, m, 0)) := Lib.hid E3.out
          have LD : Hid ((loadVar 34 ⟨l.g, 0, none⟩).run Tryd.prog w4 = .ok (.agg e.life.cells.toArray) w4) := Lib.hid (Part.run_part w4 l.g 0 34 e.life.cells _ Tryd.underlying34 rfl (by kernel_rfl) (fun j v hj => by
            rw [Nat.zero_add, K4.out.cell j]
            have hlt : j < 12 := (List.getElem?_eq_some_iff.1 hj).1
            match j, hlt with
            | 0, _ => exact hj
            | 1, _ => exact hj
            | 2, _ => exact hj
            | 3, _ => exact hj
            | 4, _ => exact hj
            | 5, _ => exact hj
            | 6, _ => exact hj
            | 7, _ => exact hj
            | 8, _ => exact hj
            | 9, _ => exact hj
            | 10, _ => exact hj
            | 11, _ => exact hj))
          clear E3 KE
          go_wp2_with (first | (refine Part.wpList_load_part (by kernel_rfl) 34 (.tmp 48) rfl l.g 0 e.life.cells rfl LD.out ?_) | (refine wpList_store_row rfl 34 (.tmp 8) (.tmp 49) rfl w.heap.size e.life.cells.toArray rfl rfl 34 _ J4.out (by kernel_rfl) (by kernel_rfl) (oneL e.life) ?_))
          exact bodyPost_ret (results_triple rfl _ _ w.heap.size 34 e.life.cells.toArray (0, 0) _ _ _ rfl rfl rfl (setRow_heap _ _ _ _ _ _ J4.out) Tryd.underlying34 rfl (by kernel_rfl)) rfl ⟨by rw [E4.out]; rfl, Part.setRow_bel B4.out (Nat.le_refl _) _⟩
        · have g3 : ((c2 : Int) != 0) = true := by rw [bne_iff_ne]; omega
          have E4 : Hid (r = (zeroL, 0, c2)) := Lib.hid (by rw [E3.out, if_neg q2])
          clear E3
          go_wp2_with (refine wpList_store_row rfl 34 (.tmp 8) (.tmp 44) rfl w.heap.size Zz rfl rfl 34 _ J4.out (by kernel_rfl) (by kernel_rfl) (by kernel_rfl) ?_)
          exact bodyPost_ret (results_triple rfl _ _ w.heap.size 34 Zz (0, 0) _ _ _ rfl rfl rfl (setRow_heap _ _ _ _ _ _ J4.out) Tryd.underlying34 rfl (by kernel_rfl)) rfl ⟨by rw [E4.out]; rfl, Part.setRow_bel B4.out (Nat.le_refl _) _⟩
      · have g3 : ((c : Int) == 0) = false := by rw [beq_eq_false_iff_ne]; omega
        have g4 : ((c : Int) != 0) = true := by rw [bne_iff_ne]; omega
        have E4 : Hid (r = (zeroL, 0, c)) := Lib.hid (by rw [E2.out]; simp [q])
        clear E2 C4
        go_wp2_with (refine wpList_store_row rfl 34 (.tmp 8) (.tmp 44) rfl w.heap.size Zz rfl rfl 34 _ J2.out (by kernel_rfl) (by kernel_rfl) (by kernel_rfl) ?_)
        exact bodyPost_ret (results_triple rfl _ _ w.heap.size 34 Zz (0, 0) _ _ _ rfl rfl rfl (setRow_heap _ _ _ _ _ _ J2.out) Tryd.underlying34 rfl (by kernel_rfl)) rfl ⟨by rw [E4.out]; rfl, Part.setRow_bel B2.out (Nat.le_refl _) _⟩
end Go.Proofs.YtppnkkpjfjhfkaaDoor.SadR6

/- For the document's List: a row of lives that the call owns, a life put behind it, a life read whole. -/
set_option linter.unusedVariables false
namespace Go.Proofs.YtppnkkpjfjhfkaaDoor.SadR9
open Go.RowKit Go.Proofs.YtppnkkpjfjhfkaaDoor.Sums Go.Proofs.YtppnkkpjfjhfkaaDoor.Mem Go.Proofs.YtppnkkpjfjhfkaaDoor.Blk Go.Proofs.YtppnkkpjfjhfkaaDoor.ArgT Go.Proofs.YtppnkkpjfjhfkaaDoor.Longs Go.Proofs.YtppnkkpjfjhfkaaDoor.WinR Go.Proofs.YtppnkkpjfjhfkaaDoor.SadM Go.Proofs.YtppnkkpjfjhfkaaDoor.SadR2 Go.Proofs.YtppnkkpjfjhfkaaDoor.SadR6 Go.Proofs.YtppnkkpjfjhfkaaDoor.SadW

theorem life_info : (Tryd.prog.info? 34).map (fun i => (i.zero, i.size, i.bytes)) = some (some (.agg Zz), 12, 120) := by kernel_rfl
/-- A row of lives that the call owns. -/
def LOwn (w : World) (base : Nat) (v : Value) (rs : List LifeR) : Prop := w.ownsRow base 34 12 v rs.length (rs.flatMap LifeR.cells)
theorem wpList_append_life {w : World} {ops : Array Oper} {rest : List Oper} {o : Oper} {a : Act} {Q : Exit → Act → World → Prop} (hgd : o.guard = none) (s x : Operand)
    (ho : o.op = .call { callee := .builtin .append, args := #[s, x], argTypes := #[39, 39] })
    (base : Nat) (v : Value) (l : List LifeR) (hs : a.eval s = v) (h : LOwn w base v l) (g c : Nat) (k : LifeR) (hx : a.eval x = .slice (some ⟨g, 0, none⟩) 1 c)
    (hk : ∀ j u, k.cells[j]? = some u → w.cell? ⟨g, j, none⟩ = some u) (hsm : l.length + 1 ≤ 1048576) (hbase : base ≤ w.heap.size)
    (hK : ∀ g' cap w', LOwn w' base (.slice (some ⟨g', 0, none⟩) (l.length + 1) cap) (l ++ [k]) → w.grownBy w' v.ownBlock → (v.ownBlock = some g' ∨ g' = w.heap.size) → g' < w'.heap.size → wpList Tryd.prog ops Q rest (a.put o.dst (.slice (some ⟨g', 0, none⟩) (l.length + 1) cap)) w') : wpList Tryd.prog ops Q (o :: rest) a w := by
  refine wpList_plain hgd fun K' hK' => ?_
  obtain ⟨i, hi, hz, hsz, hby⟩ := info_parts life_info
  refine Go.wp_append_lies w s x 39 ho base 34 i (.agg Zz) 12 120 Tryd.underlying39 hi hz hsz hby rfl (by decide) v l.length (l.flatMap LifeR.cells) hs h ⟨g, 0, none⟩ 1 c k.cells hx rfl
    (fun j u hu => ?_) (by simp [LifeR.cells, Value.oneCell']) (by decide) (by simp only [maxLen]; omega) (by omega) hbase _ rfl fun g' cap w' ow gr hat hnew => ?_
  · rw [add_plain, Nat.zero_add]
    exact hk j u hu
  · refine hK' _ _ (hK g' cap w' ?_ gr hat hnew)
    unfold LOwn
    rw [List.length_append, List.flatMap_append, show [k].flatMap LifeR.cells = k.cells by simp]
    exact ow
theorem fold_life (r : LifeR) : List.foldl (fun (cs : Array Value) (x : Value × Nat) => cs.setIfInBounds x.snd x.fst) (#[.int .i64 0, .string ⟨#[]⟩, .string ⟨#[]⟩, .string ⟨#[]⟩, .bool false, .int .i64 0, .int .i64 0, .bool false, .int .i64 0, .int .i64 0, .int .i64 0, .int .i64 0] : Array Value) r.cells.zipIdx = r.cells.toArray := by
  simp [LifeR.cells]
theorem cells_at {r : LifeR} {j : Nat} {u : Value} (h : r.cells[j]? = some u) : (r.cells.toArray)[j]? = some u := by
  rw [List.getElem?_toArray]
  exact h
theorem load_life {W : World} {g gw : Nat} {e : Ent} (h : Blk W g 68 (ecells e gw)) : (loadVar 34 ⟨g, 0, none⟩).run Tryd.prog W = .ok (.agg e.life.cells.toArray) W :=
  Part.run_part W g 0 34 e.life.cells _ Tryd.underlying34 rfl (by kernel_rfl) fun j v hj => by
    rw [Nat.zero_add, h.cell j]
    have hlt : j < 12 := (List.getElem?_eq_some_iff.1 hj).1
    match j, hlt with
    | 0, _ => exact hj
    | 1, _ => exact hj
    | 2, _ => exact hj
    | 3, _ => exact hj
    | 4, _ => exact hj
    | 5, _ => exact hj
    | 6, _ => exact hj
    | 7, _ => exact hj
    | 8, _ => exact hj
    | 9, _ => exact hj
    | 10, _ => exact hj
    | 11, _ => exact hj

end Go.Proofs.YtppnkkpjfjhfkaaDoor.SadR9

