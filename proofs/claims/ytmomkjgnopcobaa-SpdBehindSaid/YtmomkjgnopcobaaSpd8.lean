/- The code's List. -/
import Derived.Test.YtmomkjgnopcobaaSpd6
set_option linter.unusedVariables false
namespace Go.Proofs.Ytmomkjgnopcobaa.Spd8
open Go.RowKit Go.Proofs.Ytmomkjgnopcobaa.Mem Go.Proofs.Ytmomkjgnopcobaa.Blk Go.Proofs.Ytmomkjgnopcobaa.Ahead Go.Proofs.Ytmomkjgnopcobaa.PickD Go.Proofs.Ytmomkjgnopcobaa.PickR1 Go.Proofs.Ytmomkjgnopcobaa.PickR2 Go.Proofs.Ytmomkjgnopcobaa.Pick1 Go.Proofs.Ytmomkjgnopcobaa.Pick2 Go.Proofs.Ytmomkjgnopcobaa.Pick3 Go.Proofs.Ytmomkjgnopcobaa.Pick4 Go.Proofs.Ytmomkjgnopcobaa.Free Go.Proofs.Ytmomkjgnopcobaa.Steps Go.Proofs.Ytmomkjgnopcobaa.Regs Go.Proofs.Ytmomkjgnopcobaa.ArgT Go.Proofs.Ytmomkjgnopcobaa.MapK Go.Proofs.Ytmomkjgnopcobaa.Quest Go.Proofs.Ytmomkjgnopcobaa.RowN Go.Proofs.Ytmomkjgnopcobaa.SpdD Go.Proofs.Ytmomkjgnopcobaa.Spd1 Go.Proofs.Ytmomkjgnopcobaa.Spd3 Go.Proofs.Ytmomkjgnopcobaa.Spd4 Go.Proofs.Ytmomkjgnopcobaa.Spd6

/-- Rules that lie in a row of their own. -/
def ListAt (w : World) (A : Option Addr) (rs : List RuleR) : Prop := ∃ g X, A = some ⟨g, 0, none⟩ ∧ Blk w g 35 X ∧ X.toList = rs.flatMap RuleR.cells
theorem ListAt.below {w w' : World} {A : Option Addr} {rs : List RuleR} (h : ListAt w A rs) (hb : Below w.heap.size w w') : ListAt w' A rs := by
  obtain ⟨g, X, h1, h2, h3⟩ := h
  exact ⟨g, X, h1, h2.below hb h2.lt, h3⟩
/-- It lies in a block that is new. -/
theorem ListAt.keep {F : Nat → Prop} {w w' : World} {A : Option Addr} {rs : List RuleR} {S : Nat} (h : ListAt w A rs) (hS : ∀ k, own A k → S ≤ k) (hk : Keep (fun k => F k ∨ S ≤ k) w w') : ListAt w' A rs := by
  obtain ⟨g, X, h1, h2, h3⟩ := h
  exact ⟨g, X, h1, (hk.block g (.inr (hS g ⟨_, h1, rfl⟩)) h2.lt).trans h2, h3⟩
theorem ListAt.rows {w : World} {A : Option Addr} {rs : List RuleR} (h : ListAt w A rs) (ok : ∀ r ∈ rs, Ok r) : RuleRows w A rs.length rs := by
  obtain ⟨g, X, rfl, h2, h3⟩ := h
  refine ⟨rfl, fun _ => ⟨g, 0, rfl, h2.lt, fun k r hr => ⟨ok r (List.mem_of_getElem? hr), fun j v hj => ?_⟩⟩⟩
  rw [h2.cell, Nat.zero_add, ← Array.getElem?_toList, h3]
  rw [← flat_at rs k r hr, List.getElem?_take] at hj
  split at hj
  · rwa [List.getElem?_drop] at hj
  · cases hj
theorem run_store_agg {w : World} {g : Nat} {t : TypeId} {X : Array Value} (h : Blk w g t X) (o : Nat) (cs : Array Value) (hs : (Try.prog.info? t).map (·.size) = some cs.size) (hf : o + cs.size ≤ X.size) (h1 : ∀ v ∈ cs.toList, v.oneCell' = true) : (storeVar t ⟨g, o, none⟩ (.agg cs)).run Try.prog w = .ok () (w.setRow g (spl X o cs.toList)) := by
  have hst := run_store_spl (P := Try.prog) h o cs.toList (by simpa using hf) h1
  obtain ⟨i, hq, hz⟩ := Option.map_eq_some_iff.1 hs
  simp [storeVar, Value.cells, sizeOf, typeInfo, hq, hz, hst]
theorem wpList_store_run {ops : Array Oper} {rest : List Oper} {o : Oper} {a : Act} {w w1 : World} {Q : Exit → Act → World → Prop} (hw : Region.wanted o (yielded ops a.tmps) = true) (ty : TypeId) (x y : Operand) (ho : o.op = .store ty x y) (ad : Addr) (hx : a.eval x = .pointer (some ad)) (v : Value) (hy : a.eval y = v)
    (hr : (storeVar ty ad v).run Try.prog w = .ok () w1) (h : wpList Try.prog ops Q rest (a.put o.dst undef) w1) : wpList Try.prog ops Q (o :: rest) a w :=
  wpList_step fun K hK => by
    rw [if_pos hw]
    unfold Oper.wp execOp
    simp only [ho, hx, hy, Instr.storeAt, Instr.sureAddr, Sem.run_bind, Sem.run_pure, Result.andThen_ok, hr]
    exact hK _ _ h
theorem make_rules (n : Nat) (hn : n ≤ 1000) : ∃ Z : Array Value, Z.size = n * 16 ∧ ∀ W : World, (Instr.makeSlice 41 (.int .i64 (n : Int)) (.int .i64 (n : Int))).run Try.prog W = .ok (.slice (some ⟨W.heap.size, 0, none⟩) n n) (W.alloc (.cells Z 35)) := by
  obtain ⟨i, hi, hz, hsz, hby⟩ := InsR.info_rule
  refine ⟨madeCells InsR.zr.cells (n * 16), by simp [madeCells], fun W => ?_⟩
  have h := run_make (P := Try.prog) W 41 35 i InsR.zr Try.underlying41 hi hz .i64 .i64 (n : Int) (n : Int) (by omega) (by omega) (by rw [hby]; omega) (by omega)
  rw [hsz] at h
  simpa using h
theorem list_nil (w : World) : Calls Try.prog 11 #[.pointer none] w fun e w' => e = .returned (.slice none 0 0) ∧ w = w' := by
  go_enter Try.func11, Try.ntmps11
  go_wp2_with fail
  go_ret
  exact ⟨rfl, rfl⟩
set_option maxRecDepth 100000 in
set_option maxHeartbeats 4000000 in
theorem list_code (F : Nat → Prop) (gs : Nat) (rs : List RuleR) (w : World) (h : SpdAt F w gs rs) :
    Calls Try.prog 11 #[.pointer (some ⟨gs, 0, none⟩)] w fun e w' => (∃ A, e = .returned (.slice A rs.length rs.length) ∧ ListAt w' A rs ∧ ∀ k, own A k → w.heap.size ≤ k) ∧ Below w.heap.size w w' := by
  obtain ⟨gm, A, c, es, hp⟩ := Pol.of h
  obtain ⟨n, hn⟩ : ∃ n, n = rs.length := ⟨_, rfl⟩
  have few := h.few
  rw [← hn] at hp few ⊢
  obtain ⟨Z, hZ, mk⟩ := make_rules n (by omega)
  have B0 := Lib.hid ((Below.refl w.heap.size w).alloc (Nat.le_refl _) (.cells Z 35))
  have c0 := hp.blk.cell 0
  have c1 : (w.alloc (.cells Z 35)).cell? ⟨gs, 0, none⟩ = some (.slice A n c) := (hp.blk.alloc _).cell 0
  have HP := Lib.hid hp
  have XB : Hid (Blk (w.alloc (.cells Z 35)) w.heap.size 35 Z) := Lib.hid (Blk.new w _ _)
  have RN := Lib.hid hn
  have HZ := Lib.hid hZ
  have OK := Lib.hid h.ok
  clear hp h hn hZ
  go_enter Try.func11, Try.ntmps11
  go_wp2_with fail
  clear c0 c1 mk
  generalize w.alloc (.cells Z 35) = w1 at *
  go_loopw [19] (fun iv wr => ∃ i : Nat, iv = .int .i64 (i : Int) ∧ i ≤ n ∧ Hid (∃ X : Array Value, Blk wr w.heap.size 35 X ∧ X.size = n * 16 ∧ X.toList.take (i * 16) = (rs.take i).flatMap RuleR.cells) ∧ Hid (Below w.heap.size w wr)) (fun iv _ => n - (intOf iv).toNat)
  case atStart => exact ⟨0, rfl, by omega, Lib.hid ⟨Z, XB.out, HZ.out, by simp⟩, Lib.hid B0.out⟩
  case round =>
    clear XB HZ B0
    obtain ⟨i, rfl, hi, HX, HB⟩ := hrel
    have HQ := Lib.hid (HP.out.below HB.out)
    by_cases hlt : i < n
    · obtain ⟨b, X0, rfl, hX0, -, -⟩ := HQ.out.row.some (by omega)
      clear hX0
      have hr : rs[i]? = some (rs[i]'(by rw [← RN.out]; exact hlt)) := List.getElem?_eq_getElem _
      generalize rs[i]'(by rw [← RN.out]; exact hlt) = r at hr
      have HR := Lib.hid hr
      have RP : (loadVar 35 ⟨b, i * 16, none⟩).run Try.prog wr = .ok (.agg (RA r)) wr := Part.run_part wr b (i * 16) 35 r.cells _ Try.underlying35 rfl (by kernel_rfl) (row_rule HQ.out.row hr)
      have J := Blk.new wr 35 #[.int .i64 0, .string ⟨#[]⟩, .string ⟨#[]⟩, .string ⟨#[]⟩, .string ⟨#[]⟩, .int .i64 0, .int .i64 0, .int .i64 0, .int .i64 0, .int .i64 0, .bool false, .bool false, .int .i64 0, .bool false, .string ⟨#[]⟩, .string ⟨#[]⟩]
      have NK := Lib.hid (Part.setRow_blk J (RA r))
      have BX := Lib.hid (Part.setRow_bel ((Below.refl wr.heap.size wr).alloc (Nat.le_refl _) (.cells #[.int .i64 0, .string ⟨#[]⟩, .string ⟨#[]⟩, .string ⟨#[]⟩, .string ⟨#[]⟩, .int .i64 0, .int .i64 0, .int .i64 0, .int .i64 0, .int .i64 0, .bool false, .bool false, .int .i64 0, .bool false, .string ⟨#[]⟩, .string ⟨#[]⟩] 35)) (Nat.le_refl _) (RA r))
      have one := Lib.hid (all_ra r)
      have OC := Lib.hid (fun W => Spd2.rule_own r W (OK.out r (List.mem_of_getElem? hr)))
      clear hr
      go_wp2_with (first
        | (refine Store.at_load 35 (.tmp 22) ?_ ?_; exact rfl; refine Part.wpList_load_part rfl 35 (.tmp 22) rfl b (i * 16) [.int .i64 r.x0, .string r.x1, .string r.x2, .string r.x3, .string r.x4, .int .i64 r.x5, .int .i64 r.x6, .int .i64 r.x7, .int .i64 r.x8, .int .i64 r.x9, .bool r.x10, .bool r.x11, .int .i64 r.x12, .bool r.x13, .string r.x14, .string r.x15] rfl RP ?_)
        | (refine Store.at_store 35 (.tmp 5) (.tmp 23) ?_ ?_; exact rfl; refine wpList_store_row rfl 35 (.tmp 5) (.tmp 23) rfl wr.heap.size (RA r) rfl rfl 35 _ J (by kernel_rfl) rfl one.out ?_)
        | (refine Store.at_load 35 (.tmp 5) ?_ ?_; exact rfl; refine Loads.wpList_load_w rfl 35 (.tmp 5) rfl wr.heap.size rfl 35 (RA r) (0, 0) _ (NK.out) Try.underlying35 rfl (by kernel_rfl) ?_))
      refine (OC.out _).mono ?_
      rintro e w5 ⟨rfl, hb⟩
      have BN := Lib.hid (BX.out.trans (hb.mono BX.out.size))
      clear J RP NK BX OC hb
      obtain ⟨X, hX, hXs, hXt⟩ := HX.out
      have hX5 := hX.below BN.out hX.lt
      have RS := run_store_agg hX5 (i * 16) (RA r) (by kernel_rfl) (by rw [hXs]; show i * 16 + 16 ≤ n * 16; omega) (one_ra r)
      have HN : Hid (∃ Y : Array Value, Blk (w5.setRow w.heap.size (spl X (i * 16) (RA r).toList)) w.heap.size 35 Y ∧ Y.size = n * 16 ∧ Y.toList.take ((i + 1) * 16) = (rs.take (i + 1)).flatMap RuleR.cells) := Lib.hid (by
        refine ⟨_, setRow_heap _ _ _ _ _ _ hX5, (spl_size (by rw [hXs]; show i * 16 + 16 ≤ n * 16; omega)).trans hXs, ?_⟩
        have l1 : (X.toList.take (i * 16)).length = i * 16 := by simp [hXs]; omega
        unfold spl
        rw [List.take_add_one, HR.out, List.flatMap_append, ← hXt]
        have : ((X.toList.take (i * 16)) ++ r.cells).length = (i + 1) * 16 := by rw [List.length_append, l1, len_ra]; omega
        simp only [Option.toList_some, List.flatMap_cons, List.flatMap_nil, List.append_nil]
        exact List.take_left' this)
      have BM := Lib.hid (Com.setRow_bel (HB.out.trans (BN.out.mono HB.out.size)) (Nat.le_refl _) (spl X (i * 16) (RA r).toList))
      clear hX hXs hXt HX HB HQ BN
      go_wp2_with (refine Store.at_store 35 (.tmp 28) (.tmp 27) ?_ ?_; exact rfl; refine wpList_store_run rfl 35 (.tmp 28) (.tmp 27) rfl ⟨w.heap.size, i * 16, none⟩ rfl _ rfl RS ?_)
      go_roundw
      case rel => exact ⟨i + 1, by go_num, by omega, HN, BM⟩
      case measure => simp [intOf]; omega
    · have e : i = n := by omega
      subst e
      obtain ⟨X, hX, hXs, hXt⟩ := HX.out
      have L : Hid (ListAt wr (some ⟨w.heap.size, 0, none⟩) rs) := Lib.hid ⟨_, X, rfl, hX, by
        rw [List.take_of_length_le (by simp [hXs]), List.take_of_length_le (by rw [RN.out]; exact Nat.le_refl _)] at hXt
        exact hXt⟩
      clear hX hXs hXt HX
      go_wp2_with fail
      go_ret
      exact ⟨⟨_, rfl, L.out, fun k hk => by obtain ⟨a, ha, hb⟩ := hk; cases ha; simp at hb; omega⟩, HB.out⟩
end Go.Proofs.Ytmomkjgnopcobaa.Spd8
