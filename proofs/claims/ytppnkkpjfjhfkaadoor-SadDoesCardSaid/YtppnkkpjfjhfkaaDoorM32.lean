/- The code's Send. -/
import Derived.Test.YtppnkkpjfjhfkaaDoorM30
import Derived.Test.YtppnkkpjfjhfkaaDoorM31
set_option linter.unusedVariables false
set_option maxRecDepth 100000
namespace Go.Proofs.YtppnkkpjfjhfkaaDoor.Cad6
open Go.RowKit Go.Proofs.YtppnkkpjfjhfkaaDoor.Mem Go.Proofs.YtppnkkpjfjhfkaaDoor.Blk Go.Proofs.YtppnkkpjfjhfkaaDoor.Free Go.Proofs.YtppnkkpjfjhfkaaDoor.Steps Go.Proofs.YtppnkkpjfjhfkaaDoor.ArgT Go.Proofs.YtppnkkpjfjhfkaaDoor.Longs Go.Proofs.YtppnkkpjfjhfkaaDoor.WinA Go.Proofs.YtppnkkpjfjhfkaaDoor.SadM Go.Proofs.YtppnkkpjfjhfkaaDoor.SadR1 Go.Proofs.YtppnkkpjfjhfkaaDoor.SadR2 Go.Proofs.YtppnkkpjfjhfkaaDoor.SadR3 Go.Proofs.YtppnkkpjfjhfkaaDoor.SadR5 Go.Proofs.YtppnkkpjfjhfkaaDoor.SadR6 Go.Proofs.YtppnkkpjfjhfkaaDoor.SadR7 Go.Proofs.YtppnkkpjfjhfkaaDoor.RowN Go.Proofs.YtppnkkpjfjhfkaaDoor.CadM Go.Proofs.YtppnkkpjfjhfkaaDoor.Cad0 Go.Proofs.YtppnkkpjfjhfkaaDoor.Cad1 Go.Proofs.YtppnkkpjfjhfkaaDoor.Cad2 Go.Proofs.YtppnkkpjfjhfkaaDoor.Cad4 Go.Proofs.YtppnkkpjfjhfkaaDoor.Cad5 Go.Proofs.YtppnkkpjfjhfkaaDoor.Errno

theorem send_bad {now spi n : Int} {es : List Ent} {k : Nat} (h : useI now spi true n es = (none, k)) : sendS now spi n es = (saC zeroL, 0, k, es) := by
  unfold useI at h
  unfold sendS
  by_cases q : n < 0
  · rw [if_pos q] at h ⊢
    cases h; rfl
  · rw [if_neg q] at h ⊢
    cases hf : findI spi true es with
    | none => rw [hf] at h; cases h; rfl
    | some j =>
      obtain ⟨e, he, hh⟩ := findI_is hf
      rw [hf] at h
      simp only [he] at h ⊢
      by_cases a : ageN e now = 2
      · rw [if_pos a] at h ⊢; cases h; rfl
      · rw [if_neg a] at h; cases h
theorem send_good {now spi n : Int} {es : List Ent} {i k : Nat} {e : Ent} (h : useI now spi true n es = (some i, k)) (he : es[i]? = some e) : sendS now spi n es = if e.last = 18446744073709551615 ∨ (e.life.x4 = false ∧ e.last = 4294967295) then (saC zeroL, 0, 121, es) else (saC e.life, e.last + 1, 0, es.set i (sent e n)) := by
  obtain ⟨q, hf, e', he', _, a⟩ := use_some h
  obtain rfl := Option.some.inj (he.symm.trans he')
  unfold sendS
  rw [if_neg q, hf]
  simp only [he, if_neg a]
/-- The result's cell is new, the rest is as it was. -/
theorem CadAt.zrow {w w2 : World} {gs : Nat} {A : Option Addr} {n c : Nat} {ls : List CSpot} {es : List Ent} (h : CadAt w gs A n c ls es) (hb : Below w.heap.size w w2) (cs : Array Value) : CadAt (w2.setRow w.heap.size cs) gs A n c ls es ∧ ∀ F, Keep F w (w2.setRow w.heap.size cs) :=
  ⟨h.up (Com.setRow_bel hb (Nat.le_refl _) cs), fun F => Keep.of (Com.setRow_bel hb (Nat.le_refl _) cs)⟩
theorem _root_.Go.Proofs.YtppnkkpjfjhfkaaDoor.WinA.But.trans {g : Nat} {r : Option Nat} {w1 w2 w3 : World} (h : But g r w1 w2) (k : But g r w2 w3) : But g r w1 w3 :=
  ⟨k.os.trans h.os, k.tape.trans h.tape, k.output.trans h.output, Nat.le_trans h.size k.size, fun i hi a b => (k.block i (Nat.lt_of_lt_of_le hi h.size) a b).trans (h.block i hi a b)⟩
theorem OneSet.bel {g0 : Nat} {X : Array Value} {w w' : World} (h : Below w.heap.size w w') (hg : g0 < w.heap.size) : OneSet g0 X w w' := ⟨h.os, h.tape, h.output, h.size, fun k hk _ => h.block k hk, .inl (h.block g0 hg)⟩
theorem send_nil (now spi n : Int) (w : World) (hg : Handle w) : Calls Tryd.prog 17 #[.pointer none, .int .i64 now, .int .i64 spi, .int .i64 n] w fun er w' => er = .returned (.tuple #[.agg (saC zeroL).toArray, .int .u64 0, .int .i64 3]) ∧ Below w.heap.size w w' := by
  have J0 := Lib.hid (Blk.new w 32 Zs)
  have B0 := Lib.hid ((Below.refl w.heap.size w).alloc (Nat.le_refl _) (.cells Zs 32))
  have ER := Lib.hid (errno_fault spi true ((3 : Nat) : Int) (w.alloc (.cells Zs 32)) (hg.keep B0.out))
  go_enter Tryd.func17, Tryd.ntmps17
  go_wp2_with fail
  refine (usable_nil now spi true n (w.alloc (.cells Zs 32))).mono ?_
  rintro er w1 ⟨rfl, rfl⟩
  unfold failV
  go_wp2_with fail
  refine ER.out.mono ?_
  rintro er w2 ⟨rfl, hb⟩
  have J1 := Lib.hid (Blk.below J0.out hb (Blk.lt J0.out))
  have B1 := Lib.hid (B0.out.trans (hb.mono B0.out.size))
  clear hb ER J0 B0
  go_wp2_with (refine wpList_store_row rfl 32 (.tmp 8) (.tmp 23) rfl w.heap.size Zs rfl rfl 32 _ J1.out (by kernel_rfl) (by kernel_rfl) (by kernel_rfl) ?_)
  exact bodyPost_ret (results_triple rfl _ _ w.heap.size 32 Zs (0, 0) _ _ _ rfl rfl rfl (setRow_heap _ _ _ _ _ _ J1.out) Tryd.underlying32 rfl (by kernel_rfl)) rfl ⟨rfl, Com.setRow_bel B1.out (Nat.le_refl _) _⟩

set_option maxHeartbeats 4000000 in
theorem send_c (gs : Nat) (A : Option Addr) (m c : Nat) (ls : List CSpot) (es : List Ent) (now spi n : Int) (w : World) (h : CadAt w gs A m c ls es) (hg : Handle w) (hn : es.length ≤ 1048576) (hc : NowOk now es) (hr : RoomOk n es) :
    Calls Tryd.prog 17 #[.pointer (some ⟨gs, 0, none⟩), .int .i64 now, .int .i64 spi, .int .i64 n] w fun er w' => er = .returned (.tuple #[.agg (sendS now spi n es).1.toArray, .int .u64 ((sendS now spi n es).2.1 : Int), .int .i64 ((sendS now spi n es).2.2.1 : Int)]) ∧ CadAt w' gs A m c ls (sendS now spi n es).2.2.2 ∧ Keep (fun k => ¬ Mine gs A ls k) w w' := by
  have J0 := Lib.hid (Blk.new w 32 Zs)
  have B0 := Lib.hid ((Below.refl w.heap.size w).alloc (Nat.le_refl _) (.cells Zs 32))
  have UC := Lib.hid (usable_c gs A m c ls es now spi true n (w.alloc (.cells Zs 32)) (h.up B0.out) hn hc)
  have HH := Lib.hid h
  have HG := Lib.hid hg
  have HR := Lib.hid hr
  obtain ⟨r, hr0⟩ : ∃ r, r = sendS now spi n es := ⟨_, rfl⟩
  rw [← hr0]
  have HR0 := Lib.hid hr0
  obtain ⟨u, hu⟩ : ∃ u, u = useI now spi true n es := ⟨_, rfl⟩
  rw [← hu] at UC
  have HU := Lib.hid hu.symm
  clear h hg hc hr hr0 hu
  go_enter Tryd.func17, Tryd.ntmps17
  go_wp2_with fail
  refine UC.out.mono ?_
  rintro er w2 ⟨rfl, hb⟩
  have J2 := Lib.hid (Blk.below J0.out hb (Blk.lt J0.out))
  have B2 := Lib.hid (B0.out.trans (hb.mono B0.out.size))
  clear hb UC J0 B0
  obtain ⟨ui, k⟩ := u
  cases ui with
  | none =>
    have ER := Lib.hid (errno_fault spi true ((k : Nat) : Int) w2 (HG.out.keep B2.out))
    have E : Hid (r = (saC zeroL, 0, k, es)) := Lib.hid (HR0.out.trans (send_bad HU.out))
    unfold foundV useE failV
    clear HR0 HU HG HR
    go_wp2_with fail
    refine ER.out.mono ?_
    rintro er w3 ⟨rfl, hb⟩
    have J3 := Lib.hid (Blk.below J2.out hb (Blk.lt J2.out))
    have B3 := Lib.hid (B2.out.trans (hb.mono B2.out.size))
    clear hb ER J2 B2
    go_wp2_with (refine wpList_store_row rfl 32 (.tmp 8) (.tmp 23) rfl w.heap.size Zs rfl rfl 32 _ J3.out (by kernel_rfl) (by kernel_rfl) (by kernel_rfl) ?_)
    exact bodyPost_ret (results_triple rfl _ _ w.heap.size 32 Zs (0, 0) _ _ _ rfl rfl rfl (setRow_heap _ _ _ _ _ _ J3.out) Tryd.underlying32 rfl (by kernel_rfl)) rfl ⟨by rw [E.out]; rfl, by rw [E.out]; exact (CadAt.zrow HH.out B3.out Zs).1, (CadAt.zrow HH.out B3.out Zs).2 _⟩
  | some i =>
    obtain ⟨n0, hf, e, he, e7, a2⟩ := use_some HU.out
    obtain ⟨l, hl⟩ : ∃ l, ls[i]? = some l := ⟨_, List.getElem?_eq_getElem (by rw [HH.out.len]; exact (List.getElem?_eq_some_iff.1 he).1)⟩
    have D := Lib.hid (And.intro hl he)
    have P : Hid (foundV ls (some i) = ptr l.g) := Lib.hid (by simp only [foundV, hl])
    have E3 : Hid (r = if e.last = 18446744073709551615 ∨ (e.life.x4 = false ∧ e.last = 4294967295) then (saC zeroL, 0, 121, es) else (saC e.life, e.last + 1, 0, es.set i (sent e n))) := Lib.hid (HR0.out.trans (send_good HU.out he))
    have RM := Lib.hid (HR.out e (List.mem_of_getElem? he))
    have hA := (HH.out.up B2.out).ent i l e hl he
    have FT := Lib.hid hA.2.2.2
    have KE := Lib.hid hA.1
    have N0 : Hid (0 ≤ n) := Lib.hid (by omega)
    have GL : Hid (l.g < w.heap.size) := Lib.hid (HH.out.lts (List.mem_of_getElem? hl)).1
    have c14 : w2.cell? ⟨l.g, 14, none⟩ = some (.int .u64 (e.last : Int)) := hA.1.cell 14
    have EQ := Lib.hid (fun W (hW : Below w2.heap.size w2 W) => end_q e l.g (wptr l) W (Blk.below hA.1 hW (Blk.lt hA.1)))
    rw [P.out]
    clear HR0 HU HR hf he hl hA P a2 e7 n0
    unfold useE ptr
    go_wp2_with fail
    go_quiet (with_reducible exact Calls.quiet_of (EQ.out _ (below_drewN (Below.refl _ _) _)))
    have J3 := Lib.hid (J2.out.drewN nq)
    have B3 := Lib.hid (below_drewN B2.out nq)
    have K3 := Lib.hid (KE.out.drewN nq)
    have S3 : Hid ((w2.drewN nq).heap.size = w2.heap.size) := Lib.hid rfl
    have c14 : (w2.drewN nq).cell? ⟨l.g, 14, none⟩ = some (.int .u64 (e.last : Int)) := K3.out.cell 14
    generalize w2.drewN nq = w3 at *
    clear J2 B2 KE EQ S3
    have LQ : e.last < Q64 := FT.out.last
    unfold Q64 at LQ
    by_cases NE : e.last = endN e.life
    · have g1 : ((e.last : Int) == (endN e.life : Int)) = true := by rw [beq_iff_eq, NE]
      have E : Hid (r = (saC zeroL, 0, 121, es)) := Lib.hid (E3.out.trans (if_pos (by
        unfold endN at NE
        cases h4 : e.life.x4 <;> rw [h4] at NE
        · exact .inr ⟨rfl, NE⟩
        · exact .inl NE)))
      clear E3 NE LQ
      go_wp2_with (refine wpList_store_row rfl 32 (.tmp 8) (.tmp 33) rfl w.heap.size Zs rfl rfl 32 _ J3.out (by kernel_rfl) (by kernel_rfl) (by kernel_rfl) ?_)
      exact bodyPost_ret (results_triple rfl _ _ w.heap.size 32 Zs (0, 0) _ _ _ rfl rfl rfl (setRow_heap _ _ _ _ _ _ J3.out) Tryd.underlying32 rfl (by kernel_rfl)) rfl ⟨by rw [E.out]; rfl, by rw [E.out]; exact (CadAt.zrow HH.out B3.out Zs).1, (CadAt.zrow HH.out B3.out Zs).2 _⟩
    · have g1 : ((e.last : Int) == (endN e.life : Int)) = false := by rw [beq_eq_false_iff_ne]; omega
      have L1 : Hid (e.last + 1 < Q64 ∧ (e.life.x4 = false → e.last + 1 ≤ 4294967295)) := Lib.hid (by
        have q := FT.out.esn
        unfold endN at NE
        unfold Q64
        cases h4 : e.life.x4 <;> rw [h4] at NE q <;> simp at NE q ⊢ <;> omega)
      have E : Hid (r = (saC e.life, e.last + 1, 0, es.set i (sent e n))) := Lib.hid (E3.out.trans (if_neg (by
        rintro (q | ⟨q1, q2⟩)
        · have := L1.out.1
          unfold Q64 at this
          omega
        · have := L1.out.2 q1
          omega)))
      have f1 : IntKind.u64.wrap ((e.last : Int) + 1) = (e.last : Int) + 1 := IntWalk.u64_in _ (by have := L1.out.1; unfold Q64 at this; omega)
      have fz14 := Blk.frozen K3.out 14
      have K4 : Hid (Blk (w3.setCell ⟨l.g, 14, none⟩ (.int .u64 ((e.last : Int) + 1))) l.g 65 (acells { e with last := e.last + 1 } (wptr l))) := Lib.hid (Blk.put K3.out 14 _)
      have NG : Hid (w.heap.size ≠ l.g) := Lib.hid (by have := GL.out; omega)
      have J4 := Lib.hid (Blk.far J3.out (p := ⟨l.g, 14, none⟩) NG.out (.int .u64 ((e.last : Int) + 1)))
      have O4 : Hid (But l.g none w3 (w3.setCell ⟨l.g, 14, none⟩ (.int .u64 ((e.last : Int) + 1)))) := Lib.hid ⟨rfl, rfl, rfl, by simp, fun k hk h1 _ => Below.heap_setCell w3 ⟨l.g, 14, none⟩ _ k (fun e => h1 e)⟩
      have CC := Lib.hid (count_c { e with last := e.last + 1 } l.g (wptr l) n (w3.setCell ⟨l.g, 14, none⟩ (.int .u64 ((e.last : Int) + 1))) K4.out FT.out.bytes N0.out RM.out.2.2)
      clear E3 NE LQ J3 K3 K4
      go_wp2_with fail
      refine CC.out.mono ?_
      rintro er w5 ⟨rfl, k5, o5⟩
      have K5 : Hid (Blk w5 l.g 65 (acells (sent e n) (wptr l))) := Lib.hid k5
      have J5 : Hid (Blk w5 w.heap.size 32 Zs) := Lib.hid ((o5.block w.heap.size (Blk.lt J4.out) NG.out (by simp)).trans J4.out)
      have O5 : Hid (But l.g none w3 w5) := Lib.hid (O4.out.trans o5)
      clear CC k5 o5 J4 O4 f1 fz14 c14
      generalize w3.setCell ⟨l.g, 14, none⟩ (.int .u64 ((e.last : Int) + 1)) = w4 at *
      go_wp2_with fail
      have X : Hid (∀ V, OneSet w.heap.size (saC e.life).toArray w5.drew V → Blk V l.g 65 (acells (sent e n) (wptr l))) := Lib.hid fun V hV => (hV.block l.g (Blk.lt K5.out) NG.out.symm).trans K5.out
      have Y : Hid (∀ V, OneSet w.heap.size (saC e.life).toArray w5.drew V → Blk V w.heap.size 32 Zs ∨ Blk V w.heap.size 32 (saC e.life).toArray) := Lib.hid fun V hV => hV.one.imp (fun z => z.trans J5.out) id
      have OW := Lib.hid (fun W => sa_own e.life W (short_of FT.out.may))
      refine wp_region_free [0, 1, 2, 3, 4, 5, 6, 7, 8, 9, 10] 11 [12] (fun w1 w2 => OneSet w.heap.size (saC e.life).toArray w1 w2) (fun k' w' v => match k' with
        | 0 => v = .pointer (some ⟨l.g, 0, none⟩)
        | 1 => v = .pointer (some ⟨l.g, 0, none⟩)
        | 2 => v = .pointer (some ⟨l.g, 0, none⟩)
        | 3 => v = .pointer (some ⟨l.g, 0, none⟩)
        | 4 => v = .agg (saC e.life).toArray
        | 5 => v = .agg (saC e.life).toArray
        | 6 => v = .pointer (some ⟨l.g, 0, none⟩)
        | 7 => v = .pointer (some ⟨l.g, 0, none⟩)
        | 8 => v = .pointer (some ⟨l.g, 14, none⟩)
        | 9 => v = .int .u64 ((e.last : Int) + 1)
        | _ => Blk w' w.heap.size 32 (saC e.life).toArray) (by kernel_rfl) (by kernel_rfl) (OneSet.refl _ _ _) (fun _ _ _ h k => h.trans k) (fun k' w1 w2 v h => match k' with
        | 0 => fun x => x
        | 1 => fun x => x
        | 2 => fun x => x
        | 3 => fun x => x
        | 4 => fun x => x
        | 5 => fun x => x
        | 6 => fun x => x
        | 7 => fun x => x
        | 8 => fun x => x
        | 9 => fun x => x
        | _ + 10 => fun x => h.one.elim (fun z => z.trans x) id) (fun _ _ _ _ _ h => h) ?_ _ (by rfl) ?_
      · refine (obs_cons (by rfl) (fun vals w' hgr hdep K hK => ?_) (obs_cons (by rfl) (fun vals w' hgr hdep K hK => ?_) (obs_cons (by rfl) (fun vals w' hgr hdep K hK => ?_) (obs_cons (by rfl) (fun vals w' hgr hdep K hK => ?_) (obs_cons (by rfl) (fun vals w' hgr hdep K hK => ?_) (obs_cons (by rfl) (fun vals w' hgr hdep K hK => ?_) (obs_cons (by rfl) (fun vals w' hgr hdep K hK => ?_) (obs_cons (by rfl) (fun vals w' hgr hdep K hK => ?_) (obs_cons (by rfl) (fun vals w' hgr hdep K hK => ?_) (obs_cons (by rfl) (fun vals w' hgr hdep K hK => ?_) (obs_cons (by rfl) (fun vals w' hgr hdep K hK => ?_) obs_nil)))))))))))
        · exact wp_move (.tmp 11) rfl _ (at_out _ (by kernel_rfl) rfl) (hK _ _ (OneSet.refl _ _ _) rfl)
        · exact st_nilC (.tmp 44) rfl _ ((at_dst 0 (by kernel_rfl)).trans (hdep 0 (by simp) (by kernel_rfl))) (hK _ _ (OneSet.refl _ _ _) rfl)
        · exact wp_field (.tmp 45) rfl _ _ ((at_dst 1 (by kernel_rfl)).trans (hdep 1 (by simp) (by kernel_rfl))) (by kernel_rfl) (hK _ _ (OneSet.refl _ _ _) rfl)
        · exact wp_field (.tmp 46) rfl _ _ ((at_dst 2 (by kernel_rfl)).trans (hdep 2 (by simp) (by kernel_rfl))) (by kernel_rfl) (hK _ _ (OneSet.refl _ _ _) rfl)
        · exact Part.st_load_part 32 (.tmp 47) rfl l.g 0 (saC e.life) ((at_dst 3 (by kernel_rfl)).trans (hdep 3 (by simp) (by kernel_rfl))) (Part.run_part _ _ _ _ _ _ Tryd.underlying32 rfl (by kernel_rfl) (blk_part (X.out w' hgr) 0 6)) (hK _ _ (OneSet.refl _ _ _) rfl)
        · exact wp_call 38 [.tmp 48] _ rfl (enters_of Tryd.func38 (by kernel_rfl) rfl) [.agg (saC e.life).toArray] (Draw.list1 ((at_dst 4 (by kernel_rfl)).trans (hdep 4 (by simp) (by kernel_rfl)))) (fun v w'' => v = .agg (saC e.life).toArray ∧ Below w'.heap.size w' w'') ((OW.out w').mono fun e w'' ⟨h1, h2⟩ => ⟨_, h1, rfl, h2⟩) (fun v w'' ⟨h1, h2⟩ => hK _ _ (OneSet.bel h2 (Nat.lt_of_lt_of_le (Blk.lt J5.out) hgr.size)) h1)
        · exact wp_move (.tmp 11) rfl _ (at_out _ (by kernel_rfl) rfl) (hK _ _ (OneSet.refl _ _ _) rfl)
        · exact st_nilC (.tmp 50) rfl _ ((at_dst 6 (by kernel_rfl)).trans (hdep 6 (by simp) (by kernel_rfl))) (hK _ _ (OneSet.refl _ _ _) rfl)
        · exact wp_field (.tmp 51) rfl _ _ ((at_dst 7 (by kernel_rfl)).trans (hdep 7 (by simp) (by kernel_rfl))) (by kernel_rfl) (hK _ _ (OneSet.refl _ _ _) rfl)
        · exact wp_load1 (.tmp 52) rfl ⟨l.g, 14, none⟩ ((at_dst 8 (by kernel_rfl)).trans (hdep 8 (by simp) (by kernel_rfl))) Tryd.underlying30 rfl _ ((X.out w' hgr).cell 14) (hK _ _ (OneSet.refl _ _ _) rfl)
        · rcases Y.out w' hgr with y | y
          · exact st_store_row 32 (.tmp 8) (.tmp 49) rfl w.heap.size (saC e.life).toArray (at_out _ (by kernel_rfl) rfl) ((at_dst 5 (by kernel_rfl)).trans (hdep 5 (by simp) (by kernel_rfl))) 32 Zs y (by kernel_rfl) (by kernel_rfl) (oneSa e.life) (hK _ _ (OneSet.row y) (setRow_heap _ _ _ _ _ _ y))
          · exact st_store_row 32 (.tmp 8) (.tmp 49) rfl w.heap.size (saC e.life).toArray (at_out _ (by kernel_rfl) rfl) ((at_dst 5 (by kernel_rfl)).trans (hdep 5 (by simp) (by kernel_rfl))) 32 _ y (by kernel_rfl) rfl (oneSa e.life) (hK _ _ (OneSet.row y) (setRow_heap _ _ _ _ _ _ y))
      · intro vals w' hgr hG
        refine st_assign (.tmp 53) (.int .u64 ((e.last : Int) + 1)) rfl ((at_dst 9 (by kernel_rfl)).trans (hG 9 (by simp))) ?_
        refine wpAnyH_next 12 _ rfl rfl (by kernel_rfl) (st_assign (.const (.int .i64 0)) (.int .i64 0) rfl rfl ⟨trivial, wpAnyH_done (by kernel_rfl) ?_ _⟩)
        have F : Hid ((∀ k, k < w3.heap.size → k ≠ l.g → k ≠ w.heap.size → w'.heap[k]? = w3.heap[k]?) ∧ w'.os = w3.os ∧ w'.tape = w3.tape ∧ w'.output = w3.output ∧ w3.heap.size ≤ w'.heap.size) := Lib.hid ⟨fun k hk k1 k2 => (hgr.block k (Nat.lt_of_lt_of_le hk O5.out.size) k2).trans (O5.out.block k hk k1 (by simp)), hgr.os.trans O5.out.os, hgr.tape.trans O5.out.tape, hgr.output.trans O5.out.output, Nat.le_trans O5.out.size hgr.size⟩
        have K6 : Hid (Blk w' l.g 65 (acells (sent e n) (wptr l))) := Lib.hid (X.out w' hgr)
        have J6 : Hid (Blk w' w.heap.size 32 (saC e.life).toArray) := Lib.hid (hG 10 (by simp))
        clear hG hgr X Y J5 K5 O5 OW
        simp only [fill, dstAt, List.getElem?_cons_zero, List.getElem?_cons_succ, Option.bind_some, Act.put, List.setIfInBounds_toArray, List.set_cons_zero, List.set_cons_succ]
        generalize vals 0 = y0, vals 1 = y1, vals 2 = y2, vals 3 = y3, vals 4 = y4, vals 5 = y5, vals 6 = y6, vals 7 = y7, vals 8 = y8, vals 9 = y9, vals 10 = y10 at *
        generalize w' = w6 at *
        go_wp2_with fail
        refine bodyPost_ret (results_triple rfl _ _ w.heap.size 32 (saC e.life).toArray (0, 0) _ _ _ rfl rfl rfl J6.out Tryd.underlying32 rfl (by kernel_rfl)) rfl ⟨by rw [E.out]; rfl, ?_, ?_⟩
        · rw [E.out]
          have hA := HH.out.ent i l e D.out.1 D.out.2
          have old : ∀ k, k < w.heap.size → k ≠ l.g → w6.heap[k]? = w.heap[k]? := fun k hk k1 => (F.out.1 k (Nat.lt_of_lt_of_le hk B3.out.size) k1 (by omega)).trans (B3.out.block k hk)
          obtain ⟨T, t0, t1, tl⟩ := HH.out.tag
          have hm := List.mem_of_getElem? D.out.1
          refine CadAt.edit HH.out D.out.1 D.out.2 (sent e n) (fun k hk k1 _ => old k hk k1) K6.out (fun p hp => ?_) rfl ⟨FT.out.may, FT.out.born, by have := FT.out.bytes; have := N0.out; show 0 ≤ e.bytes + n; omega, L1.out.1, L1.out.2⟩
          obtain ⟨q1, q2⟩ := (tl l hm).2 p hp
          have q0 := (tl l hm).1
          obtain ⟨z1, z2⟩ := (HH.out.lts hm).2 p hp
          exact has_same (hA.2.1 p hp) (old _ z1 (fun z => by rw [z, q0] at q1; simp at q1)) (old _ z2 (fun z => by rw [z, q0] at q2; simp at q2))
        · refine ⟨F.out.2.1.trans B3.out.os, F.out.2.2.1.trans B3.out.tape, F.out.2.2.2.1.trans B3.out.output, Nat.le_trans B3.out.size F.out.2.2.2.2, fun k hf hk => (F.out.1 k (Nat.lt_of_lt_of_le hk B3.out.size) (fun z => hf ?_) (by omega)).trans (B3.out.block k hk)⟩
          exact .inr (.inr ⟨l, List.mem_of_getElem? D.out.1, .inl z⟩)
end Go.Proofs.YtppnkkpjfjhfkaaDoor.Cad6

