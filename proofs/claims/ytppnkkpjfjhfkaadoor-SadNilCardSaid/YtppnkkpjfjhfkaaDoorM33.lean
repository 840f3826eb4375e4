/- The code's Look, Take. -/
import Derived.Test.YtppnkkpjfjhfkaaDoorM32
set_option linter.unusedVariables false
set_option maxRecDepth 100000
namespace Go.Proofs.YtppnkkpjfjhfkaaDoor.Cad7
open Go.RowKit Go.Proofs.YtppnkkpjfjhfkaaDoor.Mem Go.Proofs.YtppnkkpjfjhfkaaDoor.Blk Go.Proofs.YtppnkkpjfjhfkaaDoor.Free Go.Proofs.YtppnkkpjfjhfkaaDoor.Steps Go.Proofs.YtppnkkpjfjhfkaaDoor.ArgT Go.Proofs.YtppnkkpjfjhfkaaDoor.Longs Go.Proofs.YtppnkkpjfjhfkaaDoor.WinD Go.Proofs.YtppnkkpjfjhfkaaDoor.WinA Go.Proofs.YtppnkkpjfjhfkaaDoor.SadM Go.Proofs.YtppnkkpjfjhfkaaDoor.SadR1 Go.Proofs.YtppnkkpjfjhfkaaDoor.SadR2 Go.Proofs.YtppnkkpjfjhfkaaDoor.SadR3 Go.Proofs.YtppnkkpjfjhfkaaDoor.SadR5 Go.Proofs.YtppnkkpjfjhfkaaDoor.SadR6 Go.Proofs.YtppnkkpjfjhfkaaDoor.RowN Go.Proofs.YtppnkkpjfjhfkaaDoor.Rng4 Go.Proofs.YtppnkkpjfjhfkaaDoor.CadM Go.Proofs.YtppnkkpjfjhfkaaDoor.Cad0 Go.Proofs.YtppnkkpjfjhfkaaDoor.Cad1 Go.Proofs.YtppnkkpjfjhfkaaDoor.Cad2 Go.Proofs.YtppnkkpjfjhfkaaDoor.Cad4 Go.Proofs.YtppnkkpjfjhfkaaDoor.Cad5 Go.Proofs.YtppnkkpjfjhfkaaDoor.Cad6 Go.Proofs.YtppnkkpjfjhfkaaDoor.Errno

theorem look_bad {now spi low : Int} {es : List Ent} {k : Nat} (h : useI now spi false 0 es = (none, k)) : lookS now spi low es = (zeroL, 0, k) := by
  unfold useI at h
  unfold lookS
  rw [if_neg (by omega)] at h
  cases hf : findI spi false es with
  | none => rw [hf] at h; cases h; rfl
  | some j =>
    obtain ⟨e, he, hh⟩ := findI_is hf
    rw [hf] at h
    simp only [he] at h ⊢
    by_cases a : ageN e now = 2
    · rw [if_pos a] at h ⊢; cases h; rfl
    · rw [if_neg a] at h; cases h
def lkC (e : Ent) (low : Int) : Nat := if (inf e.life.x5.toNat e.life.x4 e.acc low).2 = 0 then chk e.life.x5.toNat e.life.x4 e.acc (inf e.life.x5.toNat e.life.x4 e.acc low).1 else (inf e.life.x5.toNat e.life.x4 e.acc low).2
theorem look_good {now spi low : Int} {es : List Ent} {i k : Nat} {e : Ent} (h : useI now spi false 0 es = (some i, k)) (he : es[i]? = some e) : lookS now spi low es = if lkC e low = 0 then (e.life, (inf e.life.x5.toNat e.life.x4 e.acc low).1, 0) else (zeroL, 0, lkC e low) := by
  obtain ⟨q, hf, e', he', _, a⟩ := use_some h
  obtain rfl := Option.some.inj (he.symm.trans he')
  unfold lookS
  rw [hf]
  simp only [he, if_neg a]
  rfl
theorem look_nil (now spi low : Int) (w : World) (hg : Handle w) : Calls Tryd.prog 21 #[.pointer none, .int .i64 now, .int .i64 spi, .int .i64 low] w fun er w' => er = .returned (.tuple #[.agg zeroL.cells.toArray, .int .u64 0, .int .i64 3]) ∧ Below w.heap.size w w' := by
  have J0 := Lib.hid (Blk.new w 34 Zz)
  have B0 := Lib.hid ((Below.refl w.heap.size w).alloc (Nat.le_refl _) (.cells Zz 34))
  have ER := Lib.hid (errno_fault spi false ((3 : Nat) : Int) (w.alloc (.cells Zz 34)) (hg.keep B0.out))
  go_enter Tryd.func21, Tryd.ntmps21
  go_wp2_with fail
  refine (usable_nil now spi false 0 (w.alloc (.cells Zz 34))).mono ?_
  rintro er w1 ⟨rfl, rfl⟩
  unfold failV
  go_wp2_with fail
  refine ER.out.mono ?_
  rintro er w2 ⟨rfl, hb⟩
  have J1 := Lib.hid (Blk.below J0.out hb (Blk.lt J0.out))
  have B1 := Lib.hid (B0.out.trans (hb.mono B0.out.size))
  clear hb ER J0 B0
  go_wp2_with (refine wpList_store_row rfl 34 (.tmp 8) (.tmp 24) rfl w.heap.size Zz rfl rfl 34 _ J1.out (by kernel_rfl) (by kernel_rfl) (by kernel_rfl) ?_)
  exact bodyPost_ret (results_triple rfl _ _ w.heap.size 34 Zz (0, 0) _ _ _ rfl rfl rfl (setRow_heap _ _ _ _ _ _ J1.out) Tryd.underlying34 rfl (by kernel_rfl)) rfl ⟨rfl, Com.setRow_bel B1.out (Nat.le_refl _) _⟩

set_option maxHeartbeats 4000000 in
theorem look_c (gs : Nat) (A : Option Addr) (m c : Nat) (ls : List CSpot) (es : List Ent) (now spi low : Int) (w : World) (h : CadAt w gs A m c ls es) (hg : Handle w) (hn : es.length ≤ 1048576) (hc : NowOk now es) :
    Calls Tryd.prog 21 #[.pointer (some ⟨gs, 0, none⟩), .int .i64 now, .int .i64 spi, .int .i64 low] w fun er w' => er = .returned (.tuple #[.agg (lookS now spi low es).1.cells.toArray, .int .u64 ((lookS now spi low es).2.1 : Int), .int .i64 ((lookS now spi low es).2.2 : Int)]) ∧ Below w.heap.size w w' := by
  have J0 := Lib.hid (Blk.new w 34 Zz)
  have B0 := Lib.hid ((Below.refl w.heap.size w).alloc (Nat.le_refl _) (.cells Zz 34))
  have UC := Lib.hid (usable_c gs A m c ls es now spi false 0 (w.alloc (.cells Zz 34)) (h.up B0.out) hn hc)
  have HH := Lib.hid h
  have HG := Lib.hid hg
  obtain ⟨r, hr0⟩ : ∃ r, r = lookS now spi low es := ⟨_, rfl⟩
  rw [← hr0]
  have HR0 := Lib.hid hr0
  obtain ⟨u, hu⟩ : ∃ u, u = useI now spi false 0 es := ⟨_, rfl⟩
  rw [← hu] at UC
  have HU := Lib.hid hu.symm
  clear h hg hc hr0 hu
  go_enter Tryd.func21, Tryd.ntmps21
  go_wp2_with fail
  refine UC.out.mono ?_
  rintro er w2 ⟨rfl, hb⟩
  have J2 := Lib.hid (Blk.below J0.out hb (Blk.lt J0.out))
  have B2 := Lib.hid (B0.out.trans (hb.mono B0.out.size))
  clear hb UC J0 B0
  obtain ⟨ui, k⟩ := u
  cases ui with
  | none =>
    have ER := Lib.hid (errno_fault spi false ((k : Nat) : Int) w2 (HG.out.keep B2.out))
    have E : Hid (r = (zeroL, 0, k)) := Lib.hid (HR0.out.trans (look_bad HU.out))
    unfold foundV useE failV
    clear HR0 HU HG HH
    go_wp2_with fail
    refine ER.out.mono ?_
    rintro er w3 ⟨rfl, hb⟩
    have J3 := Lib.hid (Blk.below J2.out hb (Blk.lt J2.out))
    have B3 := Lib.hid (B2.out.trans (hb.mono B2.out.size))
    clear hb ER J2 B2
    go_wp2_with (refine wpList_store_row rfl 34 (.tmp 8) (.tmp 24) rfl w.heap.size Zz rfl rfl 34 _ J3.out (by kernel_rfl) (by kernel_rfl) (by kernel_rfl) ?_)
    exact bodyPost_ret (results_triple rfl _ _ w.heap.size 34 Zz (0, 0) _ _ _ rfl rfl rfl (setRow_heap _ _ _ _ _ _ J3.out) Tryd.underlying34 rfl (by kernel_rfl)) rfl ⟨by rw [E.out]; rfl, Com.setRow_bel B3.out (Nat.le_refl _) _⟩
  | some i =>
    obtain ⟨n0, hf, e, he, e7, a2⟩ := use_some HU.out
    obtain ⟨l, hl⟩ : ∃ l, ls[i]? = some l := ⟨_, List.getElem?_eq_getElem (by rw [HH.out.len]; exact (List.getElem?_eq_some_iff.1 he).1)⟩
    have P : Hid (foundV ls (some i) = ptr l.g) := Lib.hid (by simp only [foundV, hl])
    have hA := (HH.out.up B2.out).ent i l e hl he
    obtain ⟨p, hp⟩ : ∃ p, l.w = some p := by
      have q := hA.2.2.1
      rw [e7] at q
      cases hw : l.w with
      | none => rw [hw] at q; cases q
      | some p => exact ⟨p, rfl⟩
    have WP : Hid (wptr l = ptr p.1) := Lib.hid (by unfold wptr; rw [hp])
    have E3 : Hid (r = if lkC e low = 0 then (e.life, (inf e.life.x5.toNat e.life.x4 e.acc low).1, 0) else (zeroL, 0, lkC e low)) := Lib.hid (HR0.out.trans (look_good HU.out he))
    have FT := Lib.hid hA.2.2.2
    have KE : Hid (Blk w2 l.g 65 (acells e (ptr p.1))) := Lib.hid (by have := hA.1; rwa [WP.out] at this)
    have HS := Lib.hid (hA.2.1 p hp)
    have c15 : w2.cell? ⟨l.g, 15, none⟩ = some (.pointer (some ⟨p.1, 0, none⟩)) := KE.out.cell 15
    have LC : Hid (lkC e low = if (inf e.life.x5.toNat e.life.x4 e.acc low).2 = 0 then chk e.life.x5.toNat e.life.x4 e.acc (inf e.life.x5.toNat e.life.x4 e.acc low).1 else (inf e.life.x5.toNat e.life.x4 e.acc low).2) := Lib.hid rfl
    have IC := Lib.hid (infer_has HS.out low)
    have LT := Lib.hid (inf_lt e.life.x5.toNat e.life.x4 e.acc low)
    have CC := Lib.hid (fun W (hW : Below w2.heap.size w2 W) => check_has (HS.out.up hW) (inf e.life.x5.toNat e.life.x4 e.acc low).1 LT.out)
    rw [P.out]
    clear HR0 HU hf he hl hA P a2 e7 n0 HH HG hp WP HS LT
    obtain ⟨f, hf⟩ : ∃ f, f = inf e.life.x5.toNat e.life.x4 e.acc low := ⟨_, rfl⟩
    rw [← hf] at LC IC CC E3
    clear hf
    generalize chk e.life.x5.toNat e.life.x4 e.acc f.1 = cv at *
    generalize lkC e low = q at *
    obtain ⟨f1, f2⟩ := f
    dsimp only at LC IC CC E3
    unfold useE ptr
    go_wp2_with fail
    refine IC.out.mono ?_
    rintro er w3 ⟨rfl, hb⟩
    have J3 := Lib.hid (Blk.below J2.out hb (Blk.lt J2.out))
    have B3 := Lib.hid (B2.out.trans (hb.mono B2.out.size))
    have K3 := Lib.hid (Blk.below KE.out hb (Blk.lt KE.out))
    have C3 := Lib.hid (CC.out w3 hb)
    clear hb IC J2 B2 KE CC c15
    have c15 : w3.cell? ⟨l.g, 15, none⟩ = some (.pointer (some ⟨p.1, 0, none⟩)) := K3.out.cell 15
    by_cases z2 : f2 = 0
    · have g1 : ((f2 : Int) == 0) = true := by rw [beq_iff_eq]; omega
      have Q : Hid (q = cv) := Lib.hid (LC.out.trans (if_pos z2))
      clear LC z2
      go_wp2_with fail
      refine C3.out.mono ?_
      rintro er w4 ⟨rfl, hb⟩
      have J4 := Lib.hid (Blk.below J3.out hb (Blk.lt J3.out))
      have B4 := Lib.hid (B3.out.trans (hb.mono B3.out.size))
      have K4 := Lib.hid (Blk.below K3.out hb (Blk.lt K3.out))
      clear hb C3 J3 B3 K3 c15
      by_cases z3 : cv = 0
      · have g3 : ((cv : Int) != 0) = false := by simp [z3]
        have E : Hid (r = (e.life, f1, 0)) := Lib.hid (E3.out.trans (if_pos (Q.out.trans z3)))
        have RP : (loadVar 34 ⟨l.g, 0, none⟩).run Tryd.prog w4 = .ok (.agg e.life.cells.toArray) w4 := Part.run_part w4 l.g 0 34 e.life.cells _ Tryd.underlying34 rfl (by kernel_rfl) (blk_part K4.out 0 12)
        have OW := Lib.hid (fun W => life_own e.life W (short_of FT.out.may))
        have one := Lib.hid (oneLA e.life)
        clear E3 Q z3 g1
        go_wp2_with (refine Part.wpList_load_part rfl 34 (.tmp 50) rfl l.g 0 e.life.cells rfl RP ?_)
        refine (OW.out _).mono ?_
        rintro er w5 ⟨rfl, hb⟩
        have J5 := Lib.hid (Blk.below J4.out hb (Blk.lt J4.out))
        have B5 := Lib.hid (B4.out.trans (hb.mono B4.out.size))
        clear hb J4 B4 RP OW K4
        go_wp2_with (refine wpList_store_row rfl 34 (.tmp 8) (.tmp 52) rfl w.heap.size e.life.cells.toArray rfl rfl 34 _ J5.out (by kernel_rfl) rfl one.out ?_)
        exact bodyPost_ret (results_triple rfl _ _ w.heap.size 34 e.life.cells.toArray (0, 0) _ _ _ rfl rfl rfl (setRow_heap _ _ _ _ _ _ J5.out) Tryd.underlying34 rfl (by kernel_rfl)) rfl ⟨by rw [E.out]; rfl, Com.setRow_bel B5.out (Nat.le_refl _) _⟩
      · have g3 : ((cv : Int) != 0) = true := by simp; omega
        have E : Hid (r = (zeroL, 0, cv)) := Lib.hid (by rw [E3.out, if_neg (by rw [Q.out]; exact z3), Q.out])
        clear E3 Q z3 g1
        go_wp2_with (refine wpList_store_row rfl 34 (.tmp 8) (.tmp 46) rfl w.heap.size Zz rfl rfl 34 _ J4.out (by kernel_rfl) (by kernel_rfl) (by kernel_rfl) ?_)
        exact bodyPost_ret (results_triple rfl _ _ w.heap.size 34 Zz (0, 0) _ _ _ rfl rfl rfl (setRow_heap _ _ _ _ _ _ J4.out) Tryd.underlying34 rfl (by kernel_rfl)) rfl ⟨by rw [E.out]; rfl, Com.setRow_bel B4.out (Nat.le_refl _) _⟩
    · have g1 : ((f2 : Int) == 0) = false := by rw [beq_eq_false_iff_ne]; omega
      have g3 : ((f2 : Int) != 0) = true := by simp; omega
      have Q : Hid (q = f2) := Lib.hid (LC.out.trans (if_neg z2))
      have E : Hid (r = (zeroL, 0, f2)) := Lib.hid (by rw [E3.out, if_neg (by rw [Q.out]; exact z2), Q.out])
      clear LC z2 E3 Q C3
      go_wp2_with (refine wpList_store_row rfl 34 (.tmp 8) (.tmp 46) rfl w.heap.size Zz rfl rfl 34 _ J3.out (by kernel_rfl) (by kernel_rfl) (by kernel_rfl) ?_)
      exact bodyPost_ret (results_triple rfl _ _ w.heap.size 34 Zz (0, 0) _ _ _ rfl rfl rfl (setRow_heap _ _ _ _ _ _ J3.out) Tryd.underlying34 rfl (by kernel_rfl)) rfl ⟨by rw [E.out]; rfl, Com.setRow_bel B3.out (Nat.le_refl _) _⟩

theorem take_bad {now spi n : Int} {seq : Nat} {es : List Ent} {k : Nat} (h : useI now spi false n es = (none, k)) : takeS now spi seq n es = (k, es) := by
  unfold useI at h
  unfold takeS
  by_cases q : n < 0
  · rw [if_pos q] at h ⊢
    cases h; rfl
  · rw [if_neg q] at h ⊢
    cases hf : findI spi false es with
    | none => rw [hf] at h; cases h; rfl
    | some j =>
      obtain ⟨e, he, hh⟩ := findI_is hf
      rw [hf] at h
      simp only [he] at h ⊢
      by_cases a : ageN e now = 2
      · rw [if_pos a] at h ⊢; cases h; rfl
      · rw [if_neg a] at h; cases h
theorem take_good {now spi n : Int} {seq : Nat} {es : List Ent} {i k : Nat} {e : Ent} (h : useI now spi false n es = (some i, k)) (he : es[i]? = some e) : takeS now spi seq n es = (chk e.life.x5.toNat e.life.x4 e.acc seq, es.set i (took e seq n)) := by
  obtain ⟨q, hf, e', he', _, a⟩ := use_some h
  obtain rfl := Option.some.inj (he.symm.trans he')
  unfold takeS
  rw [if_neg q, hf]
  simp only [he, if_neg a]
theorem take_nil (now spi n : Int) (seq : Nat) (w : World) (hg : Handle w) : Calls Tryd.prog 19 #[.pointer none, .int .i64 now, .int .i64 spi, .int .u64 (seq : Int), .int .i64 n] w fun er w' => er = .returned (.int .i64 3) ∧ Below w.heap.size w w' := by
  have ER := Lib.hid (errno_fault spi false ((3 : Nat) : Int) w hg)
  go_enter Tryd.func19, Tryd.ntmps19
  go_wp2_with fail
  refine (usable_nil now spi false n w).mono ?_
  rintro er w1 ⟨rfl, rfl⟩
  unfold failV
  go_wp2_with fail
  refine ER.out.mono ?_
  rintro er w2 ⟨rfl, hb⟩
  have HB := Lib.hid hb
  clear hb ER
  go_wp2_with fail
  go_ret
  exact ⟨rfl, HB.out⟩
set_option maxHeartbeats 4000000 in
theorem take_c (gs : Nat) (A : Option Addr) (m c : Nat) (ls : List CSpot) (es : List Ent) (now spi : Int) (seq : Nat) (n : Int) (w : World) (h : CadAt w gs A m c ls es) (hg : Handle w) (hn : es.length ≤ 1048576) (hc : NowOk now es) (hr : RoomOk n es) (hq : seq < Q64) :
    Calls Tryd.prog 19 #[.pointer (some ⟨gs, 0, none⟩), .int .i64 now, .int .i64 spi, .int .u64 (seq : Int), .int .i64 n] w fun er w' => er = .returned (.int .i64 ((takeS now spi seq n es).1 : Int)) ∧ CadAt w' gs A m c ls (takeS now spi seq n es).2 ∧ Keep (fun k => ¬ Mine gs A ls k) w w' := by
  have UC := Lib.hid (usable_c gs A m c ls es now spi false n w h hn hc)
  have HH := Lib.hid h
  have HG := Lib.hid hg
  have HR := Lib.hid hr
  have HQ := Lib.hid hq
  obtain ⟨r, hr0⟩ : ∃ r, r = takeS now spi seq n es := ⟨_, rfl⟩
  rw [← hr0]
  have HR0 := Lib.hid hr0
  obtain ⟨u, hu⟩ : ∃ u, u = useI now spi false n es := ⟨_, rfl⟩
  rw [← hu] at UC
  have HU := Lib.hid hu.symm
  clear h hg hc hr0 hu hr hq
  go_enter Tryd.func19, Tryd.ntmps19
  go_wp2_with fail
  refine UC.out.mono ?_
  rintro er w2 ⟨rfl, hb⟩
  have B2 := Lib.hid hb
  clear hb UC
  obtain ⟨ui, k⟩ := u
  cases ui with
  | none =>
    have ER := Lib.hid (errno_fault spi false ((k : Nat) : Int) w2 (HG.out.keep B2.out))
    have E : Hid (r = (k, es)) := Lib.hid (HR0.out.trans (take_bad HU.out))
    unfold foundV useE failV
    clear HR0 HU HG HR HQ
    go_wp2_with fail
    refine ER.out.mono ?_
    rintro er w3 ⟨rfl, hb⟩
    have B3 := Lib.hid (B2.out.trans (hb.mono B2.out.size))
    clear hb ER B2
    go_wp2_with fail
    go_ret
    exact ⟨by rw [E.out]; rfl, by rw [E.out]; exact HH.out.up B3.out, Keep.of B3.out⟩
  | some i =>
    obtain ⟨n0, hf, e, he, e7, a2⟩ := use_some HU.out
    obtain ⟨l, hl⟩ : ∃ l, ls[i]? = some l := ⟨_, List.getElem?_eq_getElem (by rw [HH.out.len]; exact (List.getElem?_eq_some_iff.1 he).1)⟩
    have D := Lib.hid (And.intro hl he)
    have P : Hid (foundV ls (some i) = ptr l.g) := Lib.hid (by simp only [foundV, hl])
    have hA := (HH.out.up B2.out).ent i l e hl he
    obtain ⟨p, hp⟩ : ∃ p, l.w = some p := by
      have q := hA.2.2.1
      rw [e7] at q
      cases hw : l.w with
      | none => rw [hw] at q; cases q
      | some p => exact ⟨p, rfl⟩
    have WP : Hid (wptr l = ptr p.1) := Lib.hid (by unfold wptr; rw [hp])
    have E3 : Hid (r = (chk e.life.x5.toNat e.life.x4 e.acc seq, es.set i (took e seq n))) := Lib.hid (HR0.out.trans (take_good HU.out he))
    have RM := Lib.hid (HR.out e (List.mem_of_getElem? he))
    have FT := Lib.hid hA.2.2.2
    have N0 : Hid (0 ≤ n) := Lib.hid (by omega)
    have KE : Hid (Blk w2 l.g 65 (acells e (ptr p.1))) := Lib.hid (by have := hA.1; rwa [WP.out] at this)
    have HS := Lib.hid (hA.2.1 p hp)
    have HP := Lib.hid hp
    have c15 : w2.cell? ⟨l.g, 15, none⟩ = some (.pointer (some ⟨p.1, 0, none⟩)) := KE.out.cell 15
    have AC := Lib.hid (accept_has HS.out seq HQ.out)
    -- the three blocks are three
    have DIS : Hid (l.g ≠ p.1 ∧ l.g ≠ p.2) := Lib.hid (by
      obtain ⟨T, t0, t1, tl⟩ := HH.out.tag
      obtain ⟨q0, q1⟩ := tl l (List.mem_of_getElem? hl)
      obtain ⟨q1, q2⟩ := q1 p hp
      exact ⟨fun z => by rw [← z, q0] at q1; simp at q1, fun z => by rw [← z, q0] at q2; simp at q2⟩)
    have LTS : Hid (l.g < w2.heap.size ∧ p.1 < w2.heap.size ∧ p.2 < w2.heap.size) := Lib.hid ⟨Blk.lt KE.out, has_lt HS.out⟩
    rw [P.out]
    clear HR0 HU hf he hl hA P a2 e7 n0 HG HR HQ hp HS
    obtain ⟨cv, hcv⟩ : ∃ cv, cv = chk e.life.x5.toNat e.life.x4 e.acc seq := ⟨_, rfl⟩
    rw [← hcv] at AC
    have HC := Lib.hid hcv
    clear hcv
    unfold useE ptr
    go_wp2_with fail
    refine AC.out.mono ?_
    rintro er w3 ⟨rfl, hbt, hhs⟩
    have BT := Lib.hid hbt
    have HS3 := Lib.hid hhs
    have K3 : Hid (Blk w3 l.g 65 (acells e (ptr p.1))) := Lib.hid ((hbt.block l.g LTS.out.1 DIS.out.1 (fun z => DIS.out.2 (by injection z))).trans KE.out)
    clear hbt hhs AC KE c15
    by_cases z : cv = 0
    · have g1 : ((cv : Int) != 0) = false := by simp [z]
      have CC := Lib.hid (count_c e l.g (ptr p.1) n w3 K3.out FT.out.bytes N0.out RM.out.2.2)
      have TK : Hid (took e seq n = { e with bytes := e.bytes + n, acc := WinD.acc e.life.x5.toNat e.life.x4 e.acc seq }) := Lib.hid (by unfold took; rw [if_pos (HC.out.symm.trans z)])
      go_wp2_with fail
      refine CC.out.mono ?_
      rintro er w4 ⟨rfl, k4, o4⟩
      have K4 := Lib.hid k4
      have O4 := Lib.hid o4
      clear k4 o4 CC
      go_wp2_with fail
      go_ret
      have old : ∀ k, k < w.heap.size → k ≠ l.g → k ≠ p.1 → k ≠ p.2 → w4.heap[k]? = w.heap[k]? := fun k hk k1 k2 k3 => (O4.out.block k (Nat.lt_of_lt_of_le hk (Nat.le_trans B2.out.size BT.out.size)) k1 (by simp)).trans ((BT.out.block k (Nat.lt_of_lt_of_le hk B2.out.size) k2 (fun z => k3 (by injection z))).trans (B2.out.block k hk))
      refine ⟨by rw [E3.out, ← HC.out, z]; rfl, ?_, ⟨O4.out.os.trans (BT.out.os.trans B2.out.os), O4.out.tape.trans (BT.out.tape.trans B2.out.tape), O4.out.output.trans (BT.out.output.trans B2.out.output), Nat.le_trans B2.out.size (Nat.le_trans BT.out.size O4.out.size), fun k hf hk => old k hk (fun z => hf (.inr (.inr ⟨l, List.mem_of_getElem? D.out.1, .inl z⟩))) (fun z => hf (.inr (.inr ⟨l, List.mem_of_getElem? D.out.1, .inr ⟨p, HP.out, .inl z⟩⟩))) (fun z => hf (.inr (.inr ⟨l, List.mem_of_getElem? D.out.1, .inr ⟨p, HP.out, .inr z⟩⟩)))⟩⟩
      rw [E3.out]
      refine CadAt.edit HH.out D.out.1 D.out.2 (took e seq n) (fun k hk k1 k2 => old k hk k1 (k2 p HP.out).1 (k2 p HP.out).2) ?_ (fun p' hp' => ?_) rfl ?_
      · rw [TK.out, WP.out]; exact K4.out
      · obtain rfl := Option.some.inj (HP.out.symm.trans hp')
        exact has_same HS3.out (O4.out.block _ (Nat.lt_of_lt_of_le LTS.out.2.1 BT.out.size) DIS.out.1.symm (by simp)) (O4.out.block _ (Nat.lt_of_lt_of_le LTS.out.2.2 BT.out.size) DIS.out.2.symm (by simp))
      · rw [TK.out]
        exact ⟨FT.out.may, FT.out.born, by have := FT.out.bytes; have := N0.out; show 0 ≤ e.bytes + n; omega, FT.out.last, FT.out.esn⟩
    · have g1 : ((cv : Int) != 0) = true := by simp; omega
      have TK : Hid (took e seq n = { e with acc := WinD.acc e.life.x5.toNat e.life.x4 e.acc seq }) := Lib.hid (by unfold took; rw [if_neg (fun q => z (HC.out.trans q))])
      go_wp2_with fail
      go_ret
      have old : ∀ k, k < w.heap.size → k ≠ p.1 → k ≠ p.2 → w3.heap[k]? = w.heap[k]? := fun k hk k2 k3 => (BT.out.block k (Nat.lt_of_lt_of_le hk B2.out.size) k2 (fun z => k3 (by injection z))).trans (B2.out.block k hk)
      refine ⟨by rw [E3.out, ← HC.out]; rfl, ?_, ⟨BT.out.os.trans B2.out.os, BT.out.tape.trans B2.out.tape, BT.out.output.trans B2.out.output, Nat.le_trans B2.out.size BT.out.size, fun k hf hk => old k hk (fun z => hf (.inr (.inr ⟨l, List.mem_of_getElem? D.out.1, .inr ⟨p, HP.out, .inl z⟩⟩))) (fun z => hf (.inr (.inr ⟨l, List.mem_of_getElem? D.out.1, .inr ⟨p, HP.out, .inr z⟩⟩)))⟩⟩
      rw [E3.out]
      refine CadAt.edit HH.out D.out.1 D.out.2 (took e seq n) (fun k hk k1 k2 => old k hk (k2 p HP.out).1 (k2 p HP.out).2) ?_ (fun p' hp' => ?_) rfl ?_
      · rw [TK.out, WP.out]; exact K3.out
      · obtain rfl := Option.some.inj (HP.out.symm.trans hp')
        exact HS3.out
      · rw [TK.out]
        exact ⟨FT.out.may, FT.out.born, FT.out.bytes, FT.out.last, FT.out.esn⟩
end Go.Proofs.YtppnkkpjfjhfkaaDoor.Cad7

