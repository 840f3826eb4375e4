/- The code's Age, Pick. -/
import Derived.Test.YtppnkkpjfjhfkaaDoorM29
import Derived.Test.YtppnkkpjfjhfkaaDoorM16
import Derived.Test.YtppnkkpjfjhfkaaDoorM08
set_option linter.unusedVariables false
namespace Go.Proofs.YtppnkkpjfjhfkaaDoor.Cad3
open Go.RowKit Go.Proofs.YtppnkkpjfjhfkaaDoor.Mem Go.Proofs.YtppnkkpjfjhfkaaDoor.Blk Go.Proofs.YtppnkkpjfjhfkaaDoor.ArgT Go.Proofs.YtppnkkpjfjhfkaaDoor.Longs Go.Proofs.YtppnkkpjfjhfkaaDoor.SadM Go.Proofs.YtppnkkpjfjhfkaaDoor.SadR1 Go.Proofs.YtppnkkpjfjhfkaaDoor.SadR2 Go.Proofs.YtppnkkpjfjhfkaaDoor.SadR3 Go.Proofs.YtppnkkpjfjhfkaaDoor.SadR4 Go.Proofs.YtppnkkpjfjhfkaaDoor.CadM Go.Proofs.YtppnkkpjfjhfkaaDoor.Cad1 Go.Proofs.YtppnkkpjfjhfkaaDoor.Cad2 Go.Proofs.YtppnkkpjfjhfkaaDoor.RowN Go.Proofs.YtppnkkpjfjhfkaaDoor.RowA Go.Proofs.YtppnkkpjfjhfkaaDoor.Errno

theorem age_nil (now spi : Int) (out : Bool) (w : World) (hg : Handle w) : Calls Tryd.prog 20 #[.pointer none, .int .i64 now, .int .i64 spi, .bool out] w fun er w' => er = .returned (.tuple #[.int .i64 0, .int .i64 3]) ∧ Below w.heap.size w w' := by
  have ER := Lib.hid (errno_fault spi out ((3 : Nat) : Int) w hg)
  go_enter Tryd.func20, Tryd.ntmps20
  go_wp2_with fail
  refine (find_nil spi out w).mono ?_
  rintro er w1 ⟨rfl, rfl⟩
  unfold failV
  go_wp2_with fail
  refine ER.out.mono ?_
  rintro er w2 ⟨rfl, hb⟩
  have HB := Lib.hid hb
  clear hb ER
  go_wp2_with fail
  go_ret2
  exact ⟨rfl, HB.out⟩
set_option maxHeartbeats 1000000 in
theorem age_c (gs : Nat) (A : Option Addr) (n c : Nat) (ls : List CSpot) (es : List Ent) (now spi : Int) (out : Bool) (w : World) (h : CadAt w gs A n c ls es) (hg : Handle w) (hn : es.length ≤ 1048576) (hc : NowOk now es) :
    Calls Tryd.prog 20 #[.pointer (some ⟨gs, 0, none⟩), .int .i64 now, .int .i64 spi, .bool out] w fun er w' => er = .returned (.tuple #[.int .i64 ((ageS now spi out es).1 : Int), .int .i64 ((ageS now spi out es).2 : Int)]) ∧ Below w.heap.size w w' := by
  obtain ⟨u, hu⟩ : ∃ u, u = ageS now spi out es := ⟨_, rfl⟩
  rw [← hu]
  unfold ageS at hu
  have FC := Lib.hid (find_c gs A n c ls es spi out w h hn)
  have HU := Lib.hid hu
  have HH := Lib.hid h
  have HC := Lib.hid hc
  have HG := Lib.hid hg
  clear hu h hc hg
  go_enter Tryd.func20, Tryd.ntmps20
  go_wp2_with fail
  refine FC.out.mono ?_
  rintro er w1 ⟨rfl, hb⟩
  cases hf : findI spi out es with
  | none =>
    have E : Hid (u = (0, 6)) := Lib.hid (by rw [HU.out, hf])
    have HB := Lib.hid hb
    have ER := Lib.hid (errno_fault spi out ((6 : Nat) : Int) w1 (HG.out.keep hb))
    clear FC HU HH HC hf hb
    unfold foundV foundE failV
    go_wp2_with fail
    refine ER.out.mono ?_
    rintro er w2 ⟨rfl, hb2⟩
    have HB2 := Lib.hid (HB.out.trans (hb2.mono HB.out.size))
    clear hb2 ER HB
    go_wp2_with fail
    go_ret2
    exact ⟨by rw [E.out]; rfl, HB2.out⟩
  | some i =>
    obtain ⟨e, he, _⟩ := findI_is hf
    obtain ⟨l, hl⟩ : ∃ l, ls[i]? = some l := ⟨_, List.getElem?_eq_getElem (by rw [HH.out.len]; exact (List.getElem?_eq_some_iff.1 he).1)⟩
    have AG := Lib.hid (age1_c e l.g (wptr l) now w1 (((HH.out.up hb).ent i l e hl he).1) ((HH.out.up hb).ent i l e hl he).2.2.2 (HC.out e (List.mem_of_getElem? he)))
    have P : Hid (foundV ls (some i) = ptr l.g) := Lib.hid (by simp only [foundV, hl])
    have E : Hid (u = (ageN e now, 0)) := Lib.hid (by rw [HU.out, hf]; simp only [he])
    have HB := Lib.hid hb
    rw [P.out]
    clear FC HU HH HC hf he hl hb P
    generalize l.g = g at *
    generalize ageN e now = a at *
    unfold foundE ptr
    go_wp2_with fail
    refine AG.out.mono ?_
    rintro er w2 ⟨rfl, hb2⟩
    have HB2 := Lib.hid (HB.out.trans (hb2.mono HB.out.size))
    clear HB AG hb2
    go_wp2_with fail
    go_ret2
    exact ⟨by rw [E.out]; rfl, HB2.out⟩
theorem pick_nil (now rule : Int) (w : World) : Calls Tryd.prog 22 #[.pointer none, .int .i64 now, .int .i64 rule] w fun er w' => er = .returned (.tuple #[.int .i64 0, .int .i64 3]) ∧ Below w.heap.size w w' := by
  go_enter Tryd.func22, Tryd.ntmps22
  go_wp2_with fail
  go_ret2
  exact ⟨rfl, Below.refl _ _⟩
set_option maxHeartbeats 2000000 in
theorem pick_c (gs : Nat) (A : Option Addr) (n c : Nat) (ls : List CSpot) (es : List Ent) (now rule : Int) (w : World) (h : CadAt w gs A n c ls es) (hn : es.length ≤ 1048576) (hcm : NowOk now es) :
    Calls Tryd.prog 22 #[.pointer (some ⟨gs, 0, none⟩), .int .i64 now, .int .i64 rule] w fun er w' => er = .returned (.tuple #[.int .i64 (pickS now rule es).1, .int .i64 ((pickS now rule es).2 : Int)]) ∧ Below w.heap.size w w' := by
  have hn0 := h.num
  rw [← hn0] at hn
  have H := Lib.hid h
  have HN := Lib.hid hn0
  have CM := Lib.hid hcm
  have c0 : w.cell? ⟨gs, 0, none⟩ = some (.slice A n c) := h.blk.cell 0
  obtain ⟨r, hr⟩ : ∃ r, r = pickS now rule es := ⟨_, rfl⟩
  have AE : Hid (pickGo now rule (-1) (es.drop 0) = r) := Lib.hid (by rw [hr, List.drop_zero]; rfl)
  rw [← hr]
  clear h hn0 hr hcm
  go_enter Tryd.func22, Tryd.ntmps22
  go_wp2_with fail
  go_loopw [8, 9, 19] (fun sv ev iv wr => ∃ (i : Nat) (old x k : Int), iv = .int .i64 (i : Int) ∧ sv = .int .i64 x ∧ ev = .int .i64 k ∧ i ≤ n ∧ Hid (pickGo now rule old (es.drop i) = r) ∧ Hid ((old < 0 ∧ x = 0 ∧ k = 161) ∨ (0 ≤ old ∧ x = old ∧ k = 0)) ∧ Hid (Below w.heap.size w wr)) (fun _ _ iv _ => n - (intOf iv).toNat)
  case atStart => exact ⟨0, -1, 0, 161, rfl, rfl, rfl, by omega, AE, Lib.hid (.inl ⟨by omega, rfl, rfl⟩), Lib.hid (Below.refl _ _)⟩
  case round =>
    obtain ⟨i, old, x, k, rfl, rfl, rfl, hi, HS, HO, HB⟩ := hrel
    have H2 := H.out.up HB.out
    by_cases hlt : i < n
    · have he : es[i]? = some (es[i]'(by rw [← HN.out]; exact hlt)) := List.getElem?_eq_getElem _
      have hm : es[i]'(by rw [← HN.out]; exact hlt) ∈ es := List.getElem_mem _
      have hl : ls[i]? = some (ls[i]'(by rw [H2.len, ← HN.out]; exact hlt)) := List.getElem?_eq_getElem _
      generalize es[i]'(by rw [← HN.out]; exact hlt) = e at he hm
      generalize ls[i]'(by rw [H2.len, ← HN.out]; exact hlt) = l at hl
      obtain ⟨b, X, rfl, -⟩ := H2.row.row.some (by omega)
      have cp : wr.cell? ⟨b, i, none⟩ = some (.pointer (some ⟨l.g, 0, none⟩)) := H2.row.row.cell rfl (by rw [List.getElem?_map, hl]; rfl)
      have hE := (H2.ent i l e hl he).1
      have hF := (H2.ent i l e hl he).2.2.2
      have ce6 : wr.cell? ⟨l.g, 6, none⟩ = some (.int .i64 e.life.x6) := hE.cell 6
      have ce7 : wr.cell? ⟨l.g, 7, none⟩ = some (.bool e.life.x7) := hE.cell 7
      have C2 := Lib.hid (fun W (hW : Below wr.heap.size wr W) => age1_c e l.g (wptr l) now W (Blk.below hE hW (Blk.lt hE)) hF (CM.out e hm))
      have C0 := Lib.hid (fun W (hW : Below wr.heap.size wr W) => (Blk.below hE hW (Blk.lt hE)).cell 0)
      have ZP : Hid (0 ≤ e.life.x0) := Lib.hid (by have := hF.spi; omega)
      have STEP : Hid (pickGo now rule old (es.drop i) = if e.life.x7 = false ∨ e.life.x6 ≠ rule then pickGo now rule old (es.drop (i + 1)) else if ageN e now = 0 then (e.life.x0, 0) else if ageN e now = 1 then pickGo now rule e.life.x0 (es.drop (i + 1)) else pickGo now rule old (es.drop (i + 1))) := Lib.hid (by rw [drop_get he]; rfl)
      have a3 : ageN e now ≤ 2 := by unfold ageN; by_cases x1 : overB e.bytes e.life.x9 (now - e.born) e.life.x11 = true <;> by_cases x2 : overB e.bytes e.life.x8 (now - e.born) e.life.x10 = true <;> simp [x1, x2]
      clear hE hF H2 hl he hm
      generalize ageN e now = a at *
      have V0 : Hid ((acells e (wptr l))[0]? = some (.int .i64 e.life.x0)) := Lib.hid rfl
      generalize acells e (wptr l) = CS at *
      generalize l.g = g at *
      generalize e.life.x7 = z7 at *
      generalize e.life.x6 = z6 at *
      generalize e.life.x0 = z0 at *
      cases z7
      · have N : Hid (pickGo now rule old (es.drop (i + 1)) = r) := Lib.hid (by rw [← HS.out, STEP.out, if_pos (Or.inl rfl)])
        clear STEP HS C0 C2 V0 ZP
        go_wp2_with fail
        go_roundw
        case rel => exact ⟨i + 1, old, x, k, by go_num, rfl, rfl, by omega, N, HO, Lib.hid (by first | exact HB.out | exact below_drewN HB.out _)⟩
        case measure => simp [intOf]; omega
      · by_cases q : z6 = rule
        · have g1 : (z6 != rule) = false := by simp [q]
          have S2 : Hid (r = if a = 0 then (z0, 0) else if a = 1 then pickGo now rule z0 (es.drop (i + 1)) else pickGo now rule old (es.drop (i + 1))) := Lib.hid (by rw [← HS.out, STEP.out, if_neg (by simp [q])])
          clear STEP HS q
          go_wp2_with fail
          refine (C2.out _ (by first | exact Below.refl _ _ | exact below_drewN (Below.refl _ _) _)).mono ?_
          rintro er w1 ⟨rfl, hb⟩
          have hb1 : Below wr.heap.size wr w1 := hb
          have c1 := (C0.out w1 hb1).trans V0.out
          have B1 := Lib.hid (HB.out.trans (hb1.mono HB.out.size))
          clear hb hb1 C0 C2 V0
          by_cases q0 : a = 0
          · subst q0
            have E : Hid (r = (z0, 0)) := Lib.hid (by rw [S2.out]; rfl)
            clear S2
            go_wp2_with fail
            go_ret2
            exact ⟨by rw [E.out]; rfl, by first | exact B1.out | exact below_drewN B1.out _⟩
          · have g2 : ((a : Int) == 0) = false := by rw [beq_eq_false_iff_ne]; omega
            by_cases q1 : a = 1
            · subst q1
              have N : Hid (pickGo now rule z0 (es.drop (i + 1)) = r) := Lib.hid (by rw [S2.out]; rfl)
              clear S2 HO
              go_wp2_with fail
              go_roundw
              case rel => exact ⟨i + 1, z0, z0, 0, by go_num, rfl, rfl, by omega, N, Lib.hid (.inr ⟨ZP.out, rfl, rfl⟩), Lib.hid (by first | exact B1.out | exact below_drewN B1.out _)⟩
              case measure => simp [intOf]; omega
            · have g3 : ((a : Int) == 1) = false := by rw [beq_eq_false_iff_ne]; omega
              have N : Hid (pickGo now rule old (es.drop (i + 1)) = r) := Lib.hid (by rw [S2.out, if_neg q0, if_neg q1])
              clear S2 ZP
              go_wp2_with fail
              go_roundw
              case rel => exact ⟨i + 1, old, x, k, by go_num, rfl, rfl, by omega, N, HO, Lib.hid (by first | exact B1.out | exact below_drewN B1.out _)⟩
              case measure => simp [intOf]; omega
        · have g1 : (z6 != rule) = true := by simp [q]
          have N : Hid (pickGo now rule old (es.drop (i + 1)) = r) := Lib.hid (by rw [← HS.out, STEP.out, if_pos (Or.inr q)])
          clear STEP HS C0 C2 V0 q ZP
          go_wp2_with fail
          go_roundw
          case rel => exact ⟨i + 1, old, x, k, by go_num, rfl, rfl, by omega, N, HO, Lib.hid (by first | exact HB.out | exact below_drewN HB.out _)⟩
          case measure => simp [intOf]; omega
    · have e : i = n := by omega
      have E : Hid (r = if old < 0 then (0, 161) else (old, 0)) := Lib.hid (by rw [← HS.out, List.drop_eq_nil_of_le (by have := HN.out; omega)]; rfl)
      have E2 : Hid ((Ending.returned (.tuple #[.int .i64 x, .int .i64 k]) : Ending) = .returned (.tuple #[.int .i64 r.1, .int .i64 (r.2 : Int)])) := Lib.hid (by
        rw [E.out]
        rcases HO.out with ⟨a, rfl, rfl⟩ | ⟨a, rfl, rfl⟩
        · rw [if_pos a]; rfl
        · rw [if_neg (by omega)]; rfl)
      clear H2 HS AE e HO E
      go_wp2_with fail
      go_ret2
      exact ⟨E2.out, HB.out⟩
end Go.Proofs.YtppnkkpjfjhfkaaDoor.Cad3

