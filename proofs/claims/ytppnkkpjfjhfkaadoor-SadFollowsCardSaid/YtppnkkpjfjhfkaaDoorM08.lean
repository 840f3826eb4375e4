/- The document's Pick. -/
import Derived.Test.YtppnkkpjfjhfkaaDoorM07
import Derived.LoopTactic
set_option linter.unusedVariables false
namespace Go.Proofs.YtppnkkpjfjhfkaaDoor.SadR4
open Go.RowKit Go.Proofs.YtppnkkpjfjhfkaaDoor.Mem Go.Proofs.YtppnkkpjfjhfkaaDoor.Blk Go.Proofs.YtppnkkpjfjhfkaaDoor.ArgT Go.Proofs.YtppnkkpjfjhfkaaDoor.Longs Go.Proofs.YtppnkkpjfjhfkaaDoor.WinR Go.Proofs.YtppnkkpjfjhfkaaDoor.SadM Go.Proofs.YtppnkkpjfjhfkaaDoor.SadR1 Go.Proofs.YtppnkkpjfjhfkaaDoor.SadR2 Go.Proofs.YtppnkkpjfjhfkaaDoor.SadR3

def pickGo (now rule : Int) : Int → List Ent → Int × Nat
  | old, [] => if old < 0 then (0, 161) else (old, 0)
  | old, e :: t => if e.life.x7 = false ∨ e.life.x6 ≠ rule then pickGo now rule old t else if ageN e now = 0 then (e.life.x0, 0) else if ageN e now = 1 then pickGo now rule e.life.x0 t else pickGo now rule old t
def pickS (now rule : Int) (es : List Ent) : Int × Nat := pickGo now rule (-1) es
theorem drop_get {es : List Ent} {i : Nat} {e : Ent} (h : es[i]? = some e) : es.drop i = e :: es.drop (i + 1) := by
  obtain ⟨hlt, rfl⟩ := List.getElem?_eq_some_iff.1 h
  exact List.drop_eq_getElem_cons hlt

set_option maxHeartbeats 2000000 in
theorem pick_ref (base gs : Nat) (vl : Value) (ls : List Spot) (es : List Ent) (now rule : Int) (w : World) (h : SadAt w base gs vl ls es) (hn : es.length ≤ 1048576) (hcm : NowOk now es) :
    Calls Tryd.prog 26 #[.pointer (some ⟨gs, 0, none⟩), .int .i64 now, .int .i64 rule] w fun er w' => er = .returned (.tuple #[.int .i64 (pickS now rule es).1, .int .i64 ((pickS now rule es).2 : Int)]) ∧ Below w.heap.size w w' := by
  obtain ⟨A, c, rfl, hA⟩ := h.own.shape
  obtain ⟨n, hn0⟩ : ∃ n, n = es.length := ⟨_, rfl⟩
  have hl : (ls.map (·.g)).length = n := by rw [List.length_map, h.len, hn0]
  rw [hl] at h hA
  rw [← hn0] at hn
  have H := Lib.hid h
  have HN := Lib.hid hn0
  have CM := Lib.hid hcm
  obtain ⟨r, hr⟩ : ∃ r, r = pickS now rule es := ⟨_, rfl⟩
  have AE : Hid (pickGo now rule (-1) (es.drop 0) = r) := Lib.hid (by rw [hr, List.drop_zero]; rfl)
  rw [← hr]
  clear h hA hl hn0 hr hcm
  go_enter Tryd.func26, Tryd.ntmps26
  go_wp2_with fail
  go_loopw [8, 9, 10] (fun ov iv xv wr => ∃ (i : Nat) (old : Int), iv = .int .i64 (i : Int) ∧ ov = .int .i64 old ∧ i ≤ n ∧ Hid (pickGo now rule old (es.drop i) = r) ∧ Hid (Below w.heap.size w wr)) (fun _ iv _ _ => n - (intOf iv).toNat)
  case atStart => exact ⟨0, -1, rfl, rfl, by omega, AE, Lib.hid (Below.refl _ _)⟩
  case round =>
    obtain ⟨i, old, rfl, rfl, hi, HS, HB⟩ := hrel
    have H2 := H.out.up HB.out
    have c0 : wr.cell? ⟨gs, 0, none⟩ = some (.slice A n c) := H2.blk.cell 0
    by_cases hlt : i < n
    · have he : es[i]? = some (es[i]'(by rw [← HN.out]; exact hlt)) := List.getElem?_eq_getElem _
      have hm : es[i]'(by rw [← HN.out]; exact hlt) ∈ es := List.getElem_mem _
      have hl : ls[i]? = some (ls[i]'(by rw [H2.len, ← HN.out]; exact hlt)) := List.getElem?_eq_getElem _
      generalize es[i]'(by rw [← HN.out]; exact hlt) = e at he hm
      generalize ls[i]'(by rw [H2.len, ← HN.out]; exact hlt) = l at hl
      obtain ⟨A', c', hv, hA'⟩ := H2.own.shape
      have hlen : (ls.map (·.g)).length = n := by rw [List.length_map, H2.len, ← HN.out]
      rw [hlen] at hv hA'
      cases hv
      obtain ⟨b, rfl, hc⟩ := hA' (by omega)
      have cp : wr.cell? ⟨b, i, none⟩ = some (.pointer (some ⟨l.g, 0, none⟩)) := hc i l.g (by rw [List.getElem?_map, hl]; rfl)
      have hE := (H2.ent i l e hl he).1
      have ce6 : wr.cell? ⟨l.g, 6, none⟩ = some (.int .i64 e.life.x6) := hE.cell 6
      have ce7 : wr.cell? ⟨l.g, 7, none⟩ = some (.bool e.life.x7) := hE.cell 7
      have HX := Lib.hid hE
      have C1 := Lib.hid (age1_ref e l.g l.gw now wr hE (CM.out e hm))
      have C2 := Lib.hid (fun W (hW : Below wr.heap.size wr W) => age1_ref e l.g l.gw now W (Blk.below hE hW (Blk.lt hE)) (CM.out e hm))
      have C0 := Lib.hid (fun W (hW : Below wr.heap.size wr W) => (Blk.below hE hW (Blk.lt hE)).cell 0)
      have STEP : Hid (pickGo now rule old (es.drop i) = if e.life.x7 = false ∨ e.life.x6 ≠ rule then pickGo now rule old (es.drop (i + 1)) else if ageN e now = 0 then (e.life.x0, 0) else if ageN e now = 1 then pickGo now rule e.life.x0 (es.drop (i + 1)) else pickGo now rule old (es.drop (i + 1))) := Lib.hid (by rw [drop_get he]; rfl)
      have a3 : ageN e now ≤ 2 := by unfold ageN; by_cases x1 : overB e.bytes e.life.x9 (now - e.born) e.life.x11 = true <;> by_cases x2 : overB e.bytes e.life.x8 (now - e.born) e.life.x10 = true <;> simp [x1, x2]
      clear hE hc hA' hlen H2 hl he hm HX
      generalize ageN e now = a at *
      have V0 : Hid ((ecells e l.gw)[0]? = some (.int .i64 e.life.x0)) := Lib.hid rfl
      generalize ecells e l.gw = CS at *
      generalize l.g = g at *
      generalize e.life.x7 = z7 at *
      generalize e.life.x6 = z6 at *
      generalize e.life.x0 = z0 at *
      cases z7
      · have N : Hid (pickGo now rule old (es.drop (i + 1)) = r) := Lib.hid (by rw [← HS.out, STEP.out, if_pos (Or.inl rfl)])
        clear STEP HS C0 C1 C2 V0
        go_wp2_with fail
        go_roundw
        case rel => exact ⟨i + 1, old, by go_num, rfl, by omega, N, Lib.hid (by first | exact HB.out | exact below_drewN HB.out _)⟩
        case measure => simp [intOf]; omega
      · by_cases q : z6 = rule
        · have g1 : (z6 != rule) = false := by simp [q]
          have S2 : Hid (r = if a = 0 then (z0, 0) else if a = 1 then pickGo now rule z0 (es.drop (i + 1)) else pickGo now rule old (es.drop (i + 1))) := Lib.hid (by rw [← HS.out, STEP.out, if_neg (by simp [q])])
          clear STEP HS q
          go_wp2_with fail
          refine (C2.out _ (by first | exact Below.refl _ _ | exact below_drewN (Below.refl _ _) _)).mono ?_
          rintro er w1 ⟨rfl, hb⟩
          have hb1 : Below wr.heap.size wr w1 := hb
          have c1 := (C0.out w1 hb1).trans V0.out
          have K1 := Lib.hid hb1
          have C3 := Lib.hid (C2.out w1 hb1)
          have C4 := Lib.hid (fun W (hW : Below w1.heap.size w1 W) => (C0.out W (hb1.trans (hW.mono hb1.size))).trans V0.out)
          have B1 := Lib.hid (HB.out.trans (hb1.mono HB.out.size))
          clear hb hb1 C0 C1 C2 V0
          by_cases q0 : a = 0
          · subst q0
            have E : Hid (r = (z0, 0)) := Lib.hid (by rw [S2.out]; rfl)
            clear S2
            go_wp2_with fail
            go_ret2
            exact ⟨by rw [E.out]; rfl, by first | exact B1.out | exact below_drewN B1.out _⟩
          · have g2 : ((a : Int) == 0) = false := by rw [beq_eq_false_iff_ne]; omega
            go_wp2_with fail
            refine C3.out.mono ?_
            rintro er w2 ⟨rfl, hb⟩
            have c2 := C4.out w2 hb
            have B2 := Lib.hid (B1.out.trans (hb.mono B1.out.size))
            clear hb C3 C4
            by_cases q1 : a = 1
            · subst q1
              have N : Hid (pickGo now rule z0 (es.drop (i + 1)) = r) := Lib.hid (by rw [S2.out]; rfl)
              clear S2
              go_wp2_with fail
              go_roundw
              case rel => exact ⟨i + 1, z0, by go_num, rfl, by omega, N, Lib.hid (by first | exact B2.out | exact below_drewN B2.out _)⟩
              case measure => simp [intOf]; omega
            · have g3 : ((a : Int) == 1) = false := by rw [beq_eq_false_iff_ne]; omega
              have N : Hid (pickGo now rule old (es.drop (i + 1)) = r) := Lib.hid (by rw [S2.out, if_neg q0, if_neg q1])
              clear S2
              go_wp2_with fail
              go_roundw
              case rel => exact ⟨i + 1, old, by go_num, rfl, by omega, N, Lib.hid (by first | exact B2.out | exact below_drewN B2.out _)⟩
              case measure => simp [intOf]; omega
        · have g1 : (z6 != rule) = true := by simp [q]
          have N : Hid (pickGo now rule old (es.drop (i + 1)) = r) := Lib.hid (by rw [← HS.out, STEP.out, if_pos (Or.inr q)])
          clear STEP HS C0 C1 C2 V0 q
          go_wp2_with fail
          go_roundw
          case rel => exact ⟨i + 1, old, by go_num, rfl, by omega, N, Lib.hid (by first | exact HB.out | exact below_drewN HB.out _)⟩
          case measure => simp [intOf]; omega
    · have e : i = n := by omega
      have E : Hid (r = if old < 0 then (0, 161) else (old, 0)) := Lib.hid (by rw [← HS.out, List.drop_eq_nil_of_le (by have := HN.out; omega)]; rfl)
      clear H2 HS AE e
      by_cases q : old < 0
      · have g1 : decide (old < 0) = true := decide_eq_true q
        go_wp2_with fail
        go_ret2
        exact ⟨by rw [E.out, if_pos q]; rfl, HB.out⟩
      · have g1 : decide (old < 0) = false := decide_eq_false q
        go_wp2_with fail
        go_ret2
        exact ⟨by rw [E.out, if_neg (by omega)]; rfl, HB.out⟩
end Go.Proofs.YtppnkkpjfjhfkaaDoor.SadR4

