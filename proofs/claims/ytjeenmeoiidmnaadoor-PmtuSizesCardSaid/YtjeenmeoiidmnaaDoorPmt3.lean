/- Inner: the code's, the document's. -/
import Derived.Test.YtjeenmeoiidmnaaDoorPmt2
set_option linter.unusedVariables false
set_option maxRecDepth 100000
namespace Go.Proofs.YtjeenmeoiidmnaaDoor.Pmt3
open Go.RowKit Go.Proofs.YtjeenmeoiidmnaaDoor.Sums Go.Proofs.YtjeenmeoiidmnaaDoor.Mem Go.Proofs.YtjeenmeoiidmnaaDoor.Blk Go.Proofs.YtjeenmeoiidmnaaDoor.Free Go.Proofs.YtjeenmeoiidmnaaDoor.Steps Go.Proofs.YtjeenmeoiidmnaaDoor.PmtM Go.Proofs.YtjeenmeoiidmnaaDoor.Pmt1 Go.Proofs.YtjeenmeoiidmnaaDoor.Pmt2

theorem head_b (b : Bool) : 20 ≤ headI b ∧ headI b ≤ 40 := by unfold headI; split <;> omega
theorem top_b {mtu : Int} {b : Bool} (h : mtu ≤ 500000) : -1 ≤ top mtu b ∧ top mtu b ≤ 500000 := by
  refine ⟨top_ge, ?_⟩
  by_cases h0 : 0 < mtu
  · have := top_lt (wide := b) h0; omega
  · have := @top_neg mtu b (by omega); omega
set_option maxHeartbeats 2000000 in
theorem inner_c (mtu : Int) (b t : Bool) (w : World) (h1 : mtu ≤ 500000) (hT : Tab w) : Calls Tryd.prog 18 #[.int .i64 mtu, .bool b, .bool t] w fun e w' => e = .returned (.int .i64 (inner mtu b t)) ∧ Below w.heap.size w w' := by
  have B0 := (((Below.refl w.heap.size w).alloc (Nat.le_refl _) (.cells #[.int .i64 mtu] 3)).alloc (by simp) (.cells #[.bool b] 4)).alloc (by simp; omega) (.cells #[.bool t] 4)
  have K0 : Blk (((w.alloc (.cells #[.int .i64 mtu] 3)).alloc (.cells #[.bool b] 4)).alloc (.cells #[.bool t] 4)) w.heap.size 3 #[.int .i64 mtu] :=
    Blk.alloc (Blk.alloc (Blk.new w 3 #[.int .i64 mtu]) _) _
  have K1 : Blk (((w.alloc (.cells #[.int .i64 mtu] 3)).alloc (.cells #[.bool b] 4)).alloc (.cells #[.bool t] 4)) (w.heap.size + 1) 4 #[.bool b] := by
    have := Blk.alloc (Blk.new (w.alloc (.cells #[.int .i64 mtu] 3)) 4 #[.bool b]) (.cells #[.bool t] 4)
    simpa using this
  have K2 : Blk (((w.alloc (.cells #[.int .i64 mtu] 3)).alloc (.cells #[.bool b] 4)).alloc (.cells #[.bool t] 4)) (w.heap.size + 2) 4 #[.bool t] := by
    have := Blk.new ((w.alloc (.cells #[.int .i64 mtu] 3)).alloc (.cells #[.bool b] 4)) 4 #[.bool t]
    simpa using this
  have KC := Lib.hid (Caps.mk (p := w.heap.size + 1) (q := w.heap.size + 2) K1 K2 K0 (hT.up B0 (Nat.le_refl _)))
  have k0 := K0.cell 0
  have B1 := Lib.hid B0
  obtain ⟨T, hT0⟩ : ∃ T, top mtu b = T := ⟨_, rfl⟩
  have TB := top_b (b := b) h1
  have SC := Lib.hid (search_c mtu b t (w.heap.size + 1) (w.heap.size + 2) w.heap.size _ (by omega) KC.out)
  rw [hT0] at SC TB
  have HT0 := Lib.hid hT0
  have FH := Lib.hid (fun (W : World) (k : Tab W) => header_c b W k)
  have f1 : IntKind.i64.wrap (T + 1 - 1) = T := by rw [IntWalk.i64_in _ (by omega)]; omega
  have hb := head_b b
  have HB0 := Lib.hid hb
  have TBH := Lib.hid TB
  clear B0 K0 K1 K2 hT hT0
  go_enter Tryd.func18, Tryd.ntmps18
  go_wp2_with fail
  refine SC.out.mono ?_
  rintro e w2 ⟨rfl, hb2⟩
  have C2 := Lib.hid (KC.out.below hb2)
  have B2 := Lib.hid (B1.out.trans (hb2.mono B1.out.size))
  have c1 := C2.out.wide.cell 0
  have c2 := C2.out.tun.cell 0
  have T2 := C2.out.tab
  clear SC hb2 k0 KC B1
  by_cases q : T < 0
  · have g : decide (T < 0) = true := decide_eq_true q
    have E : Hid (inner mtu b t = 0) := Lib.hid (by unfold inner; rw [HT0.out, if_pos q])
    clear q
    go_wp2_with fail
    go_ret
    exact ⟨by rw [E.out]; rfl, B2.out⟩
  · have g : decide (T < 0) = false := decide_eq_false q
    cases t with
    | true =>
      have E : Hid (inner mtu b true = T) := Lib.hid (by unfold inner; rw [HT0.out, if_neg q, if_pos rfl])
      clear q
      go_wp2_with fail
      go_ret
      exact ⟨by rw [E.out]; rfl, B2.out⟩
    | false =>
      have E : Hid (inner mtu b false = T + headI b) := Lib.hid (by unfold inner; rw [HT0.out, if_neg q, if_neg (by simp)])
      have F2 := Lib.hid (FH.out w2 T2)
      have f2 : IntKind.i64.wrap (T + headI b) = T + headI b := IntWalk.i64_in _ (by omega)
      clear q T2
      go_wp2_with fail
      refine F2.out.mono ?_
      rintro e w3 ⟨rfl, rfl⟩
      go_wp2_with fail
      go_ret
      exact ⟨by rw [E.out]; rfl, B2.out⟩
set_option maxHeartbeats 2000000 in
theorem inner_r (mtu : Int) (b t : Bool) (w : World) (h1 : mtu ≤ 500000) : Calls Tryd.prog 19 #[.int .i64 mtu, .bool b, .bool t] w fun e w' => e = .returned (.int .i64 (inner mtu b t)) ∧ w = w' := by
  obtain ⟨T, hT0⟩ : ∃ T, top mtu b = T := ⟨_, rfl⟩
  have TB := top_b (b := b) h1
  rw [hT0] at TB
  have HT0 := Lib.hid hT0
  have TBH := Lib.hid TB
  have hb := head_b b
  have HB0 := Lib.hid hb
  have FH := Lib.hid (head_r b w)
  have OC := Lib.hid (fun (n : Int) (h : n ≤ 1000000) => outer_r n b t h w)
  have OF := Lib.hid (fun (n : Int) (h : 0 ≤ n) => @outer_fits n mtu b h)
  rw [hT0] at OF
  clear hT0 TB hb h1
  go_enter Tryd.func19, Tryd.ntmps19
  go_wp2_with fail
  go_loopw [7] (fun nv wr => ∃ n : Int, nv = .int .i64 n ∧ Hid (-1 ≤ n ∧ n ≤ T) ∧ Hid (w = wr)) (fun nv _ => (T - intOf nv).toNat)
  case atStart => exact ⟨-1, rfl, Lib.hid ⟨Int.le_refl _, TBH.out.1⟩, Lib.hid rfl⟩
  case round =>
    obtain ⟨n, rfl, HN, HW⟩ := hrel
    obtain rfl := HW.out
    obtain ⟨n1, n2⟩ := HN.out
    obtain ⟨t1, t2⟩ := TBH.out
    have f1 : IntKind.i64.wrap (n + 1) = n + 1 := IntWalk.i64_in _ (by omega)
    have C := Lib.hid (OC.out (n + 1) (by omega))
    have G0 := Lib.hid (OF.out (n + 1) (by omega))
    obtain ⟨z, hz⟩ : ∃ z, decide (outer (n + 1) b ≤ mtu) = z := ⟨_, rfl⟩
    have ZZ := Lib.hid hz
    clear n1 n2 t1 t2
    go_wp2_with fail
    refine C.out.mono ?_
    rintro e w2 ⟨rfl, rfl⟩
    clear C
    cases z with
    | true =>
      have HN2 : Hid (-1 ≤ n + 1 ∧ n + 1 ≤ T) := Lib.hid (by
        have := HN.out
        have := G0.out.1 (of_decide_eq_true ZZ.out)
        omega)
      have MM : Hid ((T - (n + 1)).toNat < (T - n).toNat) := Lib.hid (by have := HN.out; have := HN2.out; omega)
      clear HN ZZ G0
      go_wp2_with fail
      go_roundw
      case rel => exact ⟨n + 1, rfl, HN2, Lib.hid (by first | rfl | trivial)⟩
      case measure => simpa [intOf] using MM.out
    | false =>
      have EN : n = T := by
        have h1 := HN.out
        have h2 := of_decide_eq_false ZZ.out
        rcases Int.lt_or_le n T with q | q
        · exact absurd (G0.out.2 (by omega)) h2
        · omega
      have TB2 := TBH.out
      subst EN
      clear HN ZZ G0 f1
      by_cases q : n < 0
      · have g : decide (n < 0) = true := decide_eq_true q
        have E : Hid (inner mtu b t = 0) := Lib.hid (by unfold inner; rw [HT0.out, if_pos q])
        clear q TB2
        go_wp2_with fail
        go_ret
        exact ⟨by rw [E.out]; rfl, rfl⟩
      · have g : decide (n < 0) = false := decide_eq_false q
        cases t with
        | true =>
          have E : Hid (inner mtu b true = n) := Lib.hid (by unfold inner; rw [HT0.out, if_neg q, if_pos rfl])
          clear q TB2
          go_wp2_with fail
          go_ret
          exact ⟨by rw [E.out]; rfl, rfl⟩
        | false =>
          have E : Hid (inner mtu b false = n + headI b) := Lib.hid (by unfold inner; rw [HT0.out, if_neg q, if_neg (by simp)])
          have hh := HB0.out
          have f2 : IntKind.i64.wrap (n + headI b) = n + headI b := IntWalk.i64_in _ (by omega)
          clear q TB2
          go_wp2_with fail
          refine FH.out.mono ?_
          rintro e w3 ⟨rfl, rfl⟩
          go_wp2_with fail
          go_ret
          exact ⟨by rw [E.out]; rfl, rfl⟩
end Go.Proofs.YtjeenmeoiidmnaaDoor.Pmt3
