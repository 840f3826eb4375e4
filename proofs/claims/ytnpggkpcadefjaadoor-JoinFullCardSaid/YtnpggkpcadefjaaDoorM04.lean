/- The code's has, refuses. -/
import Derived.Test.YtnpggkpcadefjaaDoorM03
import Derived.Test.YtnpggkpcadefjaaDoorM11
import Derived.LoopTactic
set_option linter.unusedVariables false
set_option maxRecDepth 100000
namespace Go.Proofs.YtnpggkpcadefjaaDoor.Jc4
open Go.RowKit Go.Proofs.YtnpggkpcadefjaaDoor.Sums Go.Proofs.YtnpggkpcadefjaaDoor.Mem Go.Proofs.YtnpggkpcadefjaaDoor.Blk Go.Proofs.YtnpggkpcadefjaaDoor.Pkt Go.Proofs.YtnpggkpcadefjaaDoor.Check Go.Proofs.YtnpggkpcadefjaaDoor.JoiM Go.Proofs.YtnpggkpcadefjaaDoor.JoiC Go.Proofs.YtnpggkpcadefjaaDoor.RowN Go.Proofs.YtnpggkpcadefjaaDoor.RowA Go.Proofs.YtnpggkpcadefjaaDoor.SplP Go.Proofs.YtnpggkpcadefjaaDoor.Spl5 Go.Proofs.YtnpggkpcadefjaaDoor.MapL Go.Proofs.YtnpggkpcadefjaaDoor.Jc1 Go.Proofs.YtnpggkpcadefjaaDoor.Jc2 Go.Proofs.YtnpggkpcadefjaaDoor.Jc3 Go.Proofs.YtnpggkpcadefjaaDoor.Cat

/-- Pieces in a row, to be read. -/
structure PR (w : World) (A : Option Addr) (c : Nat) (zs : List Pc) : Prop where
  row : RowAt PT 11 w A zs.length c (flat zs)
  dat : ∀ z ∈ zs, Owns w 0 z.2 z.1.2.length z.1.2
theorem PR.below {w w' : World} {A : Option Addr} {c : Nat} {zs : List Pc} (h : PR w A c zs) (hb : Below w.heap.size w w') : PR w' A c zs := ⟨h.row.below hb, fun z hz => (h.dat z hz).below hb (Nat.le_refl _)⟩
theorem RAt.pr {F : Nat → Prop} {T : Nat → Nat} {w : World} {e : Nat} {A : Option Addr} {c : Nat} {zs : List Pc} (h : RAt F T w e A c zs) : PR w A c zs := ⟨h.row, fun z hz => (h.dat z hz).1⟩
theorem PR.at_ {w : World} {A : Option Addr} {c : Nat} {zs : List Pc} (h : PR w A c zs) {k : Nat} {z : Pc} (hk : zs[k]? = some z) : ∃ b A' c', A = some ⟨b, 0, none⟩ ∧ b < w.heap.size ∧ Part.At w b (k * 11) (pcCells z.1.1 z.2) ∧ z.2 = .slice A' z.1.2.length c' ∧ Holds w w.heap.size A' z.1.2.length c' z.1.2 := by
  have hlt := (List.getElem?_eq_some_iff.1 hk).1
  obtain ⟨b, X, hA, hX, _, _⟩ := h.row.some (by omega)
  obtain ⟨A', c', e, hh⟩ := (h.dat z (List.mem_of_getElem? hk)).slice
  exact ⟨b, A', c', hA, hX.lt, fun j v hv => h.row.cell hA (flat_at zs k z hk j v hv), e, hh⟩
set_option maxHeartbeats 2000000 in
theorem idx_has (g : Nat) (A : Option Addr) (c : Nat) (zs : List Pc) (φ : Frag → Bool) (w : World) (h : PR w A c zs) (hn : zs.length ≤ 1000) (SC : ∀ W, Below w.heap.size w W → ∀ z ∈ zs, Calls Tryd.prog 61 #[val z.1.1 z.2, .pointer (some ⟨g, 0, none⟩)] W fun e w' => e = .returned (.bool (φ z.1)) ∧ Below W.heap.size W w') :
    Calls Tryd.prog 72 #[.slice A zs.length c, .func (.func 61) #[] #[.pointer (some ⟨g, 0, none⟩)]] w fun e w' => (∃ r : Int, e = .returned (.int .i64 r) ∧ decide (0 ≤ r) = zs.any (fun z => φ z.1)) ∧ Below w.heap.size w w' := by
  obtain ⟨n, hn0⟩ : ∃ n, zs.length = n := ⟨_, rfl⟩
  have HH := Lib.hid h
  have LN := Lib.hid hn0
  have HN := Lib.hid hn
  have SC := Lib.hid SC
  rw [hn0] at hn
  rw [hn0]
  clear h hn0
  unfold val at SC
  go_enter Tryd.func72, Tryd.ntmps72
  go_wp2_with fail
  go_loopw [8] (fun iv wr => ∃ j : Nat, iv = .int .i64 (j : Int) ∧ j ≤ n ∧ Hid (∀ k z, k < j → zs[k]? = some z → φ z.1 = false) ∧ Hid (Below w.heap.size w wr)) (fun iv _ => n - (intOf iv).toNat)
  case atStart => exact ⟨0, rfl, by omega, Lib.hid (fun k z hk => by omega), Lib.hid (Below.refl _ _)⟩
  case round =>
    obtain ⟨j, rfl, hj, HA, HB⟩ := hrel
    by_cases lt : j < n
    · obtain ⟨z, hz⟩ : ∃ z, zs[j]? = some z := ⟨_, List.getElem?_eq_getElem (by rw [LN.out]; exact lt)⟩
      obtain ⟨b, A', c', rfl, hlt, hat, -, -⟩ := (HH.out.below HB.out).at_ hz
      obtain ⟨⟨q, lq⟩, dq⟩ := z
      have RP := Lib.hid (Part.run_part wr b (j * 11) PT [.int .i64 q.tos, .int .i64 q.id, .int .i64 q.ttl, .int .i64 q.proto, .bool q.df, .bool q.mf, .int .i64 q.off, .string q.src, .string q.dst, .string q.opt, dq] _ Tryd.underlying32 rfl (by kernel_rfl) hat)
      have CC := Lib.hid (SC.out wr HB.out _ (List.mem_of_getElem? hz))
      have HZ := Lib.hid hz
      have f1 : decide (j < n) = true := decide_eq_true lt
      have f2 : IntKind.i64.wrap ((j : Int) + 1) = ((j + 1 : Nat) : Int) := by rw [IntWalk.i64_in _ (by omega)]; omega
      obtain ⟨u, hu⟩ : ∃ u, φ (q, lq) = u := ⟨_, rfl⟩
      have HU := Lib.hid hu
      dsimp only at CC
      rw [hu] at CC
      clear hz hat hu hlt
      go_wp2_with (refine Store.at_load 32 (.tmp 14) ?_ ?_; exact rfl; refine Part.wpList_load_part rfl 32 (.tmp 14) rfl b (j * 11) [.int .i64 q.tos, .int .i64 q.id, .int .i64 q.ttl, .int .i64 q.proto, .bool q.df, .bool q.mf, .int .i64 q.off, .string q.src, .string q.dst, .string q.opt, dq] rfl (RP.out) ?_)
      refine CC.out.mono ?_
      rintro e w2 ⟨rfl, hb⟩
      have B2 := Lib.hid (HB.out.trans (hb.mono HB.out.size))
      clear hb CC RP
      cases u
      · have HA2 : Hid (∀ k z, k < j + 1 → zs[k]? = some z → φ z.1 = false) := Lib.hid fun k z hk hz => by
          rcases Nat.lt_or_ge k j with y | y
          · exact HA.out k z y hz
          · obtain rfl : k = j := by omega
            rw [HZ.out] at hz
            cases hz
            exact HU.out
        clear HA
        go_wp2_with fail
        go_roundw
        case rel => exact ⟨j + 1, by go_num, by omega, HA2, B2⟩
        case measure => simp [intOf]; omega
      · go_wp2_with fail
        go_ret
        refine ⟨⟨_, rfl, ?_⟩, B2.out⟩
        have : zs.any (fun z => φ z.1) = true := List.any_eq_true.2 ⟨_, List.mem_of_getElem? HZ.out, HU.out⟩
        rw [this]
        exact decide_eq_true (by omega)
    · obtain rfl : j = n := by omega
      have f1 : decide (j < j) = false := decide_eq_false (by omega)
      go_wp2_with fail
      go_ret
      refine ⟨⟨_, rfl, ?_⟩, HB.out⟩
      have : zs.any (fun z => φ z.1) = false := by
        cases y : zs.any (fun z => φ z.1) with
        | false => rfl
        | true =>
          obtain ⟨z, hz, e⟩ := List.any_eq_true.1 y
          obtain ⟨k, hk⟩ := List.mem_iff_getElem?.1 hz
          have := HA.out k z (by have := (List.getElem?_eq_some_iff.1 hk).1; rw [LN.out] at this; exact this) hk
          rw [this] at e
          cases e
      rw [this]
      rfl
theorem cont_has (g : Nat) (A : Option Addr) (c : Nat) (zs : List Pc) (φ : Frag → Bool) (w : World) (h : PR w A c zs) (hn : zs.length ≤ 1000) (SC : ∀ W, Below w.heap.size w W → ∀ z ∈ zs, Calls Tryd.prog 61 #[val z.1.1 z.2, .pointer (some ⟨g, 0, none⟩)] W fun e w' => e = .returned (.bool (φ z.1)) ∧ Below W.heap.size W w') :
    Calls Tryd.prog 60 #[.slice A zs.length c, .func (.func 61) #[] #[.pointer (some ⟨g, 0, none⟩)]] w fun e w' => e = .returned (.bool (zs.any (fun z => φ z.1))) ∧ Below w.heap.size w w' := by
  have IC := Lib.hid (idx_has g A c zs φ w h hn SC)
  clear SC h
  obtain ⟨n, hn0⟩ : ∃ n, zs.length = n := ⟨_, rfl⟩
  obtain ⟨u, hu⟩ : ∃ u, zs.any (fun z => φ z.1) = u := ⟨_, rfl⟩
  rw [hn0, hu] at IC
  rw [hn0, hu]
  clear hn0 hu hn
  go_enter Tryd.func60, Tryd.ntmps60
  go_wp2_with fail
  refine IC.out.mono ?_
  rintro e w2 ⟨⟨r, rfl, hr⟩, hb⟩
  have hr2 : decide ((0 : Int) ≤ r) = u := hr
  clear IC hr
  go_wp2_with fail
  go_ret
  exact ⟨rfl, hb⟩
set_option maxHeartbeats 2000000 in
theorem idx_ref (g : Nat) (A : Option Addr) (c : Nat) (zs : List Pc) (φ : Frag → Bool) (w : World) (h : PR w A c zs) (hn : zs.length ≤ 1000) (SC : ∀ W, Below w.heap.size w W → ∀ z ∈ zs, Calls Tryd.prog 63 #[val z.1.1 z.2, .pointer (some ⟨g, 0, none⟩)] W fun e w' => e = .returned (.bool (φ z.1)) ∧ Below W.heap.size W w') :
    Calls Tryd.prog 72 #[.slice A zs.length c, .func (.func 63) #[] #[.pointer (some ⟨g, 0, none⟩)]] w fun e w' => (∃ r : Int, e = .returned (.int .i64 r) ∧ decide (0 ≤ r) = zs.any (fun z => φ z.1)) ∧ Below w.heap.size w w' := by
  obtain ⟨n, hn0⟩ : ∃ n, zs.length = n := ⟨_, rfl⟩
  have HH := Lib.hid h
  have LN := Lib.hid hn0
  have HN := Lib.hid hn
  have SC := Lib.hid SC
  rw [hn0] at hn
  rw [hn0]
  clear h hn0
  unfold val at SC
  go_enter Tryd.func72, Tryd.ntmps72
  go_wp2_with fail
  go_loopw [8] (fun iv wr => ∃ j : Nat, iv = .int .i64 (j : Int) ∧ j ≤ n ∧ Hid (∀ k z, k < j → zs[k]? = some z → φ z.1 = false) ∧ Hid (Below w.heap.size w wr)) (fun iv _ => n - (intOf iv).toNat)
  case atStart => exact ⟨0, rfl, by omega, Lib.hid (fun k z hk => by omega), Lib.hid (Below.refl _ _)⟩
  case round =>
    obtain ⟨j, rfl, hj, HA, HB⟩ := hrel
    by_cases lt : j < n
    · obtain ⟨z, hz⟩ : ∃ z, zs[j]? = some z := ⟨_, List.getElem?_eq_getElem (by rw [LN.out]; exact lt)⟩
      obtain ⟨b, A', c', rfl, hlt, hat, -, -⟩ := (HH.out.below HB.out).at_ hz
      obtain ⟨⟨q, lq⟩, dq⟩ := z
      have RP := Lib.hid (Part.run_part wr b (j * 11) PT [.int .i64 q.tos, .int .i64 q.id, .int .i64 q.ttl, .int .i64 q.proto, .bool q.df, .bool q.mf, .int .i64 q.off, .string q.src, .string q.dst, .string q.opt, dq] _ Tryd.underlying32 rfl (by kernel_rfl) hat)
      have CC := Lib.hid (SC.out wr HB.out _ (List.mem_of_getElem? hz))
      have HZ := Lib.hid hz
      have f1 : decide (j < n) = true := decide_eq_true lt
      have f2 : IntKind.i64.wrap ((j : Int) + 1) = ((j + 1 : Nat) : Int) := by rw [IntWalk.i64_in _ (by omega)]; omega
      obtain ⟨u, hu⟩ : ∃ u, φ (q, lq) = u := ⟨_, rfl⟩
      have HU := Lib.hid hu
      dsimp only at CC
      rw [hu] at CC
      clear hz hat hu hlt
      go_wp2_with (refine Store.at_load 32 (.tmp 14) ?_ ?_; exact rfl; refine Part.wpList_load_part rfl 32 (.tmp 14) rfl b (j * 11) [.int .i64 q.tos, .int .i64 q.id, .int .i64 q.ttl, .int .i64 q.proto, .bool q.df, .bool q.mf, .int .i64 q.off, .string q.src, .string q.dst, .string q.opt, dq] rfl (RP.out) ?_)
      refine CC.out.mono ?_
      rintro e w2 ⟨rfl, hb⟩
      have B2 := Lib.hid (HB.out.trans (hb.mono HB.out.size))
      clear hb CC RP
      cases u
      · have HA2 : Hid (∀ k z, k < j + 1 → zs[k]? = some z → φ z.1 = false) := Lib.hid fun k z hk hz => by
          rcases Nat.lt_or_ge k j with y | y
          · exact HA.out k z y hz
          · obtain rfl : k = j := by omega
            rw [HZ.out] at hz
            cases hz
            exact HU.out
        clear HA
        go_wp2_with fail
        go_roundw
        case rel => exact ⟨j + 1, by go_num, by omega, HA2, B2⟩
        case measure => simp [intOf]; omega
      · go_wp2_with fail
        go_ret
        refine ⟨⟨_, rfl, ?_⟩, B2.out⟩
        have : zs.any (fun z => φ z.1) = true := List.any_eq_true.2 ⟨_, List.mem_of_getElem? HZ.out, HU.out⟩
        rw [this]
        exact decide_eq_true (by omega)
    · obtain rfl : j = n := by omega
      have f1 : decide (j < j) = false := decide_eq_false (by omega)
      go_wp2_with fail
      go_ret
      refine ⟨⟨_, rfl, ?_⟩, HB.out⟩
      have : zs.any (fun z => φ z.1) = false := by
        cases y : zs.any (fun z => φ z.1) with
        | false => rfl
        | true =>
          obtain ⟨z, hz, e⟩ := List.any_eq_true.1 y
          obtain ⟨k, hk⟩ := List.mem_iff_getElem?.1 hz
          have := HA.out k z (by have := (List.getElem?_eq_some_iff.1 hk).1; rw [LN.out] at this; exact this) hk
          rw [this] at e
          cases e
      rw [this]
      rfl
theorem cont_ref (g : Nat) (A : Option Addr) (c : Nat) (zs : List Pc) (φ : Frag → Bool) (w : World) (h : PR w A c zs) (hn : zs.length ≤ 1000) (SC : ∀ W, Below w.heap.size w W → ∀ z ∈ zs, Calls Tryd.prog 63 #[val z.1.1 z.2, .pointer (some ⟨g, 0, none⟩)] W fun e w' => e = .returned (.bool (φ z.1)) ∧ Below W.heap.size W w') :
    Calls Tryd.prog 60 #[.slice A zs.length c, .func (.func 63) #[] #[.pointer (some ⟨g, 0, none⟩)]] w fun e w' => e = .returned (.bool (zs.any (fun z => φ z.1))) ∧ Below w.heap.size w w' := by
  have IC := Lib.hid (idx_ref g A c zs φ w h hn SC)
  clear SC h
  obtain ⟨n, hn0⟩ : ∃ n, zs.length = n := ⟨_, rfl⟩
  obtain ⟨u, hu⟩ : ∃ u, zs.any (fun z => φ z.1) = u := ⟨_, rfl⟩
  rw [hn0, hu] at IC
  rw [hn0, hu]
  clear hn0 hu hn
  go_enter Tryd.func60, Tryd.ntmps60
  go_wp2_with fail
  refine IC.out.mono ?_
  rintro e w2 ⟨⟨r, rfl, hr⟩, hb⟩
  have hr2 : decide ((0 : Int) ≤ r) = u := hr
  clear IC hr
  go_wp2_with fail
  go_ret
  exact ⟨rfl, hb⟩
set_option maxHeartbeats 1000000 in
theorem has_c (b : Nat) (since : Int) (PA : Option Addr) (pc : Nat) (zs : List Pc) (p : Pkt) (A : Option Addr) (n c : Nat) (l : List Int) (w : World) (hb : Blk w b 64 #[.int .i64 since, .slice PA zs.length pc]) (h : PR w PA pc zs) (hn : zs.length ≤ 1000) (hz : ∀ z ∈ zs, FOk z.1) (hx : FOk (p, l)) (hl : l.length = n) (hp : Holds w w.heap.size A n c l) :
    Calls Tryd.prog 47 #[.pointer (some ⟨b, 0, none⟩), val p (.slice A n c)] w fun e w' => e = .returned (.bool (zs.any (fun z => (fun x => twinB x (p, l)) z.1))) ∧ Below w.heap.size w w' := by
  have B0 := (Below.refl w.heap.size w).alloc (Nat.le_refl _) (.cells #[.int .i64 p.tos, .int .i64 p.id, .int .i64 p.ttl, .int .i64 p.proto, .bool p.df, .bool p.mf, .int .i64 p.off, .string p.src, .string p.dst, .string p.opt, .slice A n c] 32)
  have K0 := Blk.new w 32 #[.int .i64 p.tos, .int .i64 p.id, .int .i64 p.ttl, .int .i64 p.proto, .bool p.df, .bool p.mf, .int .i64 p.off, .string p.src, .string p.dst, .string p.opt, .slice A n c]
  have K1 := Lib.hid (Blk.alloc hb (.cells #[.int .i64 p.tos, .int .i64 p.id, .int .i64 p.ttl, .int .i64 p.proto, .bool p.df, .bool p.mf, .int .i64 p.off, .string p.src, .string p.dst, .string p.opt, .slice A n c] 32))
  have CC := Lib.hid (cont_has w.heap.size PA pc zs (fun x => twinB x (p, l)) (w.alloc (.cells #[.int .i64 p.tos, .int .i64 p.id, .int .i64 p.ttl, .int .i64 p.proto, .bool p.df, .bool p.mf, .int .i64 p.off, .string p.src, .string p.dst, .string p.opt, .slice A n c] 32)) (h.below B0) hn fun W hW z hz' => by
    obtain ⟨k, hk⟩ := List.mem_iff_getElem?.1 hz'
    obtain ⟨b2, A', c', e2, h2, h3, h4, h5⟩ := ((h.below B0).below hW).at_ hk
    rw [h4]
    have KW : Blk W w.heap.size 32 #[.int .i64 p.tos, .int .i64 p.id, .int .i64 p.ttl, .int .i64 p.proto, .bool p.df, .bool p.mf, .int .i64 p.off, .string p.src, .string p.dst, .string p.opt, .slice A n c] := K0.below hW K0.lt
    have HW : Holds W W.heap.size A n c l := ((hp.below B0).below (hW.mono B0.size)).more (Nat.le_trans B0.size hW.size)
    have fz := hz z hz'
    refine has1_c p z.1.1 A A' n c z.1.2.length c' w.heap.size W _ KW fun V hV => ?_
    exact same_c p z.1.1 A A' n c z.1.2.length c' l z.1.2 V ((HW.below hV).more hV.size) ((h5.below hV).more hV.size))
  have B1 := Lib.hid B0
  obtain ⟨u, hu⟩ : ∃ u, zs.any (fun z => (fun x => twinB x (p, l)) z.1) = u := ⟨_, rfl⟩
  obtain ⟨N, hN⟩ : ∃ N, zs.length = N := ⟨_, rfl⟩
  rw [hu, hN] at CC
  rw [hu]
  rw [hN] at K1
  clear hu h hz hx hp hl hb B0 K0 hN
  unfold val
  go_enter Tryd.func47, Tryd.ntmps47
  have c1 := K1.out.cell 1
  go_wp2_with fail
  refine CC.out.mono ?_
  rintro e w2 ⟨rfl, hb⟩
  have B2 := Lib.hid (B1.out.trans (hb.mono B1.out.size))
  clear hb CC c1
  go_wp2_with fail
  go_ret
  exact ⟨rfl, B2.out⟩
set_option maxHeartbeats 1000000 in
theorem ref_c (b : Nat) (since : Int) (PA : Option Addr) (pc : Nat) (zs : List Pc) (p : Pkt) (A : Option Addr) (n c : Nat) (l : List Int) (w : World) (hb : Blk w b 64 #[.int .i64 since, .slice PA zs.length pc]) (h : PR w PA pc zs) (hn : zs.length ≤ 1000) (hz : ∀ z ∈ zs, FOk z.1) (hx : FOk (p, l)) (hl : l.length = n) (hp : Holds w w.heap.size A n c l) :
    Calls Tryd.prog 48 #[.pointer (some ⟨b, 0, none⟩), val p (.slice A n c)] w fun e w' => e = .returned (.bool (zs.any (fun z => (fun x => badB x (p, l)) z.1))) ∧ Below w.heap.size w w' := by
  have B0 := (Below.refl w.heap.size w).alloc (Nat.le_refl _) (.cells #[.int .i64 p.tos, .int .i64 p.id, .int .i64 p.ttl, .int .i64 p.proto, .bool p.df, .bool p.mf, .int .i64 p.off, .string p.src, .string p.dst, .string p.opt, .slice A n c] 32)
  have K0 := Blk.new w 32 #[.int .i64 p.tos, .int .i64 p.id, .int .i64 p.ttl, .int .i64 p.proto, .bool p.df, .bool p.mf, .int .i64 p.off, .string p.src, .string p.dst, .string p.opt, .slice A n c]
  have K1 := Lib.hid (Blk.alloc hb (.cells #[.int .i64 p.tos, .int .i64 p.id, .int .i64 p.ttl, .int .i64 p.proto, .bool p.df, .bool p.mf, .int .i64 p.off, .string p.src, .string p.dst, .string p.opt, .slice A n c] 32))
  have CC := Lib.hid (cont_ref w.heap.size PA pc zs (fun x => badB x (p, l)) (w.alloc (.cells #[.int .i64 p.tos, .int .i64 p.id, .int .i64 p.ttl, .int .i64 p.proto, .bool p.df, .bool p.mf, .int .i64 p.off, .string p.src, .string p.dst, .string p.opt, .slice A n c] 32)) (h.below B0) hn fun W hW z hz' => by
    obtain ⟨k, hk⟩ := List.mem_iff_getElem?.1 hz'
    obtain ⟨b2, A', c', e2, h2, h3, h4, h5⟩ := ((h.below B0).below hW).at_ hk
    rw [h4]
    have KW : Blk W w.heap.size 32 #[.int .i64 p.tos, .int .i64 p.id, .int .i64 p.ttl, .int .i64 p.proto, .bool p.df, .bool p.mf, .int .i64 p.off, .string p.src, .string p.dst, .string p.opt, .slice A n c] := K0.below hW K0.lt
    have HW : Holds W W.heap.size A n c l := ((hp.below B0).below (hW.mono B0.size)).more (Nat.le_trans B0.size hW.size)
    have fz := hz z hz'
    refine ref1_c p z.1.1 A A' n c z.1.2.length c' w.heap.size W _ KW fun V hV => ?_
    exact clash_c p z.1.1 A A' n c z.1.2.length c' l z.1.2 V (by have := hx.o0; dsimp only at this; omega) (by have := hx.o1; dsimp only at this; omega) (by have := hx.len; dsimp only at this; omega) (by have := fz.o0; omega) (by have := fz.o1; omega) (by have := fz.len; omega) hl rfl)
  have B1 := Lib.hid B0
  obtain ⟨u, hu⟩ : ∃ u, zs.any (fun z => (fun x => badB x (p, l)) z.1) = u := ⟨_, rfl⟩
  obtain ⟨N, hN⟩ : ∃ N, zs.length = N := ⟨_, rfl⟩
  rw [hu, hN] at CC
  rw [hu]
  rw [hN] at K1
  clear hu h hz hx hp hl hb B0 K0 hN
  unfold val
  go_enter Tryd.func48, Tryd.ntmps48
  have c1 := K1.out.cell 1
  go_wp2_with fail
  refine CC.out.mono ?_
  rintro e w2 ⟨rfl, hb⟩
  have B2 := Lib.hid (B1.out.trans (hb.mono B1.out.size))
  clear hb CC c1
  go_wp2_with fail
  go_ret
  exact ⟨rfl, B2.out⟩
end Go.Proofs.YtnpggkpcadefjaaDoor.Jc4

/- The code's binary search. -/
set_option linter.unusedVariables false
set_option maxRecDepth 100000
namespace Go.Proofs.YtnpggkpcadefjaaDoor.Jc5
open Go.RowKit Go.Proofs.YtnpggkpcadefjaaDoor.Sums Go.Proofs.YtnpggkpcadefjaaDoor.Mem Go.Proofs.YtnpggkpcadefjaaDoor.Blk Go.Proofs.YtnpggkpcadefjaaDoor.Pkt Go.Proofs.YtnpggkpcadefjaaDoor.Check Go.Proofs.YtnpggkpcadefjaaDoor.JoiM Go.Proofs.YtnpggkpcadefjaaDoor.JoiC Go.Proofs.YtnpggkpcadefjaaDoor.RowN Go.Proofs.YtnpggkpcadefjaaDoor.RowA Go.Proofs.YtnpggkpcadefjaaDoor.SplP Go.Proofs.YtnpggkpcadefjaaDoor.Spl5 Go.Proofs.YtnpggkpcadefjaaDoor.MapL Go.Proofs.YtnpggkpcadefjaaDoor.Jc1 Go.Proofs.YtnpggkpcadefjaaDoor.Jc2 Go.Proofs.YtnpggkpcadefjaaDoor.Jc3 Go.Proofs.YtnpggkpcadefjaaDoor.Cat Go.Proofs.YtnpggkpcadefjaaDoor.Jc4

/-- Pieces in their order. -/
def Srt (l : List Frag) : Prop := l.Pairwise fun a b => a.1.off ≤ b.1.off
theorem srt_ins : ∀ (l : List Frag) (x : Frag), Srt l → Srt (insF l x)
  | [], x, _ => by simp [insF, placeF, Srt]
  | y :: l, x, h => by
    unfold Srt at h ⊢
    rw [ins_cons]
    rw [List.pairwise_cons] at h
    split
    · rename_i lt
      refine List.pairwise_cons.2 ⟨fun z hz => ?_, srt_ins l x h.2⟩
      rcases List.mem_cons.1 ((ins_perm l x).mem_iff.1 hz) with rfl | hz
      · omega
      · exact h.1 z hz
    · rename_i nlt
      refine List.pairwise_cons.2 ⟨fun z hz => ?_, List.pairwise_cons.2 h⟩
      rcases List.mem_cons.1 hz with rfl | hz
      · omega
      · have := h.1 z hz; omega
theorem srt_at {l : List Frag} (h : Srt l) {i j : Nat} {a b : Frag} (hi : l[i]? = some a) (hj : l[j]? = some b) (hij : i ≤ j) : a.1.off ≤ b.1.off := by
  rcases Nat.lt_or_ge i j with q | q
  · obtain ⟨li, ei⟩ := List.getElem?_eq_some_iff.1 hi
    obtain ⟨lj, ej⟩ := List.getElem?_eq_some_iff.1 hj
    have := List.pairwise_iff_getElem.1 h i j li lj q
    rwa [ei, ej] at this
  · obtain rfl : i = j := by omega
    rw [hi] at hj
    cases hj
    exact Int.le_refl _
theorem place_at : ∀ (l : List Frag) (x : Int) (k : Nat), (∀ j a, j < k → l[j]? = some a → a.1.off < x) → (∀ a, l[k]? = some a → ¬ a.1.off < x) → k ≤ l.length → placeF l x = k
  | [], x, k, _, _, h => by
    obtain rfl : k = 0 := by simpa using h
    rfl
  | y :: l, x, 0, _, h2, _ => by
    have := h2 y rfl
    simp [placeF, this]
  | y :: l, x, k + 1, h1, h2, h3 => by
    have := h1 0 y (by omega) rfl
    have ih := place_at l x k (fun j a hj ha => h1 (j + 1) a (by omega) ha) (fun a ha => h2 a ha) (by simpa using h3)
    unfold placeF at ih ⊢
    simp [this, ih]
set_option maxHeartbeats 4000000 in
theorem search_c (A : Option Addr) (c : Nat) (zs : List Pc) (x : Int) (w : World) (h : PR w A c zs) (hn : zs.length ≤ 64) (hs : Srt (zs.map (·.1))) :
    Calls Tryd.prog 65 #[.slice A zs.length c, .int .i64 x, .func (.func 66) #[] #[]] w fun e w' => (∃ u, e = .returned (.tuple #[.int .i64 ((placeF (zs.map (·.1)) x : Nat) : Int), .bool u])) ∧ Below w.heap.size w w' := by
  obtain ⟨n, hn0⟩ : ∃ n, zs.length = n := ⟨_, rfl⟩
  have HH := Lib.hid h
  have LN := Lib.hid hn0
  have HS := Lib.hid hs
  rw [hn0] at hn
  rw [hn0]
  obtain ⟨P, hP⟩ : ∃ P : Nat, placeF (zs.map (·.1)) x = P := ⟨_, rfl⟩
  have PP := Lib.hid hP
  rw [hP]
  clear h hn0 hs hP
  go_enter Tryd.func65, Tryd.ntmps65
  go_wp2_with fail
  go_loopw [9, 10] (fun lv hv wr => ∃ lo hi : Nat, lv = .int .i64 (lo : Int) ∧ hv = .int .i64 (hi : Int) ∧ lo ≤ hi ∧ hi ≤ n ∧ Hid (∀ (k : Nat) (r : Pc), k < lo → zs[k]? = some r → r.1.1.off < x) ∧ Hid (∀ (k : Nat) (r : Pc), hi ≤ k → zs[k]? = some r → x ≤ r.1.1.off) ∧ Hid (Below w.heap.size w wr)) (fun lv hv _ => (intOf hv).toNat - (intOf lv).toNat)
  case atStart => exact ⟨0, n, rfl, rfl, by omega, by omega, Lib.hid fun k r hk => absurd hk (by omega), Lib.hid fun k r hk h => absurd h (by rw [List.getElem?_eq_none (by rw [LN.out]; exact hk)]; simp), Lib.hid (Below.refl _ _)⟩
  case round =>
    obtain ⟨lo, hi, rfl, rfl, hle, hin, HL, HE, HB⟩ := hrel
    by_cases hlt : lo < hi
    · obtain ⟨k, hk⟩ : ∃ k, k = (lo + hi) / 2 := ⟨_, rfl⟩
      have hmid : ((lo : Int) + (hi : Int)) / 2 = ((k : Nat) : Int) := by omega
      have kl : lo ≤ k ∧ k < hi := by omega
      have KL := Lib.hid kl
      have kn : k < n := by omega
      obtain ⟨z, hz⟩ : ∃ z, zs[k]? = some z := ⟨_, List.getElem?_eq_getElem (by rw [LN.out]; exact kn)⟩
      obtain ⟨b, A', c', rfl, hbl, hat, -, -⟩ := (HH.out.below HB.out).at_ hz
      obtain ⟨⟨q, lq⟩, dq⟩ := z
      have RP := Lib.hid (Part.run_part wr b (k * 11) PT [.int .i64 q.tos, .int .i64 q.id, .int .i64 q.ttl, .int .i64 q.proto, .bool q.df, .bool q.mf, .int .i64 q.off, .string q.src, .string q.dst, .string q.opt, dq] _ Tryd.underlying32 rfl (by kernel_rfl) hat)
      have CC := Lib.hid (add1_c q dq x wr)
      have HZ := Lib.hid hz
      unfold val at CC
      clear hz hat hbl hk
      go_wp2_with (refine Store.at_load 32 (.tmp 27) ?_ ?_; exact rfl; refine Part.wpList_load_part rfl 32 (.tmp 27) rfl b (k * 11) [.int .i64 q.tos, .int .i64 q.id, .int .i64 q.ttl, .int .i64 q.proto, .bool q.df, .bool q.mf, .int .i64 q.off, .string q.src, .string q.dst, .string q.opt, dq] rfl (RP.out) ?_)
      refine CC.out.mono ?_
      rintro e w2 ⟨⟨y, rfl, hy, -⟩, hb⟩
      have B2 := Lib.hid (HB.out.trans (hb.mono HB.out.size))
      obtain ⟨t, ht⟩ : ∃ t, decide (q.off < x) = t := ⟨_, rfl⟩
      have HT := Lib.hid ht
      rw [ht] at hy
      clear hb CC RP ht hmid kl
      have KL1 := KL.out.1
      have KL2 := KL.out.2
      cases t
      · have HN : Hid (∀ (j : Nat) (r : Pc), k ≤ j → zs[j]? = some r → x ≤ r.1.1.off) := Lib.hid fun j r hj hr => by
          have := srt_at HS.out (i := k) (j := j) (a := (q, lq)) (b := r.1) (by rw [List.getElem?_map, HZ.out]; rfl) (by rw [List.getElem?_map, hr]; rfl) hj
          have h2 := of_decide_eq_false HT.out
          dsimp only at this
          omega
        clear HE
        go_wp2_with fail
        go_roundw
        case rel => exact ⟨lo, k, rfl, rfl, KL1, by omega, HL, HN, B2⟩
        case measure => simp [intOf]; omega
      · have HN : Hid (∀ (j : Nat) (r : Pc), j < k + 1 → zs[j]? = some r → r.1.1.off < x) := Lib.hid fun j r hj hr => by
          have := srt_at HS.out (i := j) (j := k) (a := r.1) (b := (q, lq)) (by rw [List.getElem?_map, hr]; rfl) (by rw [List.getElem?_map, HZ.out]; rfl) (by omega)
          have h2 := of_decide_eq_true HT.out
          dsimp only at this
          omega
        clear HL
        have hk64 : k < 64 := by omega
        go_wp2_with fail
        go_roundw
        case rel => exact ⟨k + 1, hi, by go_num, rfl, by omega, hin, HN, HE, B2⟩
        case measure => simp [intOf]; omega
    · obtain rfl : hi = lo := by omega
      have PA : Hid (P = hi) := Lib.hid (by
        rw [← PP.out]
        refine place_at _ _ _ (fun j a hj ha => ?_) (fun a ha => ?_) (by rw [List.length_map, LN.out]; exact hin)
        · rw [List.getElem?_map] at ha
          obtain ⟨r, hr, rfl⟩ := Option.map_eq_some_iff.1 ha
          exact HL.out j r hj hr
        · rw [List.getElem?_map] at ha
          obtain ⟨r, hr, rfl⟩ := Option.map_eq_some_iff.1 ha
          have := HE.out hi r (Nat.le_refl _) hr
          omega)
      by_cases kn : hi < n
      · obtain ⟨z, hz⟩ : ∃ z, zs[hi]? = some z := ⟨_, List.getElem?_eq_getElem (by rw [LN.out]; exact kn)⟩
        obtain ⟨b, A', c', rfl, hbl, hat, -, -⟩ := (HH.out.below HB.out).at_ hz
        obtain ⟨⟨q, lq⟩, dq⟩ := z
        have RP := Lib.hid (Part.run_part wr b (hi * 11) PT [.int .i64 q.tos, .int .i64 q.id, .int .i64 q.ttl, .int .i64 q.proto, .bool q.df, .bool q.mf, .int .i64 q.off, .string q.src, .string q.dst, .string q.opt, dq] _ Tryd.underlying32 rfl (by kernel_rfl) hat)
        have CC := Lib.hid (add1_c q dq x wr)
        unfold val at CC
        have f1 : decide (hi < n) = true := decide_eq_true kn
        clear hz hat hbl HL HE
        go_wp2_with (refine Store.at_load 32 (.tmp 43) ?_ ?_; exact rfl; refine Part.wpList_load_part rfl 32 (.tmp 43) rfl b (hi * 11) [.int .i64 q.tos, .int .i64 q.id, .int .i64 q.ttl, .int .i64 q.proto, .bool q.df, .bool q.mf, .int .i64 q.off, .string q.src, .string q.dst, .string q.opt, dq] rfl (RP.out) ?_)
        refine CC.out.mono ?_
        rintro e w2 ⟨⟨y, rfl, -, -⟩, hb⟩
        have B2 := Lib.hid (HB.out.trans (hb.mono HB.out.size))
        obtain ⟨t, ht⟩ : ∃ t, (y == 0) = t := ⟨_, rfl⟩
        clear hb CC RP
        go_wp2_with fail
        go_ret2
        exact ⟨⟨t, by rw [PA.out]; rfl⟩, B2.out⟩
      · obtain rfl : hi = n := by omega
        have f1 : decide (hi < hi) = false := decide_eq_false kn
        clear HL HE
        go_wp2_with fail
        go_ret2
        exact ⟨⟨false, by rw [PA.out]; rfl⟩, HB.out⟩
end Go.Proofs.YtnpggkpcadefjaaDoor.Jc5

