/- The code's List; what all its calls leave, with blocks that are none of F. -/
import Derived.Test.YtppnkkpjfjhfkaaDoorM33
import Derived.Test.YtppnkkpjfjhfkaaDoorM36
import Derived.Test.YtppnkkpjfjhfkaaDoorM14
set_option linter.unusedVariables false
set_option maxRecDepth 100000
namespace Go.Proofs.YtppnkkpjfjhfkaaDoor.Cad11
open Go.RowKit Go.Proofs.YtppnkkpjfjhfkaaDoor.Mem Go.Proofs.YtppnkkpjfjhfkaaDoor.Blk Go.Proofs.YtppnkkpjfjhfkaaDoor.ArgT Go.Proofs.YtppnkkpjfjhfkaaDoor.Longs Go.Proofs.YtppnkkpjfjhfkaaDoor.SadM Go.Proofs.YtppnkkpjfjhfkaaDoor.SadR3 Go.Proofs.YtppnkkpjfjhfkaaDoor.SadR4 Go.Proofs.YtppnkkpjfjhfkaaDoor.SadR5 Go.Proofs.YtppnkkpjfjhfkaaDoor.SadR6 Go.Proofs.YtppnkkpjfjhfkaaDoor.SadR7 Go.Proofs.YtppnkkpjfjhfkaaDoor.SadR8 Go.Proofs.YtppnkkpjfjhfkaaDoor.SadR9 Go.Proofs.YtppnkkpjfjhfkaaDoor.SadR10 Go.Proofs.YtppnkkpjfjhfkaaDoor.SadL Go.Proofs.YtppnkkpjfjhfkaaDoor.RowN Go.Proofs.YtppnkkpjfjhfkaaDoor.RowA Go.Proofs.YtppnkkpjfjhfkaaDoor.CadM Go.Proofs.YtppnkkpjfjhfkaaDoor.Cad0 Go.Proofs.YtppnkkpjfjhfkaaDoor.Errno

theorem list_nil (w : World) : Calls Tryd.prog 12 #[.pointer none] w fun e w' => e = .returned (.slice none 0 0) ∧ w = w' := by
  go_enter Tryd.func12, Tryd.ntmps12
  go_wp2_with fail
  go_ret
  exact ⟨rfl, rfl⟩
theorem make_lives (n : Nat) (hn : n ≤ 1000000) : ∃ Z : Array Value, Z.size = n * 12 ∧ ∀ W : World, (Instr.makeSlice 39 (.int .i64 (n : Int)) (.int .i64 (n : Int))).run Tryd.prog W = .ok (.slice (some ⟨W.heap.size, 0, none⟩) n n) (W.alloc (.cells Z 34)) := by
  obtain ⟨i, hi, hz, hsz, hby⟩ := info_parts life_info
  refine ⟨madeCells Zz (n * 12), by simp [madeCells], fun W => ?_⟩
  have h := run_make (P := Tryd.prog) W 39 34 i (.agg Zz) Tryd.underlying39 hi hz .i64 .i64 (n : Int) (n : Int) (by omega) (by omega) (by rw [hby]; omega) (by omega)
  rw [Int.toNat_natCast, hsz] at h
  exact h
set_option maxHeartbeats 4000000 in
theorem list_c (gs : Nat) (A : Option Addr) (n c : Nat) (ls : List CSpot) (es : List Ent) (w : World) (h : CadAt w gs A n c ls es) (hn : es.length ≤ 1000000) :
    Calls Tryd.prog 12 #[.pointer (some ⟨gs, 0, none⟩)] w fun er w' => ∃ A c, er = .returned (.slice A es.length c) ∧ Lives w' A es.length c (es.map (·.life)) ∧ (∀ k, own A k → w.heap.size ≤ k) ∧ Below w.heap.size w w' := by
  have hn0 := h.num
  rw [← hn0] at hn ⊢
  obtain ⟨rs, hrs⟩ : ∃ rs, rs = es.map (·.life) := ⟨_, rfl⟩
  have RS := Lib.hid hrs
  rw [← hrs]
  obtain ⟨Z, hZ, mk⟩ := make_lives n hn
  have B0 := Lib.hid ((Below.refl w.heap.size w).alloc (Nat.le_refl _) (.cells Z 34))
  have c0 := h.blk.cell 0
  have c1 : (w.alloc (.cells Z 34)).cell? ⟨gs, 0, none⟩ = some (.slice A n c) := (h.blk.alloc _).cell 0
  have H := Lib.hid h
  have XB : Hid (Blk (w.alloc (.cells Z 34)) w.heap.size 34 Z) := Lib.hid (Blk.new w _ _)
  have HN := Lib.hid hn0
  have HZ := Lib.hid hZ
  clear h hn0 hZ hrs
  go_enter Tryd.func12, Tryd.ntmps12
  go_wp2_with fail
  clear c0 c1 mk
  generalize w.alloc (.cells Z 34) = w1 at *
  go_loopw [19] (fun iv wr => ∃ i : Nat, iv = .int .i64 (i : Int) ∧ i ≤ n ∧ Hid (∃ X : Array Value, Blk wr w.heap.size 34 X ∧ X.size = n * 12 ∧ X.toList.take (i * 12) = (rs.take i).flatMap LifeR.cells) ∧ Hid (Below w.heap.size w wr)) (fun iv _ => n - (intOf iv).toNat)
  case atStart => exact ⟨0, rfl, by omega, Lib.hid ⟨Z, XB.out, HZ.out, by simp⟩, Lib.hid B0.out⟩
  case round =>
    clear XB HZ B0
    obtain ⟨i, rfl, hi, HX, HB⟩ := hrel
    have H2 := H.out.up HB.out
    by_cases hlt : i < n
    · have he : es[i]? = some (es[i]'(by rw [← HN.out]; exact hlt)) := List.getElem?_eq_getElem _
      have hl : ls[i]? = some (ls[i]'(by rw [H2.len, ← HN.out]; exact hlt)) := List.getElem?_eq_getElem _
      generalize es[i]'(by rw [← HN.out]; exact hlt) = e at he
      generalize ls[i]'(by rw [H2.len, ← HN.out]; exact hlt) = l at hl
      obtain ⟨b, X0, rfl, -⟩ := H2.row.row.some (by omega)
      have cp : wr.cell? ⟨b, i, none⟩ = some (.pointer (some ⟨l.g, 0, none⟩)) := H2.row.row.cell rfl (by rw [List.getElem?_map, hl]; rfl)
      have hE := H2.ent i l e hl he
      obtain ⟨r, hr⟩ : ∃ r, r = e.life := ⟨_, rfl⟩
      have HR : Hid (rs[i]? = some r) := Lib.hid (by rw [RS.out, List.getElem?_map, he, hr]; rfl)
      have RP : (loadVar 34 ⟨l.g, 0, none⟩).run Tryd.prog wr = .ok (.agg r.cells.toArray) wr := Part.run_part wr l.g 0 34 r.cells _ Tryd.underlying34 rfl (by kernel_rfl) (by rw [hr]; exact blk_part hE.1 0 12)
      have OC := Lib.hid (fun W => Cad4.life_own r W (Cad4.short_of (by rw [hr]; exact hE.2.2.2.may)))
      clear hE H2 hl he hr
      generalize l.g = g at *
      go_wp2_with (refine Store.at_load 34 (.tmp 28) ?_ ?_; exact rfl; refine Part.wpList_load_part rfl 34 (.tmp 28) rfl g 0 r.cells rfl RP ?_)
      refine (OC.out _).mono ?_
      rintro er w5 ⟨rfl, hb⟩
      have BN := Lib.hid hb
      clear RP OC hb cp
      obtain ⟨X, hX, hXs, hXt⟩ := HX.out
      have hX5 := Blk.below hX BN.out hX.lt
      have rl : r.cells.length = 12 := len_life r
      have ST := run_store_part hX5 (p := i * 12) (ty := 34) (vs := r.cells) (by rw [rl]; kernel_rfl) (one_life r) (by rw [hXs, rl]; omega)
      have HNX : Hid (∃ Y : Array Value, Blk (w5.setRow w.heap.size (spl X (i * 12) r.cells)) w.heap.size 34 Y ∧ Y.size = n * 12 ∧ Y.toList.take ((i + 1) * 12) = (rs.take (i + 1)).flatMap LifeR.cells) := Lib.hid (by
        refine ⟨_, setRow_heap _ _ _ _ _ _ hX5, (spl_size (by rw [hXs, rl]; omega)).trans hXs, ?_⟩
        have l1 : (X.toList.take (i * 12)).length = i * 12 := by simp [hXs]; omega
        unfold spl
        rw [List.take_add_one, HR.out, List.flatMap_append, ← hXt]
        have : ((X.toList.take (i * 12)) ++ r.cells).length = (i + 1) * 12 := by rw [List.length_append, l1, rl]; omega
        simp only [Option.toList_some, List.flatMap_cons, List.flatMap_nil, List.append_nil]
        exact List.take_left' this)
      have BM := Lib.hid (Com.setRow_bel (HB.out.trans (BN.out.mono HB.out.size)) (Nat.le_refl _) (spl X (i * 12) r.cells))
      clear hX hXs hXt HX HB BN rl hX5
      go_wp2_with (refine Store.at_store 34 (.tmp 31) (.tmp 30) ?_ ?_; exact rfl; refine wpList_store_run rfl 34 (.tmp 31) (.tmp 30) rfl ⟨w.heap.size, i * 12, none⟩ _ rfl rfl ST ?_)
      go_roundw
      case rel => exact ⟨i + 1, by go_num, by omega, HNX, BM⟩
      case measure => simp [intOf]; omega
    · have e : i = n := by omega
      subst e
      have rn : rs.length = i := by rw [RS.out, List.length_map, HN.out]
      obtain ⟨X, hX, hXs, hXt⟩ := HX.out
      have L : Hid (Lives wr (some ⟨w.heap.size, 0, none⟩) i i rs) := Lib.hid (by
        have e1 : rs.take i = rs := List.take_of_length_le (by rw [rn]; exact Nat.le_refl _)
        rw [e1] at hXt
        refine ⟨rn, ⟨⟨?_, Nat.le_refl _, by omega, fun v hv => ?_, .inr ⟨_, X, rfl, hX, by omega, hXt⟩⟩, fun b Y hA hY => ?_⟩⟩
        · rw [← hXt]
          simp [hXs]
        · obtain ⟨r, _, hr⟩ := List.mem_flatMap.1 hv
          exact one_life r v hr
        · cases hA
          have := hY.symm.trans hX
          simp at this
          rw [this, hXs])
      clear hX hXs hXt HX H2 rn
      go_wp2_with fail
      go_ret
      exact ⟨_, _, rfl, L.out, fun k hk => by obtain ⟨a, ha, hb⟩ := hk; cases ha; simp at hb; omega, HB.out⟩
section
variable (F : Nat → Prop) (gs : Nat) (es : List Ent)
theorem cF_keep {w w' : World} {A : Option Addr} {ls : List CSpot} (o : COut F gs A ls) (h : Keep (fun k => ¬ Mine gs A ls k) w w') : Keep F w w' := h.mono fun k hf _ hm => o.mine hm hf
theorem cage_F (now spi : Int) (out : Bool) (w : World) (h : CadF F w gs es) (hg : Handle w) (hn : es.length ≤ 1048576) (hc : NowOk now es) :
    Calls Tryd.prog 20 #[.pointer (some ⟨gs, 0, none⟩), .int .i64 now, .int .i64 spi, .bool out] w fun er w' => er = .returned (.tuple #[.int .i64 ((ageS now spi out es).1 : Int), .int .i64 ((ageS now spi out es).2 : Int)]) ∧ Below w.heap.size w w' := by
  obtain ⟨A, n, c, ls, h1, _⟩ := h
  exact Cad3.age_c gs A n c ls es now spi out w h1 hg hn hc
theorem cpick_F (now rule : Int) (w : World) (h : CadF F w gs es) (hg : Handle w) (hn : es.length ≤ 1048576) (hc : NowOk now es) :
    Calls Tryd.prog 22 #[.pointer (some ⟨gs, 0, none⟩), .int .i64 now, .int .i64 rule] w fun er w' => er = .returned (.tuple #[.int .i64 (pickS now rule es).1, .int .i64 ((pickS now rule es).2 : Int)]) ∧ Below w.heap.size w w' := by
  obtain ⟨A, n, c, ls, h1, _⟩ := h
  exact Cad3.pick_c gs A n c ls es now rule w h1 hn hc
theorem clook_F (now spi low : Int) (w : World) (h : CadF F w gs es) (hg : Handle w) (hn : es.length ≤ 1048576) (hc : NowOk now es) :
    Calls Tryd.prog 21 #[.pointer (some ⟨gs, 0, none⟩), .int .i64 now, .int .i64 spi, .int .i64 low] w fun er w' => er = .returned (.tuple #[.agg (lookS now spi low es).1.cells.toArray, .int .u64 ((lookS now spi low es).2.1 : Int), .int .i64 ((lookS now spi low es).2.2 : Int)]) ∧ Below w.heap.size w w' := by
  obtain ⟨A, n, c, ls, h1, _⟩ := h
  exact Cad7.look_c gs A n c ls es now spi low w h1 hg hn hc
theorem ctake_F (now spi : Int) (seq : Nat) (n : Int) (w : World) (h : CadF F w gs es) (hg : Handle w) (hF : ∀ k, F k → k < w.heap.size) (hn : es.length ≤ 1048576) (hc : NowOk now es) (hr : RoomOk n es) (hq : seq < Q64) :
    Calls Tryd.prog 19 #[.pointer (some ⟨gs, 0, none⟩), .int .i64 now, .int .i64 spi, .int .u64 (seq : Int), .int .i64 n] w fun er w' => er = .returned (.int .i64 ((takeS now spi seq n es).1 : Int)) ∧ CadF F w' gs (takeS now spi seq n es).2 ∧ Keep F w w' := by
  obtain ⟨A, m, c, ls, h1, h2⟩ := h
  refine (Cad7.take_c gs A m c ls es now spi seq n w h1 hg hn hc hr hq).mono ?_
  rintro er w' ⟨rfl, a, b⟩
  exact ⟨rfl, ⟨A, m, c, ls, a, h2⟩, cF_keep F gs h2 b⟩
theorem csend_F (now spi n : Int) (w : World) (h : CadF F w gs es) (hg : Handle w) (hF : ∀ k, F k → k < w.heap.size) (hn : es.length ≤ 1048576) (hc : NowOk now es) (hr : RoomOk n es) :
    Calls Tryd.prog 17 #[.pointer (some ⟨gs, 0, none⟩), .int .i64 now, .int .i64 spi, .int .i64 n] w fun er w' => er = .returned (.tuple #[.agg (sendS now spi n es).1.toArray, .int .u64 ((sendS now spi n es).2.1 : Int), .int .i64 ((sendS now spi n es).2.2.1 : Int)]) ∧ CadF F w' gs (sendS now spi n es).2.2.2 ∧ Keep F w w' := by
  obtain ⟨A, m, c, ls, h1, h2⟩ := h
  refine (Cad6.send_c gs A m c ls es now spi n w h1 hg hn hc hr).mono ?_
  rintro er w' ⟨rfl, a, b⟩
  exact ⟨rfl, ⟨A, m, c, ls, a, h2⟩, cF_keep F gs h2 b⟩
theorem cremove_F (spi : Int) (out : Bool) (w : World) (h : CadF F w gs es) (hg : Handle w) (hF : ∀ k, F k → k < w.heap.size) (hn : es.length ≤ 1000000) :
    Calls Tryd.prog 18 #[.pointer (some ⟨gs, 0, none⟩), .int .i64 spi, .bool out] w fun er w' => er = .returned (.int .i64 ((removeS spi out es).1 : Int)) ∧ CadF F w' gs (removeS spi out es).2 ∧ Keep F w w' := by
  obtain ⟨A, m, c, ls, h1, h2⟩ := h
  refine (Cad8.remove_c gs A m c ls es spi out w h1 hg hn).mono ?_
  rintro er w' ⟨rfl, ⟨n', ls', a, hs⟩, b⟩
  exact ⟨rfl, ⟨A, n', c, ls', a, ⟨h2.s, h2.v, fun l hl => h2.l l (hs l hl)⟩⟩, cF_keep F gs h2 b⟩
theorem cadd_F (now : Int) (r : LifeR) (w : World) (h : CadF F w gs es) (hg : Handle w) (hF : ∀ k, F k → k < w.heap.size) (hn : es.length ≤ 1000000) :
    Calls Tryd.prog 15 #[.pointer (some ⟨gs, 0, none⟩), .int .i64 now, .agg #[.int .i64 r.x0, .string r.x1, .string r.x2, .string r.x3, .bool r.x4, .int .i64 r.x5, .int .i64 r.x6, .bool r.x7, .int .i64 r.x8, .int .i64 r.x9, .int .i64 r.x10, .int .i64 r.x11]] w fun er w' => er = .returned (.int .i64 ((addS now r es).1 : Int)) ∧ CadF F w' gs (addS now r es).2 ∧ Keep F w w' := by
  obtain ⟨A, m, c, ls, h1, h2⟩ := h
  refine (Cad10.add_c gs A m c ls es now r w h1 hn).mono ?_
  rintro er w' ⟨rfl, ⟨A', n', c', ls', a, hv, hs⟩, b⟩
  refine ⟨rfl, ⟨A', n', c', ls', a, ⟨h2.s, fun k hk f => ?_, fun l hl => ?_⟩⟩, cF_keep F gs h2 b⟩
  · rcases hv k hk with q | q
    · exact h2.v k q f
    · have := hF k f
      omega
  · rcases hs l hl with q | ⟨q1, q2⟩
    · exact h2.l l q
    · refine ⟨fun f => ?_, fun p hp => ⟨fun f => ?_, fun f => ?_⟩⟩
      · have := hF _ f
        omega
      · have := hF _ f
        have := q2 p hp
        omega
      · have := hF _ f
        have := q2 p hp
        omega
theorem clist_F (w : World) (h : CadF F w gs es) (hn : es.length ≤ 1000000) :
    Calls Tryd.prog 12 #[.pointer (some ⟨gs, 0, none⟩)] w fun er w' => ∃ A c, er = .returned (.slice A es.length c) ∧ Lives w' A es.length c (es.map (·.life)) ∧ (∀ k, own A k → w.heap.size ≤ k) ∧ Below w.heap.size w w' := by
  obtain ⟨A, n, c, ls, h1, _⟩ := h
  exact list_c gs A n c ls es w h1 hn
end
theorem cfresh {F : Nat → Prop} {w : World} {g : Nat} (h : Blk w g 60 #[.slice none 0 0]) (hF : ¬ F g) : CadF F w g [] :=
  ⟨none, 0, 0, [], ⟨h, RowZ.nil w, rfl, fun i l e h1 => by simp at h1, ⟨fun _ => (0, 0), rfl, fun k ⟨a, z, _⟩ => (by cases z), fun l hl => by simp at hl⟩, by simp⟩, ⟨hF, fun k ⟨a, z, _⟩ => (by cases z), fun l hl => by simp at hl⟩⟩
theorem new_c (w : World) : Calls Tryd.prog 9 #[] w fun er w' => er = .returned (.pointer (some ⟨w.heap.size, 0, none⟩)) ∧ w' = w.alloc (.cells #[.slice none 0 0] 60) := by
  go_enter Tryd.func9, Tryd.ntmps9
  go_wp2_with fail
  go_ret
  exact ⟨rfl, rfl⟩
end Go.Proofs.YtppnkkpjfjhfkaaDoor.Cad11

