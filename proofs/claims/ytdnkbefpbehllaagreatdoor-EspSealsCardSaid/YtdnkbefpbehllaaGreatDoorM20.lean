/- The contract of the document's Words. -/
import Derived.Test.YtdnkbefpbehllaaGreatDoorM05
set_option linter.unusedVariables false
namespace Go.Proofs.YtdnkbefpbehllaaGreatDoor.ShaW
open Go.RowKit Go.Proofs.YtdnkbefpbehllaaGreatDoor.Sums Go.Proofs.YtdnkbefpbehllaaGreatDoor.Mem Go.Proofs.YtdnkbefpbehllaaGreatDoor.Blk Go.Proofs.YtdnkbefpbehllaaGreatDoor.Bits3 Go.Proofs.YtdnkbefpbehllaaGreatDoor.Ints Go.Proofs.YtdnkbefpbehllaaGreatDoor.IntsO Go.Proofs.YtdnkbefpbehllaaGreatDoor.Free Go.Proofs.YtdnkbefpbehllaaGreatDoor.Steps Go.Proofs.YtdnkbefpbehllaaGreatDoor.Ops Go.Proofs.YtdnkbefpbehllaaGreatDoor.ShaD Go.Proofs.YtdnkbefpbehllaaGreatDoor.ShaR1

theorem st_byte_atz {o : Oper} {a : Act} {w : World} {K : Act → World → Prop} {Q : Exit → Act → World → Prop} (x y : Operand) (ho : o.op = .indexAddr 25 x y)
    (b p n c i : Nat) (z : Int) (hx : a.eval x = .slice (some ⟨b, p, none⟩) n c) (hy : a.eval y = .int .i64 z) (hz : z = (i : Int)) (hi : i < n)
    (h : K (a.put o.dst (.pointer (some ⟨b, p + i, none⟩))) w) : Step Tryz.prog o a w K Q := by
  subst hz
  exact st_byte_at (w := w) (Q := Q) x y ho b p n c i hx hy hi h
theorem st_int_at0 {o : Oper} {a : Act} {w : World} {K : Act → World → Prop} {Q : Exit → Act → World → Prop} (x y : Operand) (ho : o.op = .indexAddr 78 x y)
    (b n c i : Nat) (z : Int) (hx : a.eval x = .slice (some ⟨b, 0, none⟩) n c) (hy : a.eval y = .int .i64 z) (hz : z = (i : Int)) (hi : i < n)
    (h : K (a.put o.dst (.pointer (some ⟨b, i, none⟩))) w) : Step Tryz.prog o a w K Q := by
  have := st_int_at (w := w) (Q := Q) x y ho b 0 n c i z hx hy hz hi (K := K)
  rw [Nat.zero_add] at this
  exact this h
theorem b_sub (a b : Int) (x y : Operand) (w : World) (h0 : -9223372036854775808 ≤ a - b) (h1 : a - b ≤ 9223372036854775807) : (do eqGuard .sub 3 x y (.int .i64 a) (.int .i64 b); binOp .sub 3 (.int .i64 a) (.int .i64 b) : Sem Value).run Tryz.prog w = .ok (.int .i64 (a - b)) w := by
  have e : IntKind.i64.wrap (a - b) = a - b := IntWalk.i64_in _ (by omega)
  simp [go_sem, eqGuard, e]
theorem W32.app {a b : List Nat} (ha : W32 a) (hb : W32 b) : W32 (a ++ b) := fun x hx => by
  rcases List.mem_append.1 hx with h | h
  · exact ha x h
  · exact hb x h
theorem firsts_next (B : List Nat) (j : Nat) : ((List.range (j + 1)).map fun i => be B (4 * i)) = ((List.range j).map fun i => be B (4 * i)) ++ [be B (4 * j)] := by
  rw [List.range_succ, List.map_append]; rfl

theorem words_no (A : Option Addr) (n c : Nat) (w : World) (hn : n ≠ 64) (h3 : n ≤ 140737488355328) :
    Calls Tryz.prog 93 #[.slice A n c] w fun e w' => e = .returned (.tuple #[.slice none 0 0, .int .i64 1]) ∧ w = w' := by
  have g : ((n : Int) != 64) = true := by rw [bne_iff_ne]; omega
  clear hn
  go_enter Tryz.func93, Tryz.ntmps93
  go_wp2_with fail
  go_ret2
  exact ⟨rfl, rfl⟩

set_option maxHeartbeats 4000000 in
set_option maxRecDepth 100000 in
theorem words_ref (A : Option Addr) (c : Nat) (bs : List Int) (w : World) (B : Nat) (h : Holds w B A 64 c bs) (hB : B ≤ w.heap.size) :
    Calls Tryz.prog 93 #[.slice A 64 c] w fun e w' => ∃ v, e = .returned (.tuple #[v, .int .i64 0]) ∧ IOwn w' w.heap.size v (words (nats bs)) ∧ Below w.heap.size w w' := by
  obtain ⟨q, p, rfl, _⟩ := h.2.2.2.2 (by omega)
  have NB := Lib.hid (fun i => nats_getD h.2.2.2.1 i)
  have NL := Lib.hid (fun i => (show (nats bs).getD i 0 < 256 by
    rw [List.getD_eq_getElem?_getD]
    cases e : (nats bs)[i]? with
    | none => decide
    | some z => exact nats_lt (fun z hz => h.2.2.2.1 z hz) z (List.mem_of_getElem? e)))
  have WL := Lib.hid (be_lt (b := nats bs) (nats_lt fun z hz => h.2.2.2.1 z hz))
  have HK := Lib.hid h
  obtain ⟨BB, hBB⟩ : ∃ BB, BB = nats bs := ⟨_, rfl⟩
  rw [← hBB] at NL WL ⊢
  have NBB : Hid (∀ i, bs.getD i 0 = ((BB.getD i 0 : Nat) : Int)) := Lib.hid (by rw [hBB]; exact NB.out)
  clear h hBB NB
  go_enter Tryz.func93, Tryz.ntmps93
  go_wp2_with fail
  go_loopw [4, 5] (fun vv kv wr => ∃ (j : Nat) (L : List Nat), kv = .int .i64 (j : Int) ∧ j ≤ 64 ∧ Hid (L.length = j) ∧ Hid (W32 L) ∧ Hid (j ≤ 16 → L = (List.range j).map fun i => be BB (4 * i)) ∧ Hid (16 ≤ j → wgo (64 - j) L = words BB) ∧ Hid (IOwn wr w.heap.size vv L) ∧ Hid (Below w.heap.size w wr)) (fun _ kv _ => 64 - (intOf kv).toNat)
  case atStart => exact ⟨0, [], rfl, by omega, Lib.hid rfl, Lib.hid (fun x hx => by cases hx), Lib.hid (fun _ => rfl), Lib.hid (fun q => by omega), Lib.hid (IOwn.nil _ _), Lib.hid (Below.refl _ _)⟩
  case round =>
    obtain ⟨j, L, rfl, hj, HL, HW, HF, HG, HO, HB⟩ := hrel
    by_cases hlt : j < 64
    · by_cases h16 : j < 16
      · obtain ⟨a0, h0⟩ : ∃ a0, a0 = 4 * j + 0 := ⟨_, rfl⟩
        obtain ⟨a1, h1⟩ : ∃ a1, a1 = 4 * j + 1 := ⟨_, rfl⟩
        obtain ⟨a2, h2⟩ : ∃ a2, a2 = 4 * j + 2 := ⟨_, rfl⟩
        obtain ⟨a3, h3⟩ : ∃ a3, a3 = 4 * j + 3 := ⟨_, rfl⟩
        have q0 : 4 * (j : Int) = (a0 : Int) := by omega
        have q1 : 4 * (j : Int) + 1 = (a1 : Int) := by omega
        have q2 : 4 * (j : Int) + 2 = (a2 : Int) := by omega
        have q3 : 4 * (j : Int) + 3 = (a3 : Int) := by omega
        have BE : be BB (4 * j) = 16777216 * BB.getD a0 0 + 65536 * BB.getD a1 0 + 256 * BB.getD a2 0 + BB.getD a3 0 := by rw [h0, h1, h2, h3]; rfl
        have HBS := HB.out.size
        have YC : Hid (∀ w' : World, Below wr.drew.heap.size wr.drew w' → w'.cell? ⟨q, p + a0, none⟩ = some (.int .u8 ((BB.getD a0 0 : Nat) : Int)) ∧ w'.cell? ⟨q, p + a1, none⟩ = some (.int .u8 ((BB.getD a1 0 : Nat) : Int)) ∧ w'.cell? ⟨q, p + a2, none⟩ = some (.int .u8 ((BB.getD a2 0 : Nat) : Int)) ∧ w'.cell? ⟨q, p + a3, none⟩ = some (.int .u8 ((BB.getD a3 0 : Nat) : Int))) := Lib.hid fun w' hw => by
          have hh := HK.out.below ((HB.out.trans (((below_drewN (Below.refl wr.heap.size wr) 1).trans hw).mono HBS)).mono hB)
          have c0 := cell_getD hh a0 (by omega)
          have c1 := cell_getD hh a1 (by omega)
          have c2 := cell_getD hh a2 (by omega)
          have c3 := cell_getD hh a3 (by omega)
          rw [NBB.out] at c0 c1 c2 c3
          exact ⟨c0, c1, c2, c3⟩
        have g0 := NL.out a0
        have g1 := NL.out a1
        have g2 := NL.out a2
        have g3 := NL.out a3
        have bl := WL.out (4 * j)
        generalize BB.getD a0 0 = y0 at *
        generalize BB.getD a1 0 = y1 at *
        generalize BB.getD a2 0 = y2 at *
        generalize BB.getD a3 0 = y3 at *
        have l0 : a0 < 64 := by omega
        have l1 : a1 < 64 := by omega
        have l2 : a2 < 64 := by omega
        have l3 : a3 < 64 := by omega
        obtain ⟨y, hy⟩ : ∃ y, y = be BB (4 * j) := ⟨_, rfl⟩
        have EY := Lib.hid hy
        rw [← hy] at BE bl
        have YE : Hid (16777216 * (y0 : Int) + 65536 * (y1 : Int) + 256 * (y2 : Int) + (y3 : Int) = (y : Int)) := Lib.hid (by omega)
        have HL2 : Hid ((L ++ [y]).length = j + 1) := Lib.hid (by rw [List.length_append, HL.out]; rfl)
        have HW2 : Hid (W32 (L ++ [y])) := Lib.hid (W32.app HW.out fun x hx => by rw [List.mem_singleton] at hx; rw [hx]; exact bl)
        have HF2 : Hid (j + 1 ≤ 16 → L ++ [y] = (List.range (j + 1)).map fun i => be BB (4 * i)) := Lib.hid fun _ => by rw [firsts_next, ← HF.out (by omega), ← EY.out]
        have HG2 : Hid (16 ≤ j + 1 → wgo (64 - (j + 1)) (L ++ [y]) = words BB) := Lib.hid fun hq => by
          have := HF2.out (by omega)
          rw [this, show j + 1 = 16 by omega]
          rfl
        obtain ⟨Av, cv, rfl⟩ := HO.out.shape
        rw [HL.out] at HO ⊢
        clear h0 h1 h2 h3 hy BE HF HG
        have jb : j ≤ 100 := by omega
        go_wp2_with fail
        refine wp_region_free [0, 1, 2, 3, 4, 5, 6, 7, 8, 9, 10, 11, 12, 13, 14, 15, 16, 17, 18, 19, 20, 21, 22, 23, 24, 25, 26, 27, 28, 29, 30, 31, 32, 33, 34] 35 [36] (fun w1 w2 => Below w1.heap.size w1 w2) (fun k' w' v => match k' with
          | 0 => v = .slice Av j cv
          | 1 => v = .slice (some ⟨q, p, none⟩) 64 c
          | 2 => v = .int .i64 ((j : Int))
          | 3 => v = .int .i64 (4 * ((j : Int)))
          | 4 => v = .pointer (some ⟨q, p + a0, none⟩)
          | 5 => v = .int .u8 ((y0 : Int))
          | 6 => v = .int .i64 ((y0 : Int))
          | 7 => v = .int .i64 (16777216 * ((y0 : Int)))
          | 8 => v = .slice (some ⟨q, p, none⟩) 64 c
          | 9 => v = .int .i64 ((j : Int))
          | 10 => v = .int .i64 (4 * ((j : Int)))
          | 11 => v = .int .i64 (4 * ((j : Int)) + 1)
          | 12 => v = .pointer (some ⟨q, p + a1, none⟩)
          | 13 => v = .int .u8 ((y1 : Int))
          | 14 => v = .int .i64 ((y1 : Int))
          | 15 => v = .int .i64 (65536 * ((y1 : Int)))
          | 16 => v = .int .i64 (16777216 * ((y0 : Int)) + (65536 * ((y1 : Int))))
          | 17 => v = .slice (some ⟨q, p, none⟩) 64 c
          | 18 => v = .int .i64 ((j : Int))
          | 19 => v = .int .i64 (4 * ((j : Int)))
          | 20 => v = .int .i64 (4 * ((j : Int)) + 2)
          | 21 => v = .pointer (some ⟨q, p + a2, none⟩)
          | 22 => v = .int .u8 ((y2 : Int))
          | 23 => v = .int .i64 ((y2 : Int))
          | 24 => v = .int .i64 (256 * ((y2 : Int)))
          | 25 => v = .int .i64 (16777216 * ((y0 : Int)) + (65536 * ((y1 : Int))) + (256 * ((y2 : Int))))
          | 26 => v = .slice (some ⟨q, p, none⟩) 64 c
          | 27 => v = .int .i64 ((j : Int))
          | 28 => v = .int .i64 (4 * ((j : Int)))
          | 29 => v = .int .i64 (4 * ((j : Int)) + 3)
          | 30 => v = .pointer (some ⟨q, p + a3, none⟩)
          | 31 => v = .int .u8 ((y3 : Int))
          | 32 => v = .int .i64 ((y3 : Int))
          | 33 => v = .int .i64 ((y : Int))
          | _ => ∃ g1, v = .slice (some ⟨g1, 0, none⟩) 1 1 ∧ IRow w' g1 [y]) (by kernel_rfl) (by kernel_rfl) (Below.refl _ _) (fun _ _ _ h k => h.trans (k.mono h.size)) (fun k' w1 w2 v h => match k' with
          | 0 => fun x => x
          | 1 => fun x => x
          | 2 => fun x => x
          | 3 => fun x => x
          | 4 => fun x => x
          | 5 => fun x => x
          | 6 => fun x => x
          | 7 => fun x => x
          | 8 => fun x => x
          | 9 => fun x => x
          | 10 => fun x => x
          | 11 => fun x => x
          | 12 => fun x => x
          | 13 => fun x => x
          | 14 => fun x => x
          | 15 => fun x => x
          | 16 => fun x => x
          | 17 => fun x => x
          | 18 => fun x => x
          | 19 => fun x => x
          | 20 => fun x => x
          | 21 => fun x => x
          | 22 => fun x => x
          | 23 => fun x => x
          | 24 => fun x => x
          | 25 => fun x => x
          | 26 => fun x => x
          | 27 => fun x => x
          | 28 => fun x => x
          | 29 => fun x => x
          | 30 => fun x => x
          | 31 => fun x => x
          | 32 => fun x => x
          | 33 => fun x => x
          | _ + 34 => fun ⟨g1, e, x⟩ => ⟨g1, e, x.up h⟩) (fun _ _ _ _ _ h => h) ?_ _ (by rfl) ?_
        · refine obs_cons (by rfl) (fun vals w' hgr hdep K hK => ?_) (obs_cons (by rfl) (fun vals w' hgr hdep K hK => ?_) (obs_cons (by rfl) (fun vals w' hgr hdep K hK => ?_) (obs_cons (by rfl) (fun vals w' hgr hdep K hK => ?_) (obs_cons (by rfl) (fun vals w' hgr hdep K hK => ?_) (obs_cons (by rfl) (fun vals w' hgr hdep K hK => ?_) (obs_cons (by rfl) (fun vals w' hgr hdep K hK => ?_) (obs_cons (by rfl) (fun vals w' hgr hdep K hK => ?_) (obs_cons (by rfl) (fun vals w' hgr hdep K hK => ?_) (obs_cons (by rfl) (fun vals w' hgr hdep K hK => ?_) (obs_cons (by rfl) (fun vals w' hgr hdep K hK => ?_) (obs_cons (by rfl) (fun vals w' hgr hdep K hK => ?_) (obs_cons (by rfl) (fun vals w' hgr hdep K hK => ?_) (obs_cons (by rfl) (fun vals w' hgr hdep K hK => ?_) (obs_cons (by rfl) (fun vals w' hgr hdep K hK => ?_) (obs_cons (by rfl) (fun vals w' hgr hdep K hK => ?_) (obs_cons (by rfl) (fun vals w' hgr hdep K hK => ?_) (obs_cons (by rfl) (fun vals w' hgr hdep K hK => ?_) (obs_cons (by rfl) (fun vals w' hgr hdep K hK => ?_) (obs_cons (by rfl) (fun vals w' hgr hdep K hK => ?_) (obs_cons (by rfl) (fun vals w' hgr hdep K hK => ?_) (obs_cons (by rfl) (fun vals w' hgr hdep K hK => ?_) (obs_cons (by rfl) (fun vals w' hgr hdep K hK => ?_) (obs_cons (by rfl) (fun vals w' hgr hdep K hK => ?_) (obs_cons (by rfl) (fun vals w' hgr hdep K hK => ?_) (obs_cons (by rfl) (fun vals w' hgr hdep K hK => ?_) (obs_cons (by rfl) (fun vals w' hgr hdep K hK => ?_) (obs_cons (by rfl) (fun vals w' hgr hdep K hK => ?_) (obs_cons (by rfl) (fun vals w' hgr hdep K hK => ?_) (obs_cons (by rfl) (fun vals w' hgr hdep K hK => ?_) (obs_cons (by rfl) (fun vals w' hgr hdep K hK => ?_) (obs_cons (by rfl) (fun vals w' hgr hdep K hK => ?_) (obs_cons (by rfl) (fun vals w' hgr hdep K hK => ?_) (obs_cons (by rfl) (fun vals w' hgr hdep K hK => ?_) (obs_cons (by rfl) (fun vals w' hgr hdep K hK => ?_) (obs_nil)))))))))))))))))))))))))))))))))))
          · exact wp_move (.tmp 4) rfl _ (at_out _ (by kernel_rfl) rfl) (hK _ _ (Below.refl _ _) rfl)
          · exact wp_move (.tmp 0) rfl _ (at_out _ (by kernel_rfl) rfl) (hK _ _ (Below.refl _ _) rfl)
          · exact wp_move (.tmp 5) rfl _ (at_out _ (by kernel_rfl) rfl) (hK _ _ (Below.refl _ _) rfl)
          · exact wp_bin (.const (.int .i64 4)) (.tmp 21) rfl _ _ _ rfl ((at_dst 2 (by kernel_rfl)).trans (hdep 2 (by simp) (by kernel_rfl))) (b_mul _ _ _ _ _ (by omega) (by omega)) (hK _ _ (Below.refl _ _) rfl)
          · exact st_byte_atz (.tmp 20) (.tmp 22) rfl q p 64 c a0 _ ((at_dst 1 (by kernel_rfl)).trans (hdep 1 (by simp) (by kernel_rfl))) ((at_dst 3 (by kernel_rfl)).trans (hdep 3 (by simp) (by kernel_rfl))) q0 l0 (hK _ _ (Below.refl _ _) rfl)
          · exact wp_load1 (.tmp 23) rfl ⟨q, p + a0, none⟩ ((at_dst 4 (by kernel_rfl)).trans (hdep 4 (by simp) (by kernel_rfl))) Tryz.underlying5 rfl _ ((YC.out w' hgr).1) (hK _ _ (Below.refl _ _) rfl)
          · exact wp_conv (.tmp 24) rfl _ _ ((at_dst 5 (by kernel_rfl)).trans (hdep 5 (by simp) (by kernel_rfl))) (conv_int _ _ (by omega) (by omega)) (hK _ _ (Below.refl _ _) rfl)
          · exact wp_bin (.const (.int .i64 16777216)) (.tmp 25) rfl _ _ _ rfl ((at_dst 6 (by kernel_rfl)).trans (hdep 6 (by simp) (by kernel_rfl))) (b_mul _ _ _ _ _ (by omega) (by omega)) (hK _ _ (Below.refl _ _) rfl)
          · exact wp_move (.tmp 0) rfl _ (at_out _ (by kernel_rfl) rfl) (hK _ _ (Below.refl _ _) rfl)
          · exact wp_move (.tmp 5) rfl _ (at_out _ (by kernel_rfl) rfl) (hK _ _ (Below.refl _ _) rfl)
          · exact wp_bin (.const (.int .i64 4)) (.tmp 28) rfl _ _ _ rfl ((at_dst 9 (by kernel_rfl)).trans (hdep 9 (by simp) (by kernel_rfl))) (b_mul _ _ _ _ _ (by omega) (by omega)) (hK _ _ (Below.refl _ _) rfl)
          · exact wp_bin (.tmp 29) (.const (.int .i64 1)) rfl _ _ _ ((at_dst 10 (by kernel_rfl)).trans (hdep 10 (by simp) (by kernel_rfl))) rfl (b_add _ _ _ _ _ (by omega) (by omega)) (hK _ _ (Below.refl _ _) rfl)
          · exact st_byte_atz (.tmp 27) (.tmp 30) rfl q p 64 c a1 _ ((at_dst 8 (by kernel_rfl)).trans (hdep 8 (by simp) (by kernel_rfl))) ((at_dst 11 (by kernel_rfl)).trans (hdep 11 (by simp) (by kernel_rfl))) q1 l1 (hK _ _ (Below.refl _ _) rfl)
          · exact wp_load1 (.tmp 31) rfl ⟨q, p + a1, none⟩ ((at_dst 12 (by kernel_rfl)).trans (hdep 12 (by simp) (by kernel_rfl))) Tryz.underlying5 rfl _ ((YC.out w' hgr).2.1) (hK _ _ (Below.refl _ _) rfl)
          · exact wp_conv (.tmp 32) rfl _ _ ((at_dst 13 (by kernel_rfl)).trans (hdep 13 (by simp) (by kernel_rfl))) (conv_int _ _ (by omega) (by omega)) (hK _ _ (Below.refl _ _) rfl)
          · exact wp_bin (.const (.int .i64 65536)) (.tmp 33) rfl _ _ _ rfl ((at_dst 14 (by kernel_rfl)).trans (hdep 14 (by simp) (by kernel_rfl))) (b_mul _ _ _ _ _ (by omega) (by omega)) (hK _ _ (Below.refl _ _) rfl)
          · exact wp_bin (.tmp 26) (.tmp 34) rfl _ _ _ ((at_dst 7 (by kernel_rfl)).trans (hdep 7 (by simp) (by kernel_rfl))) ((at_dst 15 (by kernel_rfl)).trans (hdep 15 (by simp) (by kernel_rfl))) (b_add _ _ _ _ _ (by omega) (by omega)) (hK _ _ (Below.refl _ _) rfl)
          · exact wp_move (.tmp 0) rfl _ (at_out _ (by kernel_rfl) rfl) (hK _ _ (Below.refl _ _) rfl)
          · exact wp_move (.tmp 5) rfl _ (at_out _ (by kernel_rfl) rfl) (hK _ _ (Below.refl _ _) rfl)
          · exact wp_bin (.const (.int .i64 4)) (.tmp 37) rfl _ _ _ rfl ((at_dst 18 (by kernel_rfl)).trans (hdep 18 (by simp) (by kernel_rfl))) (b_mul _ _ _ _ _ (by omega) (by omega)) (hK _ _ (Below.refl _ _) rfl)
          · exact wp_bin (.tmp 38) (.const (.int .i64 2)) rfl _ _ _ ((at_dst 19 (by kernel_rfl)).trans (hdep 19 (by simp) (by kernel_rfl))) rfl (b_add _ _ _ _ _ (by omega) (by omega)) (hK _ _ (Below.refl _ _) rfl)
          · exact st_byte_atz (.tmp 36) (.tmp 39) rfl q p 64 c a2 _ ((at_dst 17 (by kernel_rfl)).trans (hdep 17 (by simp) (by kernel_rfl))) ((at_dst 20 (by kernel_rfl)).trans (hdep 20 (by simp) (by kernel_rfl))) q2 l2 (hK _ _ (Below.refl _ _) rfl)
          · exact wp_load1 (.tmp 40) rfl ⟨q, p + a2, none⟩ ((at_dst 21 (by kernel_rfl)).trans (hdep 21 (by simp) (by kernel_rfl))) Tryz.underlying5 rfl _ ((YC.out w' hgr).2.2.1) (hK _ _ (Below.refl _ _) rfl)
          · exact wp_conv (.tmp 41) rfl _ _ ((at_dst 22 (by kernel_rfl)).trans (hdep 22 (by simp) (by kernel_rfl))) (conv_int _ _ (by omega) (by omega)) (hK _ _ (Below.refl _ _) rfl)
          · exact wp_bin (.const (.int .i64 256)) (.tmp 42) rfl _ _ _ rfl ((at_dst 23 (by kernel_rfl)).trans (hdep 23 (by simp) (by kernel_rfl))) (b_mul _ _ _ _ _ (by omega) (by omega)) (hK _ _ (Below.refl _ _) rfl)
          · exact wp_bin (.tmp 35) (.tmp 43) rfl _ _ _ ((at_dst 16 (by kernel_rfl)).trans (hdep 16 (by simp) (by kernel_rfl))) ((at_dst 24 (by kernel_rfl)).trans (hdep 24 (by simp) (by kernel_rfl))) (b_add _ _ _ _ _ (by omega) (by omega)) (hK _ _ (Below.refl _ _) rfl)
          · exact wp_move (.tmp 0) rfl _ (at_out _ (by kernel_rfl) rfl) (hK _ _ (Below.refl _ _) rfl)
          · exact wp_move (.tmp 5) rfl _ (at_out _ (by kernel_rfl) rfl) (hK _ _ (Below.refl _ _) rfl)
          · exact wp_bin (.const (.int .i64 4)) (.tmp 46) rfl _ _ _ rfl ((at_dst 27 (by kernel_rfl)).trans (hdep 27 (by simp) (by kernel_rfl))) (b_mul _ _ _ _ _ (by omega) (by omega)) (hK _ _ (Below.refl _ _) rfl)
          · exact wp_bin (.tmp 47) (.const (.int .i64 3)) rfl _ _ _ ((at_dst 28 (by kernel_rfl)).trans (hdep 28 (by simp) (by kernel_rfl))) rfl (b_add _ _ _ _ _ (by omega) (by omega)) (hK _ _ (Below.refl _ _) rfl)
          · exact st_byte_atz (.tmp 45) (.tmp 48) rfl q p 64 c a3 _ ((at_dst 26 (by kernel_rfl)).trans (hdep 26 (by simp) (by kernel_rfl))) ((at_dst 29 (by kernel_rfl)).trans (hdep 29 (by simp) (by kernel_rfl))) q3 l3 (hK _ _ (Below.refl _ _) rfl)
          · exact wp_load1 (.tmp 49) rfl ⟨q, p + a3, none⟩ ((at_dst 30 (by kernel_rfl)).trans (hdep 30 (by simp) (by kernel_rfl))) Tryz.underlying5 rfl _ ((YC.out w' hgr).2.2.2) (hK _ _ (Below.refl _ _) rfl)
          · exact wp_conv (.tmp 50) rfl _ _ ((at_dst 31 (by kernel_rfl)).trans (hdep 31 (by simp) (by kernel_rfl))) (conv_int _ _ (by omega) (by omega)) (hK _ _ (Below.refl _ _) rfl)
          · exact wp_bin (.tmp 44) (.tmp 51) rfl _ _ _ ((at_dst 25 (by kernel_rfl)).trans (hdep 25 (by simp) (by kernel_rfl))) ((at_dst 32 (by kernel_rfl)).trans (hdep 32 (by simp) (by kernel_rfl))) ((b_add _ _ _ _ _ (by omega) (by omega)).trans (by rw [YE.out])) (hK _ _ (Below.refl _ _) rfl)
          · exact st_slicei_1 (.tmp 52) rfl _ ((at_dst 33 (by kernel_rfl)).trans (hdep 33 (by simp) (by kernel_rfl))) (hK _ _ ((Below.refl _ _).alloc (Nat.le_refl _) _) ⟨_, rfl, IRow.new w' [y]⟩)
        · intro vals w' hgr hG
          obtain ⟨A1, ea, la⟩ : ∃ g1, vals 34 = .slice (some ⟨g1, 0, none⟩) 1 1 ∧ IRow w' g1 [y] := hG 34 (by simp)
          have GB := (below_drewN (Below.refl wr.heap.size wr) 1).trans hgr
          have O8 := HO.out.up GB
          have B8 := HB.out.trans (GB.mono HBS)
          refine st_append_ints (.tmp 19) (.tmp 53) rfl w.heap.size _ L ((at_dst 0 (by kernel_rfl)).trans (hG 0 (by simp))) O8 A1 1 [y] ((at_dst 34 (by kernel_rfl)).trans ea) (fun i hi => la.cell i hi) (by simp) (by rw [HL.out]; show j + 1 ≤ 1048576; omega) (Nat.le_trans HBS GB.size) (fun v9 w9 o9 g9 => ?_)
          refine wpAnyH_next 36 _ rfl rfl (by kernel_rfl) (st_assign (.tmp 54) _ rfl (put_tmps_eq (fill_size _ _ _) (by kernel_rfl)) ⟨trivial, wpAnyH_done (by kernel_rfl) ?_ _⟩)
          have OX : Hid (IOwn w9 w.heap.size v9 (L ++ [y])) := Lib.hid o9
          have BX : Hid (Below w.heap.size w w9) := Lib.hid (B8.grown g9 (Nat.le_trans HBS GB.size) fun g hg => (O8.lt g hg).1)
          clear hG hgr GB O8 B8 la o9 g9
          simp only [fill, dstAt, List.getElem?_cons_zero, List.getElem?_cons_succ, Option.bind_some, Act.put, List.setIfInBounds_toArray, List.set_cons_zero, List.set_cons_succ]
          generalize vals 0 = z0, vals 1 = z1, vals 2 = z2, vals 3 = z3, vals 4 = z4, vals 5 = z5, vals 6 = z6, vals 7 = z7, vals 8 = z8, vals 9 = z9, vals 10 = z10, vals 11 = z11, vals 12 = z12, vals 13 = z13, vals 14 = z14, vals 15 = z15, vals 16 = z16, vals 17 = z17, vals 18 = z18, vals 19 = z19, vals 20 = z20, vals 21 = z21, vals 22 = z22, vals 23 = z23, vals 24 = z24, vals 25 = z25, vals 26 = z26, vals 27 = z27, vals 28 = z28, vals 29 = z29, vals 30 = z30, vals 31 = z31, vals 32 = z32, vals 33 = z33, vals 34 = z34
          go_wp2_with fail
          go_roundw
          case rel => exact ⟨j + 1, _, by go_num, by omega, HL2, HW2, HF2, HG2, OX, BX⟩
          case measure => simp [intOf]; omega
      · have hj16 : 16 ≤ j := by omega
        have WG := HG.out hj16
        have WN : Hid (wgo (64 - (j + 1)) (L ++ [wnext L]) = words BB) := Lib.hid (by rw [show 64 - j = (64 - (j + 1)) + 1 by omega, wgo] at WG; exact WG)
        have WE : wnext L = (L.getD (j - 16) 0 + lo0 (L.getD (j - 15) 0) + L.getD (j - 7) 0 + lo1 (L.getD (j - 2) 0)) % M := by unfold wnext; rw [HL.out]
        obtain ⟨gv, cv, rfl, gb1, gb2, hcv, _⟩ := HO.out.form (by rw [HL.out]; omega)
        have HOL : Hid (IOwn wr w.heap.size (.slice (some ⟨gv, 0, none⟩) L.length cv) L) := HO
        have CL : Hid (∀ w' : World, Below wr.heap.size wr w' → ∀ i, i < j → w'.cell? ⟨gv, i, none⟩ = some (.int .i64 ((L.getD i 0 : Nat) : Int))) := Lib.hid fun w' hw i hi => IOwn.cell (HOL.out.up hw) (by rw [HL.out]; exact hi)
        rw [HL.out] at HO ⊢
        have c15 := CL.out wr (Below.refl _ _) (j - 15) (by omega)
        have c2 := CL.out wr (Below.refl _ _) (j - 2) (by omega)
        obtain ⟨i16, e16⟩ : ∃ i, i = j - 16 := ⟨_, rfl⟩
        obtain ⟨i15, e15⟩ : ∃ i, i = j - 15 := ⟨_, rfl⟩
        obtain ⟨i7, e7⟩ : ∃ i, i = j - 7 := ⟨_, rfl⟩
        obtain ⟨i2, e2⟩ : ∃ i, i = j - 2 := ⟨_, rfl⟩
        rw [← e15] at c15 WE
        rw [← e2] at c2 WE
        rw [← e16, ← e7] at WE
        have k16 : (j : Int) - 16 = (i16 : Int) := by omega
        have k15 : IntKind.i64.wrap ((j : Int) - 15) = (i15 : Int) := by rw [IntWalk.i64_in _ (by omega)]; omega
        have k7 : (j : Int) - 7 = (i7 : Int) := by omega
        have k2 : IntKind.i64.wrap ((j : Int) - 2) = (i2 : Int) := by rw [IntWalk.i64_in _ (by omega)]; omega
        have b16 : i16 < j := by omega
        have b15 : i15 < j := by omega
        have b7 : i7 < j := by omega
        have b2 : i2 < j := by omega
        have wa := HW.out.get i15
        have wb := HW.out.get i2
        have wc := HW.out.get i16
        have wd := HW.out.get i7
        have C16 : Hid (∀ w' : World, Below wr.heap.size wr w' → w'.cell? ⟨gv, i16, none⟩ = some (.int .i64 ((L.getD i16 0 : Nat) : Int)) ∧ w'.cell? ⟨gv, i7, none⟩ = some (.int .i64 ((L.getD i7 0 : Nat) : Int))) := Lib.hid fun w' hw => ⟨CL.out w' hw i16 b16, CL.out w' hw i7 b7⟩
        generalize L.getD i15 0 = a at *
        generalize L.getD i2 0 = b at *
        generalize L.getD i16 0 = x at *
        generalize L.getD i7 0 = y at *
        have T1 := Lib.hid (fun W => turn_ref a 7 wa (by decide) W)
        have T2 := Lib.hid (fun W => turn_ref a 18 wa (by decide) W)
        have T3 := Lib.hid (fun W => turn_ref b 17 wb (by decide) W)
        have T4 := Lib.hid (fun W => turn_ref b 19 wb (by decide) W)
        have r1 := rot_lt wa (show 7 ≤ 31 by decide)
        have r2 := rot_lt wa (show 18 ≤ 31 by decide)
        have r3 := rot_lt wb (show 17 ≤ 31 by decide)
        have r4 := rot_lt wb (show 19 ≤ 31 by decide)
        have L0 : lo0 a = rot a 7 ^^^ rot a 18 ^^^ a / 8 := rfl
        have L1 : lo1 b = rot b 17 ^^^ rot b 19 ^^^ b / 1024 := rfl
        generalize rot a 7 = ra at *
        generalize rot a 18 = rb at *
        generalize rot b 17 = rc at *
        generalize rot b 19 = rd at *
        unfold M at wa wb wc wd
        have f1 : (a : Int).tdiv 8 = ((a / 8 : Nat) : Int) := by rw [Int.tdiv_eq_ediv_of_nonneg (by omega)]; rfl
        have f2 : (b : Int).tdiv 1024 = ((b / 1024 : Nat) : Int) := by rw [Int.tdiv_eq_ediv_of_nonneg (by omega)]; rfl
        obtain ⟨a8, ha8⟩ : ∃ a8, a8 = a / 8 := ⟨_, rfl⟩
        obtain ⟨b8, hb8⟩ : ∃ b8, b8 = b / 1024 := ⟨_, rfl⟩
        rw [← ha8] at f1 L0
        rw [← hb8] at f2 L1
        have f3 : IntKind.i64.wrap (a8 : Int) = (a8 : Int) := IntWalk.i64_in _ (by omega)
        have f4 : IntKind.i64.wrap (b8 : Int) = (b8 : Int) := IntWalk.i64_in _ (by omega)
        have z1 : ra ^^^ rb < 2 ^ 33 := Nat.xor_lt_two_pow (by omega) (by omega)
        have z2 : rc ^^^ rd < 2 ^ 33 := Nat.xor_lt_two_pow (by omega) (by omega)
        have x1 : bits .xor .i64 (ra : Int) (rb : Int) = ((ra ^^^ rb : Nat) : Int) := i64_xor (by omega) (by omega)
        have x2 : bits .xor .i64 (rc : Int) (rd : Int) = ((rc ^^^ rd : Nat) : Int) := i64_xor (by omega) (by omega)
        obtain ⟨m1, hm1⟩ : ∃ m1, m1 = ra ^^^ rb := ⟨_, rfl⟩
        obtain ⟨m2, hm2⟩ : ∃ m2, m2 = rc ^^^ rd := ⟨_, rfl⟩
        rw [← hm1] at x1 z1 L0
        rw [← hm2] at x2 z2 L1
        have z3 : m1 ^^^ a8 < 2 ^ 33 := Nat.xor_lt_two_pow z1 (by omega)
        have z4 : m2 ^^^ b8 < 2 ^ 33 := Nat.xor_lt_two_pow z2 (by omega)
        have x3 : bits .xor .i64 (m1 : Int) (a8 : Int) = ((m1 ^^^ a8 : Nat) : Int) := i64_xor (by omega) (by omega)
        have x4 : bits .xor .i64 (m2 : Int) (b8 : Int) = ((m2 ^^^ b8 : Nat) : Int) := i64_xor (by omega) (by omega)
        rw [← L0] at x3 z3
        rw [← L1] at x4 z4
        generalize lo0 a = s0 at *
        generalize lo1 b = s1 at *
        obtain ⟨y9, hy9⟩ : ∃ y9, y9 = wnext L := ⟨_, rfl⟩
        have EY := Lib.hid hy9
        rw [← hy9] at WE
        have WM : y9 < M := by rw [WE]; exact Nat.mod_lt _ (by decide)
        have YE : Hid (((x : Int) + (s0 : Int) + (y : Int) + (s1 : Int)) % 4294967296 = (y9 : Int)) := Lib.hid (by rw [WE]; unfold M; omega)
        have HL2 : Hid ((L ++ [y9]).length = j + 1) := Lib.hid (by rw [List.length_append, HL.out]; rfl)
        have HW2 : Hid (W32 (L ++ [y9])) := Lib.hid (W32.app HW.out fun x hx => by rw [List.mem_singleton] at hx; rw [hx]; exact WM)
        have HF2 : Hid (j + 1 ≤ 16 → L ++ [y9] = (List.range (j + 1)).map fun i => be BB (4 * i)) := Lib.hid fun _ => by omega
        have HG2 : Hid (16 ≤ j + 1 → wgo (64 - (j + 1)) (L ++ [y9]) = words BB) := Lib.hid fun _ => by rw [EY.out]; exact WN.out
        have HBS := HB.out.size
        have H16 : decide ((j : Int) < 16) = false := decide_eq_false (by omega)
        clear e16 e15 e7 e2 WG WN WE HF HG ha8 hb8 hm1 hm2 L0 L1 hy9 WM z1 z2 CL wa wb r1 r2 r3 r4 HO
        go_wp2_with fail
        refine (T1.out _).mono ?_
        rintro e w2 ⟨rfl, hb1⟩
        have G2 := Lib.hid hb1
        clear hb1 c15 c2
        go_wp2_with fail
        refine (T2.out _).mono ?_
        rintro e w3 ⟨rfl, hb1⟩
        have G3 := Lib.hid (G2.out.trans (hb1.mono G2.out.size))
        clear hb1 G2
        go_wp2_with fail
        refine (T3.out _).mono ?_
        rintro e w4 ⟨rfl, hb1⟩
        have G4 := Lib.hid (G3.out.trans (hb1.mono G3.out.size))
        clear hb1 G3
        go_wp2_with fail
        refine (T4.out _).mono ?_
        rintro e w5 ⟨rfl, hb1⟩
        have G5 := Lib.hid (G4.out.trans (hb1.mono G4.out.size))
        clear hb1 G4
        go_wp2_with fail
        clear x1 x2 x3 x4 f1 f2 f3 f4
        have HO5 := Lib.hid (HOL.out.up G5.out)
        have HB5 := Lib.hid (HB.out.trans (G5.out.mono HBS))
        have HS5 : Hid (w.heap.size ≤ w5.heap.size) := Lib.hid (Nat.le_trans HBS G5.out.size)
        have XC : Hid (∀ w' : World, Below w5.drew.heap.size w5.drew w' → w'.cell? ⟨gv, i16, none⟩ = some (.int .i64 (x : Int)) ∧ w'.cell? ⟨gv, i7, none⟩ = some (.int .i64 (y : Int))) := Lib.hid fun w' hw => C16.out w' (G5.out.trans (((below_drewN (Below.refl w5.heap.size w5) 1).trans hw).mono G5.out.size))
        refine wp_region_free [0, 1, 2, 3, 4, 5, 6, 7, 8, 9, 10, 11, 12, 13, 14, 15, 16, 17] 18 [19] (fun w1 w2 => Below w1.heap.size w1 w2) (fun k' w' v => match k' with
          | 0 => v = .slice (some ⟨gv, 0, none⟩) j cv
          | 1 => v = .slice (some ⟨gv, 0, none⟩) j cv
          | 2 => v = .int .i64 ((j : Int))
          | 3 => v = .int .i64 ((j : Int) - 16)
          | 4 => v = .pointer (some ⟨gv, i16, none⟩)
          | 5 => v = .int .i64 ((x : Int))
          | 6 => v = .int .i64 ((s0 : Int))
          | 7 => v = .int .i64 ((x : Int) + ((s0 : Int)))
          | 8 => v = .slice (some ⟨gv, 0, none⟩) j cv
          | 9 => v = .int .i64 ((j : Int))
          | 10 => v = .int .i64 ((j : Int) - 7)
          | 11 => v = .pointer (some ⟨gv, i7, none⟩)
          | 12 => v = .int .i64 ((y : Int))
          | 13 => v = .int .i64 ((x : Int) + ((s0 : Int)) + ((y : Int)))
          | 14 => v = .int .i64 ((s1 : Int))
          | 15 => v = .int .i64 ((x : Int) + ((s0 : Int)) + ((y : Int)) + ((s1 : Int)))
          | 16 => v = .int .i64 ((y9 : Int))
          | _ => ∃ g1, v = .slice (some ⟨g1, 0, none⟩) 1 1 ∧ IRow w' g1 [y9]) (by kernel_rfl) (by kernel_rfl) (Below.refl _ _) (fun _ _ _ h k => h.trans (k.mono h.size)) (fun k' w1 w2 v h => match k' with
          | 0 => fun x => x
          | 1 => fun x => x
          | 2 => fun x => x
          | 3 => fun x => x
          | 4 => fun x => x
          | 5 => fun x => x
          | 6 => fun x => x
          | 7 => fun x => x
          | 8 => fun x => x
          | 9 => fun x => x
          | 10 => fun x => x
          | 11 => fun x => x
          | 12 => fun x => x
          | 13 => fun x => x
          | 14 => fun x => x
          | 15 => fun x => x
          | 16 => fun x => x
          | _ + 17 => fun ⟨g1, e, x⟩ => ⟨g1, e, x.up h⟩) (fun _ _ _ _ _ h => h) ?_ _ (by rfl) ?_
        · refine obs_cons (by rfl) (fun vals w' hgr hdep K hK => ?_) (obs_cons (by rfl) (fun vals w' hgr hdep K hK => ?_) (obs_cons (by rfl) (fun vals w' hgr hdep K hK => ?_) (obs_cons (by rfl) (fun vals w' hgr hdep K hK => ?_) (obs_cons (by rfl) (fun vals w' hgr hdep K hK => ?_) (obs_cons (by rfl) (fun vals w' hgr hdep K hK => ?_) (obs_cons (by rfl) (fun vals w' hgr hdep K hK => ?_) (obs_cons (by rfl) (fun vals w' hgr hdep K hK => ?_) (obs_cons (by rfl) (fun vals w' hgr hdep K hK => ?_) (obs_cons (by rfl) (fun vals w' hgr hdep K hK => ?_) (obs_cons (by rfl) (fun vals w' hgr hdep K hK => ?_) (obs_cons (by rfl) (fun vals w' hgr hdep K hK => ?_) (obs_cons (by rfl) (fun vals w' hgr hdep K hK => ?_) (obs_cons (by rfl) (fun vals w' hgr hdep K hK => ?_) (obs_cons (by rfl) (fun vals w' hgr hdep K hK => ?_) (obs_cons (by rfl) (fun vals w' hgr hdep K hK => ?_) (obs_cons (by rfl) (fun vals w' hgr hdep K hK => ?_) (obs_cons (by rfl) (fun vals w' hgr hdep K hK => ?_) (obs_nil))))))))))))))))))
          · exact wp_move (.tmp 4) rfl _ (at_out _ (by kernel_rfl) rfl) (hK _ _ (Below.refl _ _) rfl)
          · exact wp_move (.tmp 4) rfl _ (at_out _ (by kernel_rfl) rfl) (hK _ _ (Below.refl _ _) rfl)
          · exact wp_move (.tmp 5) rfl _ (at_out _ (by kernel_rfl) rfl) (hK _ _ (Below.refl _ _) rfl)
          · exact wp_bin (.tmp 83) (.const (.int .i64 16)) rfl _ _ _ ((at_dst 2 (by kernel_rfl)).trans (hdep 2 (by simp) (by kernel_rfl))) rfl (b_sub _ _ _ _ _ (by omega) (by omega)) (hK _ _ (Below.refl _ _) rfl)
          · exact st_int_at0 (.tmp 82) (.tmp 84) rfl gv j cv i16 _ ((at_dst 1 (by kernel_rfl)).trans (hdep 1 (by simp) (by kernel_rfl))) ((at_dst 3 (by kernel_rfl)).trans (hdep 3 (by simp) (by kernel_rfl))) k16 b16 (hK _ _ (Below.refl _ _) rfl)
          · exact wp_load1 (.tmp 85) rfl ⟨gv, i16, none⟩ ((at_dst 4 (by kernel_rfl)).trans (hdep 4 (by simp) (by kernel_rfl))) Tryz.underlying3 rfl _ ((XC.out w' hgr).1) (hK _ _ (Below.refl _ _) rfl)
          · exact wp_move (.tmp 8) rfl _ (at_out _ (by kernel_rfl) rfl) (hK _ _ (Below.refl _ _) rfl)
          · exact wp_bin (.tmp 86) (.tmp 87) rfl _ _ _ ((at_dst 5 (by kernel_rfl)).trans (hdep 5 (by simp) (by kernel_rfl))) ((at_dst 6 (by kernel_rfl)).trans (hdep 6 (by simp) (by kernel_rfl))) (b_add _ _ _ _ _ (by omega) (by omega)) (hK _ _ (Below.refl _ _) rfl)
          · exact wp_move (.tmp 4) rfl _ (at_out _ (by kernel_rfl) rfl) (hK _ _ (Below.refl _ _) rfl)
          · exact wp_move (.tmp 5) rfl _ (at_out _ (by kernel_rfl) rfl) (hK _ _ (Below.refl _ _) rfl)
          · exact wp_bin (.tmp 90) (.const (.int .i64 7)) rfl _ _ _ ((at_dst 9 (by kernel_rfl)).trans (hdep 9 (by simp) (by kernel_rfl))) rfl (b_sub _ _ _ _ _ (by omega) (by omega)) (hK _ _ (Below.refl _ _) rfl)
          · exact st_int_at0 (.tmp 89) (.tmp 91) rfl gv j cv i7 _ ((at_dst 8 (by kernel_rfl)).trans (hdep 8 (by simp) (by kernel_rfl))) ((at_dst 10 (by kernel_rfl)).trans (hdep 10 (by simp) (by kernel_rfl))) k7 b7 (hK _ _ (Below.refl _ _) rfl)
          · exact wp_load1 (.tmp 92) rfl ⟨gv, i7, none⟩ ((at_dst 11 (by kernel_rfl)).trans (hdep 11 (by simp) (by kernel_rfl))) Tryz.underlying3 rfl _ ((XC.out w' hgr).2) (hK _ _ (Below.refl _ _) rfl)
          · exact wp_bin (.tmp 88) (.tmp 93) rfl _ _ _ ((at_dst 7 (by kernel_rfl)).trans (hdep 7 (by simp) (by kernel_rfl))) ((at_dst 12 (by kernel_rfl)).trans (hdep 12 (by simp) (by kernel_rfl))) (b_add _ _ _ _ _ (by omega) (by omega)) (hK _ _ (Below.refl _ _) rfl)
          · exact wp_move (.tmp 9) rfl _ (at_out _ (by kernel_rfl) rfl) (hK _ _ (Below.refl _ _) rfl)
          · exact wp_bin (.tmp 94) (.tmp 95) rfl _ _ _ ((at_dst 13 (by kernel_rfl)).trans (hdep 13 (by simp) (by kernel_rfl))) ((at_dst 14 (by kernel_rfl)).trans (hdep 14 (by simp) (by kernel_rfl))) (b_add _ _ _ _ _ (by omega) (by omega)) (hK _ _ (Below.refl _ _) rfl)
          · exact wp_bin (.tmp 96) (.const (.int .i64 4294967296)) rfl _ _ _ ((at_dst 15 (by kernel_rfl)).trans (hdep 15 (by simp) (by kernel_rfl))) rfl ((b_rem _ _ _ _ _ (by omega) (by omega) (by decide)).trans (by rw [YE.out])) (hK _ _ (Below.refl _ _) rfl)
          · exact st_slicei_1 (.tmp 97) rfl _ ((at_dst 16 (by kernel_rfl)).trans (hdep 16 (by simp) (by kernel_rfl))) (hK _ _ ((Below.refl _ _).alloc (Nat.le_refl _) _) ⟨_, rfl, IRow.new w' [y9]⟩)
        · intro vals w' hgr hG
          obtain ⟨A1, ea, la⟩ : ∃ g1, vals 17 = .slice (some ⟨g1, 0, none⟩) 1 1 ∧ IRow w' g1 [y9] := hG 17 (by simp)
          have GB := (below_drewN (Below.refl w5.heap.size w5) 1).trans hgr
          have O8 := HO5.out.up GB
          have B8 := HB5.out.trans (GB.mono HS5.out)
          refine st_append_ints (.tmp 81) (.tmp 98) rfl w.heap.size _ L ((at_dst 0 (by kernel_rfl)).trans (hG 0 (by simp))) (show IOwn w' w.heap.size (.slice (some ⟨gv, 0, none⟩) j cv) L by have := O8; rwa [HL.out] at this) A1 1 [y9] ((at_dst 17 (by kernel_rfl)).trans ea) (fun i hi => la.cell i hi) (by simp) (by rw [HL.out]; show j + 1 ≤ 1048576; omega) (Nat.le_trans HS5.out GB.size) (fun v9 w9 o9 g9 => ?_)
          refine wpAnyH_next 19 _ rfl rfl (by kernel_rfl) (st_assign (.tmp 99) _ rfl (put_tmps_eq (fill_size _ _ _) (by kernel_rfl)) ⟨trivial, wpAnyH_done (by kernel_rfl) ?_ _⟩)
          have OX : Hid (IOwn w9 w.heap.size v9 (L ++ [y9])) := Lib.hid o9
          have BX : Hid (Below w.heap.size w w9) := Lib.hid (B8.grown g9 (Nat.le_trans HS5.out GB.size) fun g hg => (O8.lt g hg).1)
          clear hG hgr GB O8 B8 la o9 g9
          simp only [fill, dstAt, List.getElem?_cons_zero, List.getElem?_cons_succ, Option.bind_some, Act.put, List.setIfInBounds_toArray, List.set_cons_zero, List.set_cons_succ]
          generalize vals 0 = z0, vals 1 = z1, vals 2 = z2, vals 3 = z3, vals 4 = z4, vals 5 = z5, vals 6 = z6, vals 7 = z7, vals 8 = z8, vals 9 = z9, vals 10 = z10, vals 11 = z11, vals 12 = z12, vals 13 = z13, vals 14 = z14, vals 15 = z15, vals 16 = z16, vals 17 = z17
          go_wp2_with fail
          go_roundw
          case rel => exact ⟨j + 1, _, by go_num, by omega, HL2, HW2, HF2, HG2, OX, BX⟩
          case measure => simp [intOf]; omega
    · obtain rfl : j = 64 := by omega
      have WF : Hid (L = words BB) := Lib.hid (HG.out (by decide))
      have OF := HO.out
      rw [WF.out] at OF
      have OH := Lib.hid OF
      clear HO OF HF HG
      go_wp2_with fail
      go_ret2
      exact ⟨_, rfl, OH.out, HB.out⟩
end Go.Proofs.YtdnkbefpbehllaaGreatDoor.ShaW

