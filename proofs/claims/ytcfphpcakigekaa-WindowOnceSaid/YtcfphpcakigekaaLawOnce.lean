/- WindowOnce. -/
import Derived.Test.YtcfphpcakigekaaRngA
import Derived.Test.YtcfphpcakigekaaOpsL
set_option linter.unusedVariables false
namespace Go.Proofs.Ytcfphpcakigekaa.LawOnce
open Go.RowKit Go.Proofs.Ytcfphpcakigekaa.Sums Go.Proofs.Ytcfphpcakigekaa.Mem Go.Proofs.Ytcfphpcakigekaa.Blk Go.Proofs.Ytcfphpcakigekaa.Steps Go.Proofs.Ytcfphpcakigekaa.Free Go.Proofs.Ytcfphpcakigekaa.OpsL Go.Proofs.Ytcfphpcakigekaa.Longs Go.Proofs.Ytcfphpcakigekaa.WinD Go.Proofs.Ytcfphpcakigekaa.WinA Go.Proofs.Ytcfphpcakigekaa.RngD Go.Proofs.Ytcfphpcakigekaa.Rng1 Go.Proofs.Ytcfphpcakigekaa.Rng2 Go.Proofs.Ytcfphpcakigekaa.Rng4 Go.Proofs.Ytcfphpcakigekaa.RngU Go.Proofs.Ytcfphpcakigekaa.RngA

theorem ent_top : Enters Try.prog 16 := enters_of Try.func16 (by kernel_rfl) rfl
theorem ent_check : Enters Try.prog 12 := enters_of Try.func12 (by kernel_rfl) rfl
theorem but_below' {g B : Nat} {q : Option Nat} {w0 w w' : World} (h : Below B w0 w) (hb : But g q w w') (h1 : B ≤ g) (h2 : ∀ k, q = some k → B ≤ k) (hB : B ≤ w.heap.size) : Below B w0 w' :=
  ⟨hb.os.trans h.os, hb.tape.trans h.tape, hb.output.trans h.output, Nat.le_trans h.size hb.size, fun k hk => (hb.block k (by omega) (by omega) (fun e => by have := h2 k e.symm; omega)).trans (h.block k hk)⟩
/-- The window, and the row of what it took. -/
structure One (B : Nat) (w0 w : World) (g gr : Nat) (v : Value) (S : Nat) (wd : Bool) (L Lv : List Nat) : Prop where
  run : Run B w0 w g gr S wd L
  own : QOwn w B v Lv
  n3 : v.ownBlock ≠ some g
  n4 : v.ownBlock ≠ some gr
section
variable {B : Nat} {w0 w w' : World} {g gr S : Nat} {v : Value} {wd : Bool} {L L' Lv Lv' : List Nat}
theorem One.up (h : One B w0 w g gr v S wd L Lv) (hb : Below w.heap.size w w') : One B w0 w' g gr v S wd L Lv := ⟨h.run.up hb, h.own.up hb, h.n3, h.n4⟩
theorem own_but {k : Nat} {q : Option Nat} (h : QOwn w B v Lv) (hb : But k q w w') (h3 : v.ownBlock ≠ some k) (h4 : v.ownBlock = none ∨ v.ownBlock ≠ q) : QOwn w' B v Lv := by
  refine ⟨h.1, ?_⟩
  rcases h.2 with hn | ⟨b, cap, cur, rfl, hb', hg, rest⟩
  · exact .inl hn
  · refine .inr ⟨b, cap, cur, rfl, hb', ?_, rest⟩
    refine (hb.block b ?_ (fun e => h3 (by rw [e]; rfl)) (fun e => ?_)).trans hg
    · rcases Nat.lt_or_ge b w.heap.size with q | q
      · exact q
      · rw [Array.getElem?_eq_none q] at hg; cases hg
    · rcases h4 with z | z
      · cases z
      · exact z e
theorem One.acc_ (h : One B w0 w g gr v S wd L Lv) (hr : Run B w0 w' g gr S wd L') (hb : But g (some gr) w w') : One B w0 w' g gr v S wd L' Lv := ⟨hr, own_but h.own hb h.n3 (.inr h.n4), h.n3, h.n4⟩
theorem One.append {g2 n cap : Nat} (h : One B w0 w g gr v S wd L Lv) (hg : w.grownBy w' v.ownBlock) (o : QOwn w' B (.slice (some ⟨g2, 0, none⟩) n cap) Lv') (ha : v.ownBlock = some g2 ∨ g2 = w.heap.size) : One B w0 w' g gr (.slice (some ⟨g2, 0, none⟩) n cap) S wd L Lv' := by
  have lg := has_lt h.run.has
  have hb : But w.heap.size v.ownBlock w w' := ⟨hg.os, hg.tape, hg.output, hg.size, fun k hk _ hq => hg.block k hk hq⟩
  refine ⟨⟨h.run.has.but hb (by omega) (by omega) (fun e => h.n3 e.symm) (fun e => h.n4 e.symm), but_below' h.run.bel hb h.run.size (fun k hk => (h.own.lt k hk).1) h.run.size, h.run.g0, h.run.gr0, h.run.b0⟩, o, ?_, ?_⟩
  · intro e
    have e : g2 = g := by simpa [Value.ownBlock] using e
    rcases ha with q | q
    · exact h.n3 (by rw [q, e])
    · omega
  · intro e
    have e : g2 = gr := by simpa [Value.ownBlock] using e
    rcases ha with q | q
    · exact h.n4 (by rw [q, e])
    · omega
end

set_option maxRecDepth 100000 in
set_option maxHeartbeats 2000000 in
theorem once_any (a0 : Int) (wd : Bool) (A : Option Addr) (n c : Nat) (l : List Nat) (W : World) (hh : QRow W W.heap.size A n c l) : Calls Try.prog 4 #[.int .i64 a0, .bool wd, .slice A n c] W fun e W' => e = .returned (.bool true) ∧ Below W.heap.size W W' := by
  have AW := Lib.hid awake_any
  by_cases hs : a0 < 64 ∨ 1024 < a0
  · have CN := Lib.hid (new_bad a0 wd W hs)
    obtain ⟨z, g1⟩ : ∃ z, decide ((200 : Int) < (n : Int)) = z := ⟨_, rfl⟩
    clear hh hs
    go_enter Try.func4, Try.ntmps4
    cases z
    all_goals
      go_wp2_with fail
      refine CN.out.mono ?_
      rintro e w1 ⟨rfl, rfl⟩
      go_wp2_with fail
      refine (AW.out _).mono ?_
      rintro e w2 ⟨rfl, hb⟩
      go_wp2_with fail
      go_ret
      exact ⟨rfl, hb⟩
  obtain ⟨S, rfl⟩ : ∃ n : Nat, a0 = (n : Int) := ⟨a0.toNat, by omega⟩
  have sl : 64 ≤ S := by omega
  have sb : S ≤ 1024 := by omega
  have CN := Lib.hid (new_run (B := W.heap.size) (w0 := W) (w := W) S wd (Nat.le_refl _) (Below.refl _ _) sl sb)
  by_cases hn : 200 < n
  · have g1 : decide ((200 : Int) < (n : Int)) = true := decide_eq_true (by omega)
    clear hh hn hs sl sb
    go_enter Try.func4, Try.ntmps4
    go_wp2_with fail
    refine CN.out.mono ?_
    rintro e w1 ⟨g, gr, rfl, h, _, _⟩
    have H1 := Lib.hid h
    clear h CN
    go_wp2_with fail
    refine (AW.out _).mono ?_
    rintro e w2 ⟨rfl, hb⟩
    have HB := Lib.hid (H1.out.bel.trans (hb.mono H1.out.size))
    clear hb
    go_wp2_with fail
    go_ret
    exact ⟨rfl, HB.out⟩
  have gn : decide ((200 : Int) < (n : Int)) = false := decide_eq_false (by omega)
  have n2 : n ≤ 200 := by omega
  have HQ := Lib.hid hh
  clear hs hn hh
  go_enter Try.func4, Try.ntmps4
  go_wp2_with fail
  refine CN.out.mono ?_
  rintro e w1 ⟨g, gr, rfl, h, _, _⟩
  have O0 : Hid (One W.heap.size W w1 g gr (.slice none 0 0) S wd [] []) := Lib.hid ⟨h, QOwn.nil _ _, fun e => (by cases e), fun e => (by cases e)⟩
  clear CN h
  go_wp2_with fail
  go_loopw [9, 10] (fun v kv wr => ∃ (k : Nat) (v' : Value) (L : List Nat), kv = .int .i64 (k : Int) ∧ k ≤ n ∧ v = v' ∧ Hid (One W.heap.size W wr g gr v' S wd L L) ∧ Hid (L.length ≤ k)) (fun _ kv _ => n - (intOf kv).toNat)
  case atStart => exact ⟨0, _, [], rfl, by omega, rfl, O0, Lib.hid (Nat.le_refl _)⟩
  case round =>
    obtain ⟨k, v, L, rfl, hk, hv, HO, HL⟩ := hrel
    replace hv := hv.symm
    subst hv
    clear O0
    by_cases hlt : k < n
    · have LQ := Lib.hid (HQ.out.lt hlt)
      obtain ⟨b, o, rfl, hb, hc⟩ := HQ.out.2.2 (by omega)
      have XC : Hid (∀ w', Below W.heap.size W w' → w'.cell? ⟨b, o + k, none⟩ = some (.int .u64 ((l.getD k 0 : Nat) : Int))) := Lib.hid fun w' hw => (hw.cell (p := ⟨b, o + k, none⟩) hb).trans (hc k hlt)
      clear hc hb
      generalize l.getD k 0 = y at *
      obtain ⟨Av, cv, rfl⟩ := HO.out.own.shape
      obtain ⟨N, hN⟩ : ∃ N, N = L.length := ⟨_, rfl⟩
      rw [← hN] at HO HL ⊢
      have HN := Lib.hid hN
      clear hN
      have nb : N ≤ 200 := by have := HL.out; omega
      have c3 := XC.out wr HO.out.run.bel
      go_wp2_with fail
      refine (top_run HO.out.run).mono ?_
      rintro e x1 ⟨rfl, rfl⟩
      obtain ⟨T, hT⟩ : ∃ T, T = top L := ⟨_, rfl⟩
      rw [← hT]
      have TL := Lib.hid hT
      clear hT
      go_wp2_with fail
      refine (check_run HO.out.run y LQ.out).mono ?_
      rintro e w2 ⟨rfl, _, hb⟩
      have O2 := Lib.hid (HO.out.up hb)
      clear hb HO
      have c4 := XC.out w2 O2.out.run.bel
      obtain ⟨p, hp⟩ : ∃ p, p = chk S wd L y := ⟨_, rfl⟩
      rw [← hp]
      have HP := Lib.hid hp
      clear hp
      go_wp2_with fail
      refine (accept_run O2.out.run y LQ.out).mono ?_
      rw [← HP.out]
      rintro e w3 ⟨rfl, hr, hb⟩
      have O3 := Lib.hid (O2.out.acc_ hr hb)
      clear hr hb O2
      by_cases hp : p = 0
      · subst hp
        have AE : Hid (acc S wd L y = L ++ [y]) := Lib.hid (by unfold acc; rw [if_pos HP.out.symm])
        rw [AE.out] at O3
        have NI : Hid (∀ j, j < N → ((L.getD j 0 : Nat) : Int) ≠ (y : Int)) := Lib.hid fun j hj e => by
          have h1 := chk_old HP.out.symm
          have h2 : y ∈ L := by
            have : L.getD j 0 = y := by omega
            rw [← this, List.getD_eq_getElem?_getD, List.getElem?_eq_getElem (by rw [← HN.out]; exact hj)]
            exact List.getElem_mem _
          unfold old at h1
          rw [was_iff.2 h2, Bool.or_true] at h1
          cases h1
        have C2 : Hid (chk S wd (L ++ [y]) y = 120) := Lib.hid (by
          have h0 := HP.out.symm
          rw [chk_eq] at h0 ⊢
          unfold chkT at h0 ⊢
          split at h0
          · cases h0
          · rename_i h3
            rw [if_neg h3, if_pos]
            right
            unfold old
            rw [was_iff.2 (by simp), Bool.or_true])
        clear AE HP
        go_wp2_with fail
        go_loopw [14] (fun jv wr => ∃ j : Nat, jv = .int .i64 (j : Int) ∧ j ≤ N ∧ Hid (One W.heap.size W wr g gr (.slice Av N cv) S wd (L ++ [y]) L)) (fun jv _ => N - (intOf jv).toNat)
        case atStart => exact ⟨0, rfl, by omega, O3⟩
        case round =>
          obtain ⟨j, rfl, hj, O4⟩ := hrel
          clear O3
          by_cases hl2 : j < N
          · obtain ⟨g5, cap, e5, _⟩ := O4.out.own.form (by rw [← HN.out]; omega)
            have e6 : Av = some ⟨g5, 0, none⟩ := by injection e5
            subst e6
            have e7 := (show QOwn wr W.heap.size (.slice (some ⟨g5, 0, none⟩) L.length cv) L by rw [← HN.out]; exact O4.out.own).cell (i := j) (by rw [← HN.out]; exact hl2)
            have c6 := XC.out wr O4.out.run.bel
            have g1 : (((L.getD j 0 : Nat) : Int) == (y : Int)) = false := beq_eq_false_iff_ne.2 (NI.out j hl2)
            generalize L.getD j 0 = z at *
            clear e5 c3 c4
            go_wp2_with fail
            go_quiet (fail)
            have O5 := Lib.hid (O4.out.up (below_drewN (Below.refl wr.heap.size wr) nq))
            clear O4 e7 c6
            generalize wr.drewN nq = w5 at *
            go_wp2_with fail
            go_roundw
            case rel => exact ⟨j + 1, by go_num, by omega, O5⟩
            case measure => simp [intOf]; omega
          · obtain rfl : j = N := by omega
            have c7 := XC.out wr O4.out.run.bel
            clear c3 c4 NI
            go_wp2_with (at_builtin
                         refine wpList_append_long rfl (.tmp 90) (.tmp 95) rfl W.heap.size (.slice Av j cv) L rfl (O4.out.own.alloc _) wr.heap.size 1 [y] rfl (fun i hi => ?_) (Nat.lt_succ_self 0) (by have := HN.out; show L.length + 1 ≤ 1048576; omega) (by have := O4.out.run.size; simp; omega) ?_
                         · obtain rfl : i = 0 := by simpa using hi
                           exact Blk.cell (Blk.new wr _ _) 0
                         intro g2 cap w5 o2 gr2 at2 lt2
                         have O5 : Hid (One W.heap.size W w5 g gr (.slice (some ⟨g2, 0, none⟩) (j + 1) cap) S wd (L ++ [y]) (L ++ [y])) := Lib.hid (by
                           have q := One.append (O4.out.up ((Below.refl wr.heap.size wr).alloc (Nat.le_refl _) (.cells #[.int .u64 (y : Int)] 31))) gr2 o2 at2
                           rw [List.length_append, ← HN.out] at q
                           exact q)
                         clear o2 gr2 at2 lt2)
            clear O4 c7
            have X3 : Hid (∀ w', Below w5.drew.heap.size w5.drew w' → w'.cell? ⟨b, o + k, none⟩ = some (.int .u64 (y : Int))) := Lib.hid fun w' hw => XC.out w' (O5.out.up ((below_drewN (Below.refl w5.heap.size w5) 1).trans hw)).run.bel
            obtain ⟨T2, hT2⟩ : ∃ T2, T2 = top (L ++ [y]) := ⟨_, rfl⟩
            have MX : Hid (max (T : Int) (y : Int) = (T2 : Int)) := Lib.hid (by rw [hT2, top_snoc, ← TL.out]; omega)
            have CT : Hid (∀ w', Below w5.drew.heap.size w5.drew w' → Calls Try.prog 16 #[.pointer (some ⟨g, 0, none⟩)] w' fun e w'' => e = .returned (.int .u64 (T2 : Int)) ∧ w' = w'') := Lib.hid fun w' hw => by
              rw [hT2]
              exact top_run (O5.out.up ((below_drewN (Below.refl w5.heap.size w5) 1).trans hw)).run
            have CC : Hid (∀ w', Below w5.drew.heap.size w5.drew w' → Calls Try.prog 12 #[.pointer (some ⟨g, 0, none⟩), .int .u64 (y : Int)] w' fun e w'' => e = .returned (.int .i64 120) ∧ Below w'.heap.size w' w'') := Lib.hid fun w' hw => by
              have q := check_run (O5.out.up ((below_drewN (Below.refl w5.heap.size w5) 1).trans hw)).run y LQ.out
              rw [C2.out] at q
              exact q.mono fun e w'' ⟨h1, h2, h3⟩ => ⟨h1, h3⟩
            clear hT2 C2
            -- REGION 22
            refine wp_region_freeP [0, 1, 2, 3, 4, 5, 6, 7, 8, 9, 10, 11, 12, 13, 14, 15, 16] 17 [] [(9, false)] (fun w1 w2 => Below w1.heap.size w1 w2) (fun k' w' v => match k' with
              | 0 => v = .pointer (some ⟨g, 0, none⟩)
              | 1 => v = .int .u64 (T2 : Int)
              | 2 => v = .int .u64 (T : Int)
              | 3 => v = .slice (some ⟨b, o, none⟩) n c
              | 4 => v = .int .i64 (k : Int)
              | 5 => v = .pointer (some ⟨b, o + k, none⟩)
              | 6 => v = .int .u64 (y : Int)
              | 7 => v = .int .u64 (T2 : Int)
              | 8 => v = .bool false
              | 9 => v = .bool false
              | 10 => v = .pointer (some ⟨g, 0, none⟩)
              | 11 => v = .slice (some ⟨b, o, none⟩) n c
              | 12 => v = .int .i64 (k : Int)
              | 13 => v = .pointer (some ⟨b, o + k, none⟩)
              | 14 => v = .int .u64 (y : Int)
              | 15 => v = .int .i64 120
              | _ => v = .bool false) (by kernel_rfl) (by kernel_rfl) (fun q hq w v hv => ?_) (Below.refl _ _) (fun _ _ _ h k => h.trans (k.mono h.size)) (fun k' w1 w2 v h => match k' with
              | 0 => fun x => x
              | 1 => fun x => x
              | 2 => fun x => x
              | 3 => fun x => x
              | 4 => fun x => x
              | 5 => fun x => x
              | 6 => fun x => x
              | 7 => fun x => x
              | 8 => fun x => x
              | 9 => fun x => x
              | 10 => fun x => x
              | 11 => fun x => x
              | 12 => fun x => x
              | 13 => fun x => x
              | 14 => fun x => x
              | 15 => fun x => x
              | _ + 16 => fun x => x) (fun _ _ _ _ _ h => h) ?_ _ (by rfl) ?_
            · simp only [List.mem_cons, List.not_mem_nil, or_false] at hq
              rcases hq with rfl <;> exact hv
            · refine obs_cons (by rfl) (fun vals w' hgr hdep K hK => ?_) (obs_cons (by rfl) (fun vals w' hgr hdep K hK => ?_) (obs_cons (by rfl) (fun vals w' hgr hdep K hK => ?_) (obs_cons (by rfl) (fun vals w' hgr hdep K hK => ?_) (obs_cons (by rfl) (fun vals w' hgr hdep K hK => ?_) (obs_cons (by rfl) (fun vals w' hgr hdep K hK => ?_) (obs_cons (by rfl) (fun vals w' hgr hdep K hK => ?_) (obs_cons (by rfl) (fun vals w' hgr hdep K hK => ?_) (obs_cons (by rfl) (fun vals w' hgr hdep K hK => ?_) (obs_cons (by rfl) (fun vals w' hgr hdep K hK => ?_) (obs_cons (by rfl) (fun vals w' hgr hdep K hK => ?_) (obs_cons (by rfl) (fun vals w' hgr hdep K hK => ?_) (obs_cons (by rfl) (fun vals w' hgr hdep K hK => ?_) (obs_cons (by rfl) (fun vals w' hgr hdep K hK => ?_) (obs_cons (by rfl) (fun vals w' hgr hdep K hK => ?_) (obs_cons (by rfl) (fun vals w' hgr hdep K hK => ?_) (obs_cons (by rfl) (fun vals w' hgr hdep K hK => ?_) (obs_nil)))))))))))))))))
              · exact wp_move (.tmp 7) rfl _ (at_out _ (by kernel_rfl) rfl) (hK _ _ (Below.refl _ _) rfl)
              · exact wp_call 16 [.tmp 97] _ rfl ent_top [.pointer (some ⟨g, 0, none⟩)] (congrArg (fun z => [z]) ((at_dst 0 (by kernel_rfl)).trans (hdep 0 (by simp) (by kernel_rfl)))) (fun v w'' => v = .int .u64 (T2 : Int) ∧ w' = w'') ((CT.out w' hgr).mono fun e w'' ⟨h1, h2⟩ => ⟨_, h1, rfl, h2⟩) (fun v w'' ⟨h1, h2⟩ => by subst h2; exact hK _ _ (Below.refl _ _) h1)
              · exact wp_move (.tmp 11) rfl _ (at_out _ (by kernel_rfl) rfl) (hK _ _ (Below.refl _ _) rfl)
              · exact wp_move (.tmp 2) rfl _ (at_out _ (by kernel_rfl) rfl) (hK _ _ (Below.refl _ _) rfl)
              · exact wp_move (.tmp 10) rfl _ (at_out _ (by kernel_rfl) rfl) (hK _ _ (Below.refl _ _) rfl)
              · exact st_long_at (.tmp 100) (.tmp 101) rfl b o n c k ((at_dst 3 (by kernel_rfl)).trans (hdep 3 (by simp) (by kernel_rfl))) ((at_dst 4 (by kernel_rfl)).trans (hdep 4 (by simp) (by kernel_rfl))) hlt (hK _ _ (Below.refl _ _) rfl)
              · exact wp_load1 (.tmp 102) rfl ⟨b, o + k, none⟩ ((at_dst 5 (by kernel_rfl)).trans (hdep 5 (by simp) (by kernel_rfl))) Try.underlying31 rfl _ (X3.out w' hgr) (hK _ _ (Below.refl _ _) rfl)
              · exact st_max_q (.tmp 99) (.tmp 103) rfl _ _ _ ((at_dst 2 (by kernel_rfl)).trans (hdep 2 (by simp) (by kernel_rfl))) ((at_dst 6 (by kernel_rfl)).trans (hdep 6 (by simp) (by kernel_rfl))) MX.out (hK _ _ (Below.refl _ _) rfl)
              · exact wp_bin (.tmp 98) (.tmp 104) rfl _ _ _ ((at_dst 1 (by kernel_rfl)).trans (hdep 1 (by simp) (by kernel_rfl))) ((at_dst 7 (by kernel_rfl)).trans (hdep 7 (by simp) (by kernel_rfl))) (b_neq_q _ _ _ (by simp) _ _ _) (hK _ _ (Below.refl _ _) rfl)
              · exact wp_move (.tmp 105) rfl _ ((at_dst 8 (by kernel_rfl)).trans (hdep 8 (by simp) (by kernel_rfl))) (hK _ _ (Below.refl _ _) rfl)
              · exact wp_move (.tmp 7) rfl _ (at_out _ (by kernel_rfl) rfl) (hK _ _ (Below.refl _ _) rfl)
              · exact wp_move (.tmp 2) rfl _ (at_out _ (by kernel_rfl) rfl) (hK _ _ (Below.refl _ _) rfl)
              · exact wp_move (.tmp 10) rfl _ (at_out _ (by kernel_rfl) rfl) (hK _ _ (Below.refl _ _) rfl)
              · exact st_long_at (.tmp 108) (.tmp 109) rfl b o n c k ((at_dst 11 (by kernel_rfl)).trans (hdep 11 (by simp) (by kernel_rfl))) ((at_dst 12 (by kernel_rfl)).trans (hdep 12 (by simp) (by kernel_rfl))) hlt (hK _ _ (Below.refl _ _) rfl)
              · exact wp_load1 (.tmp 110) rfl ⟨b, o + k, none⟩ ((at_dst 13 (by kernel_rfl)).trans (hdep 13 (by simp) (by kernel_rfl))) Try.underlying31 rfl _ (X3.out w' hgr) (hK _ _ (Below.refl _ _) rfl)
              · exact wp_call 12 [.tmp 107, .tmp 111] _ rfl ent_check [.pointer (some ⟨g, 0, none⟩), .int .u64 (y : Int)] (list2 ((at_dst 10 (by kernel_rfl)).trans (hdep 10 (by simp) (by kernel_rfl))) ((at_dst 14 (by kernel_rfl)).trans (hdep 14 (by simp) (by kernel_rfl)))) (fun v w'' => v = .int .i64 120 ∧ Below w'.heap.size w' w'') ((CC.out w' hgr).mono fun e w'' ⟨h1, h2⟩ => ⟨_, h1, rfl, h2⟩) (fun v w'' ⟨h1, h2⟩ => hK _ _ h2 h1)
              · exact wp_bin (.tmp 112) (.const (.int .i64 120)) rfl _ _ _ ((at_dst 15 (by kernel_rfl)).trans (hdep 15 (by simp) (by kernel_rfl))) rfl (b_neq_e _ _ _ (by simp) _ _ _) (hK _ _ (Below.refl _ _) rfl)
            · intro vals w' hgr hG
              refine st_pickF (.tmp 106) (.const (.bool true)) (.tmp 113) rfl _ ((at_dst 9 (by kernel_rfl)).trans (hG 9 (by simp))) ((at_dst 16 (by kernel_rfl)).trans (hG 16 (by simp))) (wpAnyH_done (by kernel_rfl) ?_ _)
              have O7 := Lib.hid (O5.out.up ((below_drewN (Below.refl w5.heap.size w5) 1).trans hgr))
              clear hG hgr O5 CT CC X3 MX
              simp only [fill, dstAt, List.getElem?_cons_zero, List.getElem?_cons_succ, Option.bind_some, Act.put, List.setIfInBounds_toArray, List.set_cons_zero, List.set_cons_succ]
              generalize vals 0 = z0, vals 1 = z1, vals 2 = z2, vals 3 = z3, vals 4 = z4, vals 5 = z5, vals 6 = z6, vals 7 = z7, vals 8 = z8, vals 9 = z9, vals 10 = z10, vals 11 = z11, vals 12 = z12, vals 13 = z13, vals 14 = z14, vals 15 = z15, vals 16 = z16 at *
              generalize w' = w7 at *
              go_wp2_with fail
              go_roundw
              case rel => exact ⟨k + 1, _, L ++ [y], by go_num, by omega, rfl, by rw [← HN.out]; exact O7, Lib.hid (by have := HL.out; have := HN.out; simp; omega)⟩
              case measure => simp [intOf]; omega
      · have AE : Hid (acc S wd L y = L) := Lib.hid (by unfold acc; rw [if_neg (by rw [← HP.out]; exact hp)])
        rw [AE.out] at O3
        have g1 : ((p : Int) == 0) = false := by rw [beq_eq_false_iff_ne]; omega
        have g2 : ((p : Int) != 0) = true := by rw [bne, g1]; rfl
        clear AE HP c3 c4 XC
        go_wp2_with fail
        refine (top_run O3.out.run).mono ?_
        rw [← TL.out]
        rintro e x1 ⟨rfl, rfl⟩
        go_wp2_with fail
        go_roundw
        case rel => exact ⟨k + 1, _, L, by go_num, by omega, rfl, O3, Lib.hid (by have := HL.out; have := HN.out; omega)⟩
        case measure => simp [intOf]; omega
    · obtain rfl : k = n := by omega
      go_wp2_with fail
      refine (AW.out _).mono ?_
      rintro e x3 ⟨rfl, hb⟩
      have HB := Lib.hid (HO.out.run.bel.trans (hb.mono HO.out.run.size))
      clear hb
      go_wp2_with fail
      go_ret
      exact ⟨rfl, HB.out⟩
end Go.Proofs.Ytcfphpcakigekaa.LawOnce
