/- WindowSlides. -/
import Derived.Test.YtcfphpcakigekaaLawOnce
set_option linter.unusedVariables false
namespace Go.Proofs.Ytcfphpcakigekaa.LawSlides
open Go.RowKit Go.Proofs.Ytcfphpcakigekaa.Sums Go.Proofs.Ytcfphpcakigekaa.Mem Go.Proofs.Ytcfphpcakigekaa.Blk Go.Proofs.Ytcfphpcakigekaa.Longs Go.Proofs.Ytcfphpcakigekaa.WinD Go.Proofs.Ytcfphpcakigekaa.WinA Go.Proofs.Ytcfphpcakigekaa.RngD Go.Proofs.Ytcfphpcakigekaa.Rng1 Go.Proofs.Ytcfphpcakigekaa.Rng2 Go.Proofs.Ytcfphpcakigekaa.Rng4 Go.Proofs.Ytcfphpcakigekaa.RngU Go.Proofs.Ytcfphpcakigekaa.RngA Go.Proofs.Ytcfphpcakigekaa.LawOnce

/-! ### Plain facts: the numbers 1 to m, and what swaps leave of them -/
def rg (m : Nat) : List Nat := List.range' 1 m
theorem rg_succ (k : Nat) : rg (k + 1) = rg k ++ [k + 1] := by
  unfold rg
  rw [List.range'_1_concat, Nat.add_comm 1 k]
theorem rg_len (m : Nat) : (rg m).length = m := by simp [rg]
def Pm (m : Nat) (l : List Nat) : Prop := List.Perm l (rg m)
theorem Pm.len {m : Nat} {l : List Nat} (h : Pm m l) : l.length = m := by rw [List.Perm.length_eq h, rg_len]
theorem Pm.mem {m x : Nat} {l : List Nat} (h : Pm m l) : x ∈ l ↔ 1 ≤ x ∧ x ≤ m := by
  rw [List.Perm.mem_iff h]
  unfold rg
  rw [List.mem_range'_1]
  omega
theorem Pm.nodup {m : Nat} {l : List Nat} (h : Pm m l) : l.Nodup := (List.Perm.nodup_iff h).2 (List.nodup_range' ..)
theorem getD_mem {l : List Nat} {i : Nat} (h : i < l.length) : l.getD i 0 ∈ l := by
  rw [List.getD_eq_getElem?_getD, List.getElem?_eq_getElem h]
  exact List.getElem_mem _
theorem set_far (l : List Nat) {j i : Nat} (z : Nat) (h : j ≠ i) : (l.set j z).getD i 0 = l.getD i 0 := by
  rw [List.getD_eq_getElem?_getD, List.getElem?_set_ne h, ← List.getD_eq_getElem?_getD]
theorem swap_perm : ∀ (i : Nat) (l : List Nat), i + 1 < l.length → List.Perm ((l.set i (l.getD (i + 1) 0)).set (i + 1) (l.getD i 0)) l
  | 0, a :: b :: t, _ => List.Perm.swap a b t
  | 0, [], h => by simp at h
  | 0, [a], h => by simp at h
  | i + 1, [], h => by simp at h
  | i + 1, a :: t, h => by
    have q := swap_perm i t (by simpa using h)
    simpa using List.Perm.cons a q
theorem Pm.swap {m i : Nat} {l : List Nat} (h : Pm m l) (hi : i + 1 < m) : Pm m ((l.set i (l.getD (i + 1) 0)).set (i + 1) (l.getD i 0)) := (swap_perm i l (by rw [h.len]; exact hi)).trans h
theorem top_of {m : Nat} {l : List Nat} (h : Pm m l) : top l = m := by
  rcases Nat.eq_zero_or_pos m with z | z
  · subst z
    have : l = [] := List.eq_nil_of_length_eq_zero h.len
    subst this
    rfl
  · have h1 := le_top (h.mem.2 ⟨z, Nat.le_refl m⟩)
    have h2 := h.mem.1 (top_mem (l := l) (by omega))
    omega
theorem not_ahead {l : List Nat} {k : Nat} (h : l.Nodup) (hk : k < l.length) : l.getD k 0 ∉ l.take k := by
  intro q
  rw [List.getD_eq_getElem?_getD, List.getElem?_eq_getElem hk] at q
  simp only [Option.getD_some] at q
  obtain ⟨j, hj, e⟩ := List.getElem_of_mem q
  rw [List.getElem_take] at e
  rw [List.length_take] at hj
  exact List.pairwise_iff_getElem.1 h j k (by omega) hk (by omega) e
theorem take_mem {l : List Nat} {k x : Nat} (hk : k < l.length) (h : x ∈ l.take k ∨ x = l.getD k 0) : x ∈ l.take (k + 1) := by
  rw [List.take_add_one, List.getElem?_eq_getElem hk]
  rw [List.getD_eq_getElem?_getD, List.getElem?_eq_getElem hk] at h
  rcases h with h | h
  · exact List.mem_append_left _ h
  · exact List.mem_append_right _ (by simp at h ⊢; exact h)
/-- What was taken of the first k. -/
structure Took (S : Nat) (Lv L : List Nat) (k a : Nat) : Prop where
  tl : a = top (Lv.take k)
  tt : top L = a
  sub : ∀ x ∈ L, x ∈ Lv.take k
theorem took_start (S : Nat) (Lv : List Nat) : Took S Lv [] 0 0 := ⟨rfl, rfl, fun _ h => (by cases h)⟩
theorem took_chk {S m k a : Nat} {Lv L : List Nat} (h : Took S Lv L k a) (hS : 64 ≤ S) (hP : Pm m Lv) (hk : k < m) : chk S true L (Lv.getD k 0) = if S ≤ max a (Lv.getD k 0) - Lv.getD k 0 then 120 else 0 := by
  have hl : k < Lv.length := by rw [hP.len]; exact hk
  have y1 := (hP.mem.1 (getD_mem hl)).1
  have nw : was L (Lv.getD k 0) = false := by
    cases q : was L (Lv.getD k 0)
    · rfl
    · exact absurd (h.sub _ (was_iff.1 q)) (not_ahead hP.nodup hl)
  generalize Lv.getD k 0 = y at *
  rw [chk_eq]
  unfold chkT old left
  rw [nw, h.tt, if_neg (by simp), Bool.or_false]
  by_cases c1 : y ≤ a
  · rw [Nat.max_eq_left c1]
    by_cases c2 : S ≤ a - y
    · rw [if_pos c2, if_pos]
      right
      rw [decide_eq_true (show S ≤ a by omega), decide_eq_true (show y ≤ a - S by omega)]; rfl
    · rw [if_neg c2, if_neg]
      intro q
      rcases q with q | q
      · omega
      · simp only [Bool.and_eq_true, decide_eq_true_eq] at q
        omega
  · rw [Nat.max_eq_right (by omega), if_neg (show ¬ S ≤ y - y by omega), if_neg]
    intro q
    rcases q with q | q
    · omega
    · simp only [Bool.and_eq_true, decide_eq_true_eq] at q
      omega
theorem took_next {S m k a : Nat} {Lv L : List Nat} (h : Took S Lv L k a) (hS : 64 ≤ S) (hP : Pm m Lv) (hk : k < m) : Took S Lv (acc S true L (Lv.getD k 0)) (k + 1) (max a (Lv.getD k 0)) := by
  have hl : k < Lv.length := by rw [hP.len]; exact hk
  have C := took_chk h hS hP hk
  refine ⟨by rw [top_take hl, ← h.tl], ?_, ?_⟩
  · unfold acc
    by_cases q : S ≤ max a (Lv.getD k 0) - Lv.getD k 0
    · rw [C, if_pos q, if_neg (by decide), h.tt]
      omega
    · rw [C, if_neg q, if_pos rfl, top_snoc, h.tt]
  · intro x hx
    unfold acc at hx
    split at hx
    · rcases List.mem_append.1 hx with q | q
      · exact take_mem hl (.inl (h.sub x q))
      · exact take_mem hl (.inr (by simpa using q))
    · exact take_mem hl (.inl (h.sub x hx))

theorem qvals_set (l : List Nat) (j z : Nat) : qvals (l.set j z) = (qvals l).set j (.int .u64 (z : Int)) := by simp [qvals, List.map_set]
section
variable {B : Nat} {w0 w w' : World} {g gr S m cap g5 : Nat} {wd : Bool} {L Lv : List Nat}
theorem one_put (h : One B w0 w g gr (.slice (some ⟨g5, 0, none⟩) m cap) S wd L Lv) (hm : Lv.length = m) (j z : Nat) : One B w0 (w.setCell ⟨g5, j, none⟩ (.int .u64 (z : Int))) g gr (.slice (some ⟨g5, 0, none⟩) m cap) S wd L (Lv.set j z) := by
  subst hm
  have q := World.ownsRow.stored h.own j (.int .u64 (z : Int))
  refine One.append h q.2 ?_ (.inl rfl)
  unfold QOwn
  rw [List.length_set, qvals_set]
  exact q.1
theorem one_cell (h : One B w0 w g gr (.slice (some ⟨g5, 0, none⟩) m cap) S wd L Lv) (hm : Lv.length = m) {j : Nat} (hj : j < m) : w.cell? ⟨g5, j, none⟩ = some (.int .u64 ((Lv.getD j 0 : Nat) : Int)) := by
  subst hm
  exact h.own.cell hj
theorem one_free (h : One B w0 w g gr (.slice (some ⟨g5, 0, none⟩) m cap) S wd L Lv) (hm : Lv.length = m) (j : Nat) : w.frozen? ⟨g5, j, none⟩ = false := by
  subst hm
  exact World.ownsRow.frozenAt h.own j
theorem one_form {v : Value} (h : One B w0 w g gr v S wd L Lv) {A : Option Addr} {c : Nat} (hv : v = .slice A m c) (hm : Lv.length = m) (h0 : 0 < m) : ∃ g5, A = some ⟨g5, 0, none⟩ := by
  subst hm
  obtain ⟨g5, cap, e, _⟩ := h.own.form h0
  rw [hv] at e
  injection e with e
  exact ⟨g5, e⟩
end

set_option maxRecDepth 100000 in
set_option maxHeartbeats 2000000 in
theorem slides_any (a0 a1 : Int) (A : Option Addr) (n c : Nat) (l : List Bool) (W : World) (hh : TRow W W.heap.size A n c l) : Calls Try.prog 7 #[.int .i64 a0, .int .i64 a1, .slice A n c] W fun e W' => e = .returned (.bool true) ∧ Below W.heap.size W W' := by
  have AW := Lib.hid awake_any
  by_cases hs : a0 < 64 ∨ 1024 < a0
  · have CN := Lib.hid (new_bad a0 true W hs)
    clear hh hs
    go_enter Try.func7, Try.ntmps7
    go_wp2_with fail
    refine CN.out.mono ?_
    rintro e w1 ⟨rfl, rfl⟩
    go_wp2_with fail
    refine (AW.out _).mono ?_
    rintro e w2 ⟨rfl, hb⟩
    go_wp2_with fail
    go_ret
    exact ⟨rfl, hb⟩
  obtain ⟨S, rfl⟩ : ∃ n : Nat, a0 = (n : Int) := ⟨a0.toNat, by omega⟩
  have sl : 64 ≤ S := by omega
  have sb : S ≤ 1024 := by omega
  have CN := Lib.hid (new_run (B := W.heap.size) (w0 := W) (w := W) S true (Nat.le_refl _) (Below.refl _ _) sl sb)
  by_cases hx : a1 < 0 ∨ 300 < a1 ∨ 400 < n
  · obtain ⟨x1, g1⟩ : ∃ x, decide (a1 < 0) = x := ⟨_, rfl⟩
    obtain ⟨x2, g2⟩ : ∃ x, decide (300 < a1) = x := ⟨_, rfl⟩
    obtain ⟨x3, g3⟩ : ∃ x, decide ((400 : Int) < (n : Int)) = x := ⟨_, rfl⟩
    have X : Hid (x1 = true ∨ x2 = true ∨ x3 = true) := Lib.hid (by
      rcases hx with q | q | q
      · exact .inl (by rw [← g1]; exact decide_eq_true q)
      · exact .inr (.inl (by rw [← g2]; exact decide_eq_true q))
      · exact .inr (.inr (by rw [← g3]; exact decide_eq_true (by omega))))
    clear hh hx hs sl sb
    go_enter Try.func7, Try.ntmps7
    cases x1 <;> cases x2 <;> cases x3
    all_goals first | (exfalso; have := X.out; revert this; decide) | skip
    all_goals
      clear X
      go_wp2_with fail
      refine CN.out.mono ?_
      rintro e w1 ⟨g, gr, rfl, h, _, _⟩
      have H1 := Lib.hid h
      clear h CN
      go_wp2_with fail
      refine (AW.out _).mono ?_
      rintro e w2 ⟨rfl, hb⟩
      have HB := Lib.hid (H1.out.bel.trans (hb.mono H1.out.size))
      clear hb
      go_wp2_with fail
      go_ret
      exact ⟨rfl, HB.out⟩
  obtain ⟨m, rfl⟩ : ∃ n : Nat, a1 = (n : Int) := ⟨a1.toNat, by omega⟩
  have m300 : m ≤ 300 := by omega
  have n400 : n ≤ 400 := by omega
  have g1 : decide ((m : Int) < 0) = false := decide_eq_false (by omega)
  have g2 : decide ((300 : Int) < (m : Int)) = false := decide_eq_false (by omega)
  have g3 : decide ((400 : Int) < (n : Int)) = false := decide_eq_false (by omega)
  have HQ := Lib.hid hh
  have SL := Lib.hid sl
  clear hx hs hh
  go_enter Try.func7, Try.ntmps7
  go_wp2_with fail
  refine CN.out.mono ?_
  rintro e w1 ⟨g, gr, rfl, h, _, _⟩
  have O0 : Hid (One W.heap.size W w1 g gr (.slice none 0 0) S true [] (rg 0)) := Lib.hid ⟨h, QOwn.nil _ _, fun e => (by cases e), fun e => (by cases e)⟩
  clear CN h
  go_wp2_with fail
  go_loopw [9, 10] (fun v iv wr => ∃ (k p : Nat) (v' : Value), iv = .int .i64 (p : Int) ∧ Hid (p = k + 1) ∧ p ≤ m + 1 ∧ v = v' ∧ Hid (One W.heap.size W wr g gr v' S true [] (rg k))) (fun _ iv _ => m + 2 - (intOf iv).toNat)
  case atStart => exact ⟨0, 1, _, rfl, Lib.hid rfl, by omega, rfl, O0⟩
  case round =>
    obtain ⟨k, p, v, rfl, HP, hp, hv, HO⟩ := hrel
    replace hv := hv.symm
    subst hv
    clear O0
    by_cases hlt : p ≤ m
    · have f1 : IntKind.u64.wrap (p : Int) = (p : Int) := IntWalk.u64_in _ (by omega)
      obtain ⟨p1, hp1⟩ : ∃ p1, p1 = p + 1 := ⟨_, rfl⟩
      have f2 : IntKind.i64.wrap ((p : Int) + 1) = (p1 : Int) := by rw [IntWalk.i64_in _ (by omega)]; omega
      obtain ⟨Av, cv, rfl⟩ := HO.out.own.shape
      have P1 := Lib.hid hp1
      have pb : p1 ≤ m + 1 := by omega
      clear hp1
      rw [rg_len] at HO ⊢
      go_wp2_with (at_builtin
                   refine wpList_append_long rfl (.tmp 54) (.tmp 57) rfl W.heap.size (.slice Av k cv) (rg k) rfl (HO.out.own.alloc _) wr.heap.size 1 [p] rfl (fun i hi => ?_) (Nat.lt_succ_self 0) (by have := HP.out; rw [rg_len]; show k + 1 ≤ 1048576; omega) (by have := HO.out.run.size; simp; omega) ?_
                   · obtain rfl : i = 0 := by simpa using hi
                     exact Blk.cell (Blk.new wr _ _) 0
                   intro g2 cap w5 o2 gr2 at2 lt2
                   have O5 : Hid (One W.heap.size W w5 g gr (.slice (some ⟨g2, 0, none⟩) (k + 1) cap) S true [] (rg (k + 1))) := Lib.hid (by
                     have q := One.append (HO.out.up ((Below.refl wr.heap.size wr).alloc (Nat.le_refl _) (.cells #[.int .u64 (p : Int)] 31))) gr2 o2 at2
                     rw [List.length_append, rg_len] at q
                     have e := rg_succ k
                     rw [← HP.out] at e
                     rw [show rg (k + 1) = rg p by rw [HP.out], e]
                     exact q)
                   clear o2 gr2 at2 lt2)
      go_roundw
      case rel => exact ⟨k + 1, p1, _, rfl, Lib.hid (by have := P1.out; have := HP.out; omega), by omega, rfl, by rw [rg_len]; exact O5⟩
      case measure => have := P1.out; simp [intOf]; omega
    · obtain rfl : k = m := by have := HP.out; omega
      obtain ⟨Av, cv, rfl⟩ := HO.out.own.shape
      rw [rg_len] at HO ⊢
      have PM0 : Hid (Pm k (rg k)) := Lib.hid (List.Perm.refl _)
      clear HP
      go_wp2_with fail
      go_loopw [11] (fun iv wr => ∃ (j : Nat) (Lv : List Nat), iv = .int .i64 (j : Int) ∧ j ≤ k ∧ Hid (Pm k Lv) ∧ Hid (One W.heap.size W wr g gr (.slice Av k cv) S true [] Lv)) (fun iv _ => k - (intOf iv).toNat)
      case atStart => exact ⟨0, _, rfl, by omega, PM0, HO⟩
      case round =>
        obtain ⟨j, Lv, rfl, hj, PM, HO⟩ := hrel
        clear PM0
        obtain ⟨j1, hj1⟩ : ∃ j1, j1 = j + 1 := ⟨_, rfl⟩
        have f1 : IntKind.i64.wrap ((j : Int) + 1) = (j1 : Int) := by rw [IntWalk.i64_in _ (by omega)]; omega
        by_cases hlt : j1 < k
        · have jk : j < k := by omega
          obtain ⟨g5, rfl⟩ := one_form HO.out rfl PM.out.len (by omega)
          have J1 := Lib.hid hj1
          clear hj1
          by_cases hin : j < n
          · obtain ⟨b, o, rfl, hb, hc⟩ := (HQ.out.below HO.out.run.bel).2 (by omega)
            have c3 := hc j hin
            clear hc hb
            generalize l.getD j false = sw at *
            cases sw
            · go_wp2_with fail
              go_roundw
              case rel => exact ⟨j1, Lv, rfl, by omega, PM, HO⟩
              case measure => have := J1.out; simp [intOf]; omega
            · have c4 := one_cell HO.out PM.out.len jk
              have c5 := one_cell HO.out PM.out.len hlt
              have f4 := one_free HO.out PM.out.len j
              have P2 : Hid (Pm k ((Lv.set j (Lv.getD j1 0)).set j1 (Lv.getD j 0))) := Lib.hid (by
                have q := PM.out.swap (i := j) (by have := J1.out; omega)
                rw [← J1.out] at q
                exact q)
              have O1 := Lib.hid (one_put HO.out PM.out.len j (Lv.getD j1 0))
              have l1 : (Lv.set j (Lv.getD j1 0)).length = k := by rw [List.length_set]; exact PM.out.len
              have d5 : (wr.setCell ⟨g5, j, none⟩ (.int .u64 ((Lv.getD j1 0 : Nat) : Int))).cell? ⟨g5, j1, none⟩ = some (.int .u64 ((Lv.getD j1 0 : Nat) : Int)) := by
                have q := one_cell O1.out l1 hlt
                rw [set_far Lv (Lv.getD j1 0) (show j ≠ j1 by have := J1.out; omega)] at q
                exact q
              have e5 := one_free O1.out l1 j1
              have O2 := Lib.hid (one_put O1.out l1 j1 (Lv.getD j 0))
              clear l1 O1
              generalize Lv.getD j1 0 = z2 at *
              generalize Lv.getD j 0 = z1 at *
              go_wp2_with fail
              go_roundw
              case rel => exact ⟨j1, _, rfl, by omega, P2, O2⟩
              case measure => have := J1.out; simp [intOf]; omega
          · have g4 : decide (j < n) = false := decide_eq_false hin
            go_wp2_with fail
            go_roundw
            case rel => exact ⟨j1, Lv, rfl, by omega, PM, HO⟩
            case measure => have := J1.out; simp [intOf]; omega
        · have g4 : decide (j1 < k) = false := decide_eq_false hlt
          clear hj1
          go_wp2_with fail
          go_loopw [13, 14] (fun av iv wr => ∃ (t a : Nat) (L : List Nat), iv = .int .i64 (t : Int) ∧ av = .int .i64 (a : Int) ∧ t ≤ k ∧ Hid (Took S Lv L t a) ∧ a ≤ 300 ∧ Hid (One W.heap.size W wr g gr (.slice Av k cv) S true L Lv)) (fun _ iv _ => k - (intOf iv).toNat)
          case atStart => exact ⟨0, 0, [], rfl, rfl, by omega, Lib.hid (took_start S Lv), by omega, HO⟩
          case round =>
            obtain ⟨t, a, L, rfl, rfl, ht, TK, ha, H3⟩ := hrel
            clear HO f1 g4
            by_cases hlt : t < k
            · obtain ⟨g5, rfl⟩ := one_form H3.out rfl PM.out.len (by omega)
              have c4 := one_cell H3.out PM.out.len hlt
              have CK := Lib.hid (took_chk TK.out SL.out PM.out hlt)
              have TN := Lib.hid (took_next TK.out SL.out PM.out hlt)
              have yb := (PM.out.mem.1 (getD_mem (l := Lv) (i := t) (by rw [PM.out.len]; exact hlt)))
              obtain ⟨y, hy⟩ : ∃ y, y = Lv.getD t 0 := ⟨_, rfl⟩
              rw [← hy] at c4 CK TN yb
              clear hy
              have yq : Hid (y < Q64) := Lib.hid (by unfold Q64; omega)
              have f5 : IntKind.i64.wrap (y : Int) = (y : Int) := IntWalk.i64_in _ (by omega)
              obtain ⟨a2, ha2⟩ : ∃ a2, a2 = max a y := ⟨_, rfl⟩
              rw [← ha2] at CK TN
              have f6 : max (a : Int) (y : Int) = (a2 : Int) := by omega
              obtain ⟨d, hd⟩ : ∃ d, d = a2 - y := ⟨_, rfl⟩
              have f7 : IntKind.i64.wrap ((a2 : Int) - (y : Int)) = (d : Int) := by rw [IntWalk.i64_in _ (by omega)]; omega
              have a300 : a2 ≤ 300 := by omega
              rw [← hd] at CK
              have P := Lib.hid (accept_run H3.out.run y yq.out)
              obtain ⟨late, g6⟩ : ∃ late, decide (S ≤ d) = late := ⟨_, rfl⟩
              have CE : Hid (chk S true L y = if late = true then 120 else 0) := Lib.hid (by
                rw [CK.out, ← g6]
                by_cases q : S ≤ d
                · rw [if_pos q, decide_eq_true q]; rfl
                · rw [if_neg q, decide_eq_false q]; rfl)
              clear CK ha2 hd yb
              cases late
              · have P2 := P.out
                rw [CE.out, if_neg (by decide)] at P2
                replace P2 := Lib.hid P2
                go_wp2_with fail
                refine P2.out.mono ?_
                rintro e w6 ⟨rfl, hr, hb⟩
                have O6 := Lib.hid (H3.out.acc_ hr hb)
                clear P P2 CE hr hb c4 H3
                go_wp2_with fail
                go_roundw
                case rel => exact ⟨t + 1, a2, _, by go_num, rfl, by omega, TN, a300, O6⟩
                case measure => simp [intOf]; omega
              · have P2 := P.out
                rw [CE.out, if_pos rfl] at P2
                replace P2 := Lib.hid P2
                go_wp2_with fail
                refine P2.out.mono ?_
                rintro e w6 ⟨rfl, hr, hb⟩
                have O6 := Lib.hid (H3.out.acc_ hr hb)
                clear P P2 CE hr hb c4 H3
                go_wp2_with fail
                go_roundw
                case rel => exact ⟨t + 1, a2, _, by go_num, rfl, by omega, TN, a300, O6⟩
                case measure => simp [intOf]; omega
            · obtain rfl : t = k := by omega
              have TE : Hid (top L = t) := Lib.hid (by
                rw [TK.out.tt, TK.out.tl, List.take_of_length_le (by rw [PM.out.len]; exact Nat.le_refl _)]
                exact top_of PM.out)
              have f5 : IntKind.i64.wrap (t : Int) = (t : Int) := IntWalk.i64_in _ (by omega)
              go_wp2_with fail
              refine (AW.out _).mono ?_
              rintro e w7 ⟨rfl, hb⟩
              have O7 := Lib.hid (H3.out.up hb)
              clear hb H3
              go_wp2_with fail
              refine (top_run O7.out.run).mono ?_
              rw [TE.out]
              rintro e w8 ⟨rfl, rfl⟩
              go_wp2_with fail
              go_ret
              exact ⟨rfl, O7.out.run.bel⟩
end Go.Proofs.Ytcfphpcakigekaa.LawSlides
