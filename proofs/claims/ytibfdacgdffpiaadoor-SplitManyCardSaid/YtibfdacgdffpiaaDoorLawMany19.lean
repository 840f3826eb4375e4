/- SplitMany's walk, given Split's contract. -/
import Derived.Test.YtibfdacgdffpiaaDoorSplP
import Derived.LoopTactic
import Derived.BigQuiet
set_option linter.unusedVariables false
namespace Go.Proofs.YtibfdacgdffpiaaDoor.LawMany19
open Go.RowKit Go.Proofs.YtibfdacgdffpiaaDoor.Sums Go.Proofs.YtibfdacgdffpiaaDoor.Mem Go.Proofs.YtibfdacgdffpiaaDoor.Blk Go.Proofs.YtibfdacgdffpiaaDoor.Pkt Go.Proofs.YtibfdacgdffpiaaDoor.Check Go.Proofs.YtibfdacgdffpiaaDoor.SplD Go.Proofs.YtibfdacgdffpiaaDoor.SplM Go.Proofs.YtibfdacgdffpiaaDoor.SplP Go.Proofs.YtibfdacgdffpiaaDoor.Errno

def AwakeSpec : Prop := ∀ w : World, Handle w → Calls Tryd.prog 8 #[] w fun e w' => e = .returned (.bool true) ∧ Below w.heap.size w w'
attribute [local irreducible] wpList
set_option maxRecDepth 100000 in
set_option maxHeartbeats 2000000 in
theorem many_any (HS : SplitSpec) (AW : AwakeSpec) (x y : Int) (w : World) (hg : Handle w) : Calls Tryd.prog 5 #[.int .i64 x, .int .i64 y] w fun e w' => e = .returned (.bool true) ∧ Below w.heap.size w w' := by
  by_cases bad : x < 0 ∨ (¬ x < 0 ∧ 5000 < x) ∨ (¬ x < 0 ∧ ¬ 5000 < x ∧ y < 68) ∨ (¬ x < 0 ∧ ¬ 5000 < x ∧ ¬ y < 68 ∧ 6000 < y)
  · have H : Hid True := Lib.hid trivial
    clear HS AW hg
    rcases bad with a | ⟨a, b⟩ | ⟨a, b, c⟩ | ⟨a, b, c, d⟩
    · have a' : decide (x < 0) = true := decide_eq_true a
      clear a
      go_enter Tryd.func5, Tryd.ntmps5
      go_wp2_with fail
      go_ret
      exact ⟨rfl, Below.refl _ _⟩
    · have a' : decide (x < 0) = false := decide_eq_false a
      have b' : decide (5000 < x) = true := decide_eq_true b
      clear a b
      go_enter Tryd.func5, Tryd.ntmps5
      go_wp2_with fail
      go_ret
      exact ⟨rfl, Below.refl _ _⟩
    · have a' : decide (x < 0) = false := decide_eq_false a
      have b' : decide (5000 < x) = false := decide_eq_false b
      have c' : decide (y < 68) = true := decide_eq_true c
      clear a b c
      go_enter Tryd.func5, Tryd.ntmps5
      go_wp2_with fail
      go_ret
      exact ⟨rfl, Below.refl _ _⟩
    · have a' : decide (x < 0) = false := decide_eq_false a
      have b' : decide (5000 < x) = false := decide_eq_false b
      have c' : decide (y < 68) = false := decide_eq_false c
      have d' : decide (6000 < y) = true := decide_eq_true d
      clear a b c d
      go_enter Tryd.func5, Tryd.ntmps5
      go_wp2_with fail
      go_ret
      exact ⟨rfl, Below.refl _ _⟩
  obtain ⟨n, rfl⟩ : ∃ n : Nat, x = (n : Int) := ⟨x.toNat, by omega⟩
  obtain ⟨m, rfl⟩ : ∃ m : Nat, y = (m : Int) := ⟨y.toNat, by omega⟩
  have hn : n ≤ 5000 := by omega
  have hm : 68 ≤ m := by omega
  have hm2 : m ≤ 6000 := by omega
  have a' : decide ((n : Int) < 0) = false := decide_eq_false (by omega)
  have b' : decide ((5000 : Int) < (n : Int)) = false := decide_eq_false (by omega)
  have b2' : decide (5000 < n) = false := decide_eq_false (by omega)
  have c' : decide ((m : Int) < 68) = false := decide_eq_false (by omega)
  have c2' : decide (m < 68) = false := decide_eq_false (by omega)
  have d' : decide ((6000 : Int) < (m : Int)) = false := decide_eq_false (by omega)
  have d2' : decide (6000 < m) = false := decide_eq_false (by omega)
  obtain ⟨Z, hZ, mk0⟩ := make_z n (by omega)
  have mk := mk0 w
  have hh := Holds.lit w (List.replicate n (0 : Int)) Z hZ (by rw [List.length_replicate]; unfold maxLen; omega) (zero_bytes n)
  rw [List.length_replicate] at hh
  have B0 := Lib.hid ((Below.refl w.heap.size w).alloc (Nat.le_refl _) (.cells Z 5))
  have SC := Lib.hid (HS manyP (some ⟨w.heap.size, 0, none⟩) n n _ (List.replicate n (0 : Int)) (m : Int) (w.alloc (.cells Z 5)) (hg.keep ((Below.refl _ _).alloc (Nat.le_refl _) _)) hh (by simp) (by decide) (by omega) (by omega) (by omega))
  obtain ⟨r0, r1, r2⟩ := many_split n m hn hm
  obtain ⟨ps, hps⟩ : ∃ ps, (splitR manyP (List.replicate n (0 : Int)) (m : Int)).2 = ps := ⟨_, rfl⟩
  rw [r0, hps] at SC
  rw [hps] at r1 r2
  have R1 := Lib.hid r1
  have R2 := Lib.hid r2
  clear bad mk0 hh hZ r0 r1 r2 hps HS
  unfold val at SC
  go_enter Tryd.func5, Tryd.ntmps5
  go_wp2_with fail
  refine SC.out.mono ?_
  rintro e w1 ⟨⟨v, rfl, hp⟩, hb⟩
  have P1 := Lib.hid hp
  have B1 := Lib.hid (B0.out.trans (hb.mono B0.out.size))
  obtain ⟨A, c, rfl, -⟩ := hp
  have GH : Hid (∀ W, Below w.heap.size w W → Handle W) := Lib.hid fun W hW => hg.keep hW
  obtain ⟨tot, htot⟩ : ∃ tot, ps.length = tot := ⟨_, rfl⟩
  have HT := Lib.hid htot
  have tl : tot ≤ 5001 := by
    rw [← htot, R1.out]
    have := cuts_len (m := m) (o := 0) (lat := 0) (n := n) (n + 1) 0
    omega
  obtain ⟨r, hr⟩ : ∃ r, r = m - 20 := ⟨_, rfl⟩
  obtain ⟨q, hq⟩ : ∃ q, q = r / 8 := ⟨_, rfl⟩
  obtain ⟨fl, hfl⟩ : ∃ fl, fl = q * 8 := ⟨_, rfl⟩
  have f1 : IntKind.i64.wrap ((m : Int) - 20) = ((r : Nat) : Int) := by rw [IntWalk.i64_in _ (by omega)]; omega
  have f1b : (m : Int) - 20 = ((r : Nat) : Int) := by omega
  have f2 : ((r : Nat) : Int).tdiv 8 = ((q : Nat) : Int) := by rw [Int.tdiv_eq_ediv_of_nonneg (by omega), hq]; omega
  have f2b : IntKind.i64.wrap ((q : Nat) : Int) = ((q : Nat) : Int) := IntWalk.i64_in _ (by omega)
  have f3 : IntKind.i64.wrap (((q : Nat) : Int) * 8) = ((fl : Nat) : Int) := by rw [IntWalk.i64_in _ (by omega)]; omega
  have HF := Lib.hid (And.intro hr (And.intro hq hfl))
  rw [htot]
  clear hb htot SC B0 mk a' b' b2' c' c2' d' d2' hr hq hfl hg
  go_wp2_with fail
  clear f1 f1b f2 f2b f3
  go_loopw [9, 10] (fun wv lv wr => ∃ (k d : Nat), wv = .int .i64 (k : Int) ∧ lv = .int .i64 (d : Int) ∧ k ≤ 5001 ∧ d ≤ n ∧ Hid (∃ a f : Nat, a ≤ n ∧ d = n - a ∧ n - a < 8 * f ∧ k + (cuts m 0 0 n f a).length = tot + 1) ∧ Hid (PcsAt wr (.slice A ps.length c) ps) ∧ Hid (Below w.heap.size w wr)) (fun _ lv _ => (intOf lv).toNat)
  case atStart => exact ⟨1, n, rfl, rfl, by omega, Nat.le_refl _, Lib.hid ⟨0, n + 1, Nat.zero_le _, rfl, by omega, by rw [← HT.out, R1.out]; omega⟩, P1, B1⟩
  case round =>
    clear P1 B1
    obtain ⟨k, d, rfl, rfl, hk, hd, HC, HP, HB⟩ := hrel
    by_cases more : r < d
    · have g1 : decide ((r : Int) < (d : Int)) = true := decide_eq_true (by omega)
      have g2 : decide (r < d) = true := decide_eq_true more
      obtain ⟨a, f, ha, hda, hf, hc⟩ := HC.out
      obtain ⟨h1, h2, h3⟩ := HF.out
      have hw : Wide m 0 0 := ⟨by omega, by omega⟩
      have cc := cuts_count (m := m) (o := 0) (n := n) hw ha hf (by unfold room; split <;> omega)
      have e8 : a + (m - 20 - 0) / 8 * 8 = a + fl := by rw [h3, h2, h1, Nat.sub_zero]
      rw [e8] at cc
      have pos := cuts_some (m := m) (o := 0) (lat := 0) (n := n) (f - 1) (a + fl) cc.1
      obtain ⟨d2, hd2⟩ : ∃ d2, d2 = d - fl := ⟨_, rfl⟩
      have g3 : IntKind.i64.wrap ((d : Int) - (fl : Int)) = (d2 : Int) := by rw [IntWalk.i64_in _ (by omega)]; omega
      have g4 : (d : Int) - (fl : Int) = (d2 : Int) := by omega
      have HN : Hid (∃ a f : Nat, a ≤ n ∧ d2 = n - a ∧ n - a < 8 * f ∧ (k + 1) + (cuts m 0 0 n f a).length = tot + 1) := Lib.hid ⟨a + fl, f - 1, by omega, by omega, by omega, by omega⟩
      have k1 : k + 1 ≤ 5001 := by omega
      have dl : d2 < d := by omega
      have dn : d2 ≤ n := by omega
      clear hd2 HC cc e8 pos h1 h2 h3 hw ha hda hf hc
      go_wp2_with fail
      go_roundw
      case rel => exact ⟨k + 1, d2, by go_num, rfl, k1, dn, HN, HP, HB⟩
      case measure => simp [intOf]; omega
    · have g1 : decide ((r : Int) < (d : Int)) = false := decide_eq_false (by omega)
      have g2 : decide (r < d) = false := decide_eq_false more
      have kt : k = tot := by
        obtain ⟨a, f, ha, hda, hf, hc⟩ := HC.out
        obtain ⟨h1, h2, h3⟩ := HF.out
        obtain ⟨g, rfl⟩ : ∃ g, f = g + 1 := ⟨f - 1, by omega⟩
        rw [cuts_one (by unfold room; split <;> omega)] at hc
        simpa using hc
      subst kt
      clear HC more
      go_wp2_with fail
      clear g1 g2
      go_loopw [11] (fun iv wv => ∃ i : Nat, iv = .int .i64 (i : Int) ∧ i ≤ k ∧ Hid (PcsAt wv (.slice A ps.length c) ps) ∧ Hid (Below w.heap.size w wv)) (fun iv _ => k - (intOf iv).toNat)
      case atStart => exact ⟨0, rfl, Nat.zero_le _, HP, HB⟩
      case round =>
        clear HP HB
        obtain ⟨i, rfl, hi, HP, HB⟩ := hrel
        have i1 : IntKind.i64.wrap ((i : Int) + 1) = ((i + 1 : Nat) : Int) := by rw [IntWalk.i64_in _ (by omega)]; omega
        by_cases lt : i + 1 < k
        · have hx : ps[i]? = some (ps[i]'(by rw [HT.out]; omega)) := List.getElem?_eq_getElem _
          generalize ps[i]'(by rw [HT.out]; omega) = x at hx
          have xl := R2.out i x hx (by rw [HT.out]; exact lt)
          obtain ⟨A2, c2, e2, hat⟩ := HP.out
          obtain ⟨b, o, A', c', e3, hbl, hcl, -⟩ := hat i x hx
          injection e2 with e4 e5 e6
          subst e4
          subst e3
          have hd10 := hcl 10 _ rfl
          rw [xl] at hd10
          have e7 : (m - 20) / 8 * 8 = fl := by obtain ⟨h1, h2, h3⟩ := HF.out; rw [h3, h2, h1]
          rw [e7] at hd10
          have g1 : decide (((i : Int) + 1) < (k : Int)) = true := decide_eq_true (by omega)
          have g2 : decide (i + 1 < k) = true := decide_eq_true lt
          have g3 : ((fl : Int) != (fl : Int)) = false := by simp
          have ik : i < k := by omega
          clear hat hcl xl e7 e5 e6 hx
          go_wp2_with fail
          go_roundw
          case rel => exact ⟨i + 1, by go_num, by omega, HP, HB⟩
          case measure => simp [intOf]; omega
        · have g1 : decide (((i : Int) + 1) < (k : Int)) = false := decide_eq_false (by omega)
          have g2 : decide (i + 1 < k) = false := decide_eq_false lt
          have WQ := Lib.hid (fun W (hW : Below w.heap.size w W) => AW W (GH.out W hW))
          have kk : ((k : Int) == (k : Int)) = true := by simp
          go_wp2_with fail
          refine (WQ.out _ HB.out).mono ?_
          rintro e w6 ⟨rfl, hb6⟩
          have B6 := Lib.hid (HB.out.trans (hb6.mono HB.out.size))
          clear hb6 WQ HP HB
          go_wp2_with fail
          go_ret
          exact ⟨rfl, B6.out⟩
end Go.Proofs.YtibfdacgdffpiaaDoor.LawMany19
