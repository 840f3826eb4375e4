/- JoinFull: plain facts. -/
import Derived.Test.YtnpggkpcadefjaaDoorM21
set_option linter.unusedVariables false
set_option maxRecDepth 100000
namespace Go.Proofs.YtnpggkpcadefjaaDoor.LawFullD
open Go.RowKit Go.Proofs.YtnpggkpcadefjaaDoor.Sums Go.Proofs.YtnpggkpcadefjaaDoor.Mem Go.Proofs.YtnpggkpcadefjaaDoor.Pkt Go.Proofs.YtnpggkpcadefjaaDoor.Check Go.Proofs.YtnpggkpcadefjaaDoor.JoiM Go.Proofs.YtnpggkpcadefjaaDoor.JoiP Go.Proofs.YtnpggkpcadefjaaDoor.JoiA

def idP (off : Int) (mf : Bool) (i : Nat) : Pkt := { pcP off mf with id := 100 + (i : Int) }
def xF (i : Nat) : Frag := (idP 8 false i, nums xyzS)
def yF (i : Nat) : Frag := (idP 0 true i, nums numS)
def zF (i : Nat) : Frag := (idP 0 false i, nums numS ++ nums xyzS)
def fullR (a k : Nat) : JSt := (List.range' a k).map fun i => (0, [xF i])
theorem id_valid (off : Int) (mf : Bool) (i : Nat) (h : i ≤ 1000) (h0 : off = 0 ∨ off = 8) : Valid (idP off mf i) := by
  have z0 : (0 : Int) ≤ 0 := by decide
  have z1 : (0 : Int) ≤ 255 := by decide
  refine ⟨z0, z1, z0, z1, z0, z1, ?_, ?_, ?_, ?_, ?_, rfl, rfl, Nat.zero_le 40, rfl⟩
  · show (0 : Int) ≤ 100 + (i : Int); omega
  · show 100 + (i : Int) ≤ 65535; omega
  · show 0 ≤ off; omega
  · show off ≤ 65528; omega
  · show off % 8 = 0; omega
theorem chk_x (off : Int) (mf : Bool) (i n : Nat) (h : i ≤ 1000) (h0 : off = 0 ∨ off = 8) (hn : n ≤ 100) : (idP off mf i).chk n = 0 := chk_ok (id_valid off mf i h h0) (by show 20 + 0 + n ≤ 65535; omega)
theorem key_x (i j : Nat) (o1 o2 : Int) (m1 m2 : Bool) : keyB (idP o1 m1 i) (idP o2 m2 j) = decide (i = j) := by
  unfold keyB idP pcP
  by_cases q : i = j
  · subst q; simp
  · rw [decide_eq_false q]
    simp
    omega
theorem at_none (a k i : Nat) (off : Int) (mf : Bool) (h : a + k ≤ i ∨ i < a) : atJ (fullR a k) (idP off mf i) = none := by
  unfold atJ
  rw [List.findIdx?_eq_none_iff]
  intro e he
  obtain ⟨j, hj, rfl⟩ := List.mem_map.1 he
  have := List.mem_range'_1.1 hj
  show keyB (idP 8 false j) (idP off mf i) = false
  rw [key_x, decide_eq_false (by omega)]
theorem full_len (a k : Nat) : (fullR a k).length = k := by unfold fullR; simp
theorem full_snoc (k : Nat) : fullR 0 k ++ [(0, [xF k])] = fullR 0 (k + 1) := by
  unfold fullR
  rw [List.range'_concat]
  simp
theorem full_cons (a k : Nat) : fullR a (k + 1) = (0, [xF a]) :: fullR (a + 1) k := rfl
theorem put_x (k : Nat) (hk : k < 16) : putJ 0 (xF k) (fullR 0 k) = ((none, 0), fullR 0 (k + 1)) := by
  unfold putJ
  have hl : (xF k).2.length = 3 := rfl
  rw [if_neg (by rw [hl]; show ¬ (idP 8 false k).chk 3 ≠ 0; rw [chk_x 8 false k 3 (by omega) (.inr rfl) (by decide)]; exact fun z => z rfl), if_neg (by show ¬ ((8 : Int) = 0 ∧ _); exact fun z => absurd z.1 (by decide)), if_neg (by show ¬ (false = true ∧ _); exact fun z => absurd z.1 (by decide)), if_neg (by show ¬ (65515 : Int) < 8 + 3; decide)]
  rw [show (xF k).1 = idP 8 false k from rfl, at_none 0 k k 8 false (.inl (by omega)), full_len]
  dsimp only
  rw [if_neg (by omega), full_snoc]
  unfold finJ
  have e : wholeF [xF k] = none := by kernel_rfl
  rw [e]
theorem put_full (i : Nat) (h0 : 16 ≤ i) (h1 : i ≤ 40) : putJ 0 (xF i) (fullR 0 16) = ((none, 7), fullR 0 16) := by
  unfold putJ
  have hl : (xF i).2.length = 3 := rfl
  rw [if_neg (by rw [hl]; show ¬ (idP 8 false i).chk 3 ≠ 0; rw [chk_x 8 false i 3 (by omega) (.inr rfl) (by decide)]; exact fun z => z rfl), if_neg (by show ¬ ((8 : Int) = 0 ∧ _); exact fun z => absurd z.1 (by decide)), if_neg (by show ¬ (false = true ∧ _); exact fun z => absurd z.1 (by decide)), if_neg (by show ¬ (65515 : Int) < 8 + 3; decide)]
  rw [show (xF i).1 = idP 8 false i from rfl, at_none 0 16 i 8 false (.inl (by omega)), full_len]
  dsimp only
  rw [if_pos (by omega)]
theorem y_head (i : Nat) (h : i ≤ 1000) (s : JSt) : (match atJ s (yF i).1 with
    | none => if 16 ≤ s.length then ((none, 7), s) else finJ (s ++ [(0, [yF i])]) s.length [yF i]
    | some k => match s[k]? with
      | none => ((none, 0), s)
      | some e => if e.2.any (twinB · (yF i)) = true then ((none, 0), s) else if 64 ≤ e.2.length then ((none, 7), s) else if e.2.any (badB · (yF i)) = true then ((none, 4), s.eraseIdx k)
        else finJ (s.set k (e.1, e.2 ++ [yF i])) k (e.2 ++ [yF i])) = putJ 0 (yF i) s := by
  symm
  unfold putJ
  have hl : (yF i).2.length = 8 := rfl
  rw [if_neg (by rw [hl]; show ¬ (idP 0 true i).chk 8 ≠ 0; rw [chk_x 0 true i 8 h (.inl rfl) (by decide)]; exact fun z => z rfl), if_neg (by show ¬ (_ ∧ true = false); exact fun z => absurd z.2 (by decide)), if_neg (by rw [hl]; exact fun z => absurd z.2 (by decide)), if_neg (by show ¬ (65515 : Int) < 0 + 8; decide)]
  cases atJ s (yF i).1 with
  | none => rfl
  | some k => cases s[k]? <;> rfl
theorem put_y (a k : Nat) (h : a ≤ 1000) : putJ 0 (yF a) (fullR a (k + 1)) = ((some (zF a), 0), fullR (a + 1) k) := by
  rw [← y_head a h]
  have e0 : atJ (fullR a (k + 1)) (yF a).1 = some 0 := by
    rw [full_cons]
    unfold atJ
    rw [List.findIdx?_cons]
    have : isOf (yF a).1 (0, [xF a]) = true := by
      show keyB (idP 8 false a) (idP 0 true a) = true
      rw [key_x, decide_eq_true rfl]
    simp only [this, if_true]
  rw [e0]
  dsimp only
  rw [full_cons, List.getElem?_cons_zero]
  dsimp only
  have t1 : ([xF a]).any (twinB · (yF a)) = false := by kernel_rfl
  have t2 : ([xF a]).any (badB · (yF a)) = false := by kernel_rfl
  rw [t1, t2, if_neg (by decide), if_neg (by show ¬ 64 ≤ 1; decide), if_neg (by decide), List.set_cons_zero]
  unfold finJ
  have e1 : wholeF ([xF a] ++ [yF a]) = some (nums numS ++ nums xyzS) := by kernel_rfl
  have e2 : headF ([xF a] ++ [yF a]) = some (yF a) := by kernel_rfl
  rw [e1]
  dsimp only
  rw [e2]
  dsimp only
  rw [if_neg (by show ¬ (idP 0 false a).chk 11 ≠ 0; rw [chk_x 0 false a 11 h (.inl rfl) (by decide)]; exact fun z => z rfl)]
  rfl
theorem put_last (i : Nat) (h : i ≤ 1000) : putJ 0 (yF i) [] = ((none, 0), [(0, [yF i])]) := by
  rw [← y_head i h]
  kernel_rfl
end Go.Proofs.YtnpggkpcadefjaaDoor.LawFullD

/- JoinFull's walk, given a joiner's contract. -/
set_option linter.unusedVariables false
set_option maxRecDepth 100000
namespace Go.Proofs.YtnpggkpcadefjaaDoor.LawFull20
open Go.RowKit Go.Proofs.YtnpggkpcadefjaaDoor.Sums Go.Proofs.YtnpggkpcadefjaaDoor.Mem Go.Proofs.YtnpggkpcadefjaaDoor.Blk Go.Proofs.YtnpggkpcadefjaaDoor.Pkt Go.Proofs.YtnpggkpcadefjaaDoor.Check Go.Proofs.YtnpggkpcadefjaaDoor.RowN Go.Proofs.YtnpggkpcadefjaaDoor.Obj Go.Proofs.YtnpggkpcadefjaaDoor.JoiM Go.Proofs.YtnpggkpcadefjaaDoor.JoiP Go.Proofs.YtnpggkpcadefjaaDoor.JoiA Go.Proofs.YtnpggkpcadefjaaDoor.SplP Go.Proofs.YtnpggkpcadefjaaDoor.Errno Go.Proofs.YtnpggkpcadefjaaDoor.LawFullD
variable {JA : (Nat → Prop) → World → Nat → JSt → Prop}
set_option maxHeartbeats 2000000 in
theorem full_any (S : JoinSpec JA) (x : Int) (w : World) (hg : Handle w) : Calls Tryd.prog 7 #[.int .i64 x] w fun e w' => e = .returned (.bool true) ∧ Below w.heap.size w w' := by
  have HG := Lib.hid hg
  have NC := Lib.hid (S.solo_new w)
  have AW := Lib.hid (fun W h => awake_any S W h)
  clear hg
  by_cases bad : x < 0 ∨ (¬ x < 0 ∧ 40 < x)
  · rcases bad with q | ⟨q, q'⟩
    · have g0 : decide (x < 0) = true := decide_eq_true q
      clear q
      go_enter Tryd.func7, Tryd.ntmps7
      go_wp2_with fail
      refine NC.out.mono ?_
      rintro e w1 ⟨⟨g, rfl, -⟩, hb⟩
      have B1 := Lib.hid hb
      clear hb NC
      go_wp2_with fail
      refine (AW.out w1 (HG.out.keep B1.out)).mono ?_
      rintro e w2 ⟨rfl, hb⟩
      have B2 := Lib.hid (B1.out.trans (hb.mono B1.out.size))
      clear hb AW B1
      go_wp2_with fail
      go_ret
      exact ⟨rfl, B2.out⟩
    · have g0 : decide (x < 0) = false := decide_eq_false q
      have g1 : decide (40 < x) = true := decide_eq_true q'
      clear q q'
      go_enter Tryd.func7, Tryd.ntmps7
      go_wp2_with fail
      refine NC.out.mono ?_
      rintro e w1 ⟨⟨g, rfl, -⟩, hb⟩
      have B1 := Lib.hid hb
      clear hb NC
      go_wp2_with fail
      refine (AW.out w1 (HG.out.keep B1.out)).mono ?_
      rintro e w2 ⟨rfl, hb⟩
      have B2 := Lib.hid (B1.out.trans (hb.mono B1.out.size))
      clear hb AW B1
      go_wp2_with fail
      go_ret
      exact ⟨rfl, B2.out⟩
  obtain ⟨m, rfl⟩ : ∃ m : Nat, x = (m : Int) := ⟨x.toNat, by omega⟩
  have m40 : m ≤ 40 := by omega
  clear bad
  have g0 : decide ((m : Int) < 0) = false := decide_eq_false (by omega)
  have g1 : decide ((40 : Int) < (m : Int)) = false := decide_eq_false (by omega)
  have g1' : decide (40 < m) = false := decide_eq_false (by omega)
  go_enter Tryd.func7, Tryd.ntmps7
  go_wp2_with fail
  refine NC.out.mono ?_
  rintro e w1 ⟨⟨g, rfl, hs⟩, hb⟩
  have B1 := Lib.hid hb
  have S1 := Lib.hid hs
  clear hb NC hs
  go_wp2_with fail
  clear g0 g1 g1'
  go_loopw [4] (fun iv wr => ∃ i : Nat, iv = .int .i64 (i : Int) ∧ i ≤ m ∧ Hid (Solo (JX JA g (fullR 0 (min i 16))) (fun k => k < w.heap.size) wr) ∧ Hid (Below w.heap.size w wr)) (fun iv _ => m - (intOf iv).toNat)
  case atStart => exact ⟨0, rfl, Nat.zero_le _, S1, B1⟩
  case round =>
    obtain ⟨i, rfl, hi, HS, HW⟩ := hrel
    by_cases lt : i < m
    · have f3 : decide (i < m) = true := decide_eq_true lt
      have f2 : IntKind.i64.wrap ((i : Int) + 1) = ((i + 1 : Nat) : Int) := by rw [IntWalk.i64_in _ (by omega)]; omega
      obtain ⟨di, hdi⟩ : ∃ di, (100 : Int) + (i : Int) = di := ⟨_, rfl⟩
      have f4 : IntKind.i64.wrap (100 + (i : Int)) = di := by rw [IntWalk.i64_in _ (by omega)]; exact hdi
      have DI := Lib.hid hdi
      clear hdi
      go_wp2_with fail
      refine (piece_any 8 false xyzS wr (by decide)).mono ?_
      rintro e w2 ⟨⟨A1, c1, rfl, ho⟩, hb⟩
      have bx := (Below.refl w2.heap.size w2).alloc (Nat.le_refl _) (.cells #[.int .i64 0, .int .i64 di, .int .i64 0, .int .i64 0, .bool false, .bool false, .int .i64 8, .string ⟨#[97, 98, 99, 100]⟩, .string ⟨#[101, 102, 103, 104]⟩, .string ⟨#[]⟩, .slice A1 xyzS.size c1] 32)
      have PC := Lib.hid (put_new S HG.out HW.out HS.out (hb.trans (bx.mono hb.size)) (ho.alloc (.cells #[.int .i64 0, .int .i64 di, .int .i64 0, .int .i64 0, .bool false, .bool false, .int .i64 8, .string ⟨#[97, 98, 99, 100]⟩, .string ⟨#[101, 102, 103, 104]⟩, .string ⟨#[]⟩, .slice A1 xyzS.size c1] 32)) 0 (idP 8 false i) (show (4 : Nat) ≤ 10000 by decide) (show (4 : Nat) ≤ 10000 by decide) (show (0 : Nat) ≤ 10000 by decide) (by decide) (by decide) (by decide))
      have e9 : val (idP 8 false i) (.slice A1 xyzS.size c1) = .agg #[.int .i64 0, .int .i64 di, .int .i64 0, .int .i64 0, .bool false, .bool false, .int .i64 8, .string ⟨#[97, 98, 99, 100]⟩, .string ⟨#[101, 102, 103, 104]⟩, .string ⟨#[]⟩, .slice A1 xyzS.size c1] := by rw [← DI.out]; rfl
      rw [e9] at PC
      have PJ : ∃ er : Int, putJ 0 (idP 8 false i, nums xyzS) (fullR 0 (min i 16)) = ((none, er), fullR 0 (min (i + 1) 16)) ∧ ((er = 0 ∧ i < 16) ∨ (er = 7 ∧ ¬ i < 16)) := by
        by_cases q : i < 16
        · refine ⟨0, ?_, .inl ⟨rfl, q⟩⟩
          rw [Nat.min_eq_left (by omega), Nat.min_eq_left (by omega)]
          exact put_x i q
        · refine ⟨7, ?_, .inr ⟨rfl, q⟩⟩
          rw [Nat.min_eq_right (by omega), Nat.min_eq_right (by omega)]
          exact put_full i (by omega) (by omega)
      obtain ⟨er, pj, hr⟩ := PJ
      rw [pj] at PC
      clear ho hb bx e9 HS pj
      unfold val pcP
      go_wp2_with fail
      refine PC.out.mono ?_
      rintro e w3 ⟨⟨A3, c3, rfl, -⟩, hs, hb⟩
      have bz := (Below.refl w3.heap.size w3).alloc (Nat.le_refl _) (.cells #[.int .i64 0, .int .i64 0, .int .i64 0, .int .i64 0, .bool false, .bool false, .int .i64 0, .string ⟨#[]⟩, .string ⟨#[]⟩, .string ⟨#[]⟩, .slice A3 0 c3] 32)
      have S4 := Lib.hid (hs.up (S.obj g _) bz)
      have B4 := Lib.hid (hb.trans (bz.mono hb.size))
      have NI := Lib.hid (show i + 1 ≤ m by omega)
      clear hs hb bz PC
      unfold ansP ansB val Pkt.zero
      dsimp only
      rcases hr with ⟨rfl, q⟩ | ⟨rfl, q⟩
      · have f5 : decide ((i : Int) < 16) = true := decide_eq_true (by omega)
        clear q
        go_wp2_with fail
        go_roundw
        case rel => exact ⟨i + 1, by go_num, NI.out, S4, B4⟩
        case measure => simp [intOf]; omega
      · have f5 : decide ((i : Int) < 16) = false := decide_eq_false (by omega)
        clear q
        go_wp2_with fail
        go_roundw
        case rel => exact ⟨i + 1, by go_num, NI.out, S4, B4⟩
        case measure => simp [intOf]; omega
    · obtain rfl : i = m := by omega
      have f3 : decide (i < i) = false := decide_eq_false (by omega)
      have WC := Lib.hid (S.solo_wait HS.out)
      obtain ⟨k, hk⟩ : ∃ k, min i 16 = k := ⟨_, rfl⟩
      rw [full_len, hk] at WC
      rw [hk] at HS
      have K1 : k ≤ i ∧ k ≤ 16 ∧ (i ≤ 16 → k = i) ∧ (16 ≤ i → k = 16) := by omega
      have HK := Lib.hid K1
      clear hk K1 lt hi
      generalize wr = wo at *
      go_wp2_with fail
      refine WC.out.mono ?_
      rintro e w2 ⟨rfl, hb⟩
      have W2 := Lib.hid (HW.out.trans (hb.mono HW.out.size))
      have S2 := Lib.hid (HS.out.up (S.obj g _) hb)
      clear hb HW HS WC
      have g9 : ((k : Int) != min (i : Int) 16) = false := by
        rw [bne_eq_false_iff_eq]
        have := HK.out
        omega
      go_wp2_with fail
      clear g9 f3
      go_loopw [9] (fun iv wr => ∃ a : Nat, iv = .int .i64 (a : Int) ∧ a ≤ i ∧ a ≤ k ∧ Hid (Solo (JX JA g (fullR a (k - a))) (fun k => k < w.heap.size) wr) ∧ Hid (Below w.heap.size w wr)) (fun iv _ => i - (intOf iv).toNat)
      case atStart => exact ⟨0, rfl, Nat.zero_le _, Nat.zero_le _, S2, W2⟩
      case round =>
        obtain ⟨a, rfl, ha, hak, HS, HW⟩ := hrel
        clear S2 W2
        by_cases lt : a < i
        · have f3 : decide (a < i) = true := decide_eq_true lt
          have f2 : IntKind.i64.wrap ((a : Int) + 1) = ((a + 1 : Nat) : Int) := by rw [IntWalk.i64_in _ (by omega)]; omega
          obtain ⟨di, hdi⟩ : ∃ di, (100 : Int) + (a : Int) = di := ⟨_, rfl⟩
          have f4 : IntKind.i64.wrap (100 + (a : Int)) = di := by rw [IntWalk.i64_in _ (by omega)]; exact hdi
          have DI := Lib.hid hdi
          clear hdi
          go_wp2_with fail
          refine (piece_any 0 true numS wr (by decide)).mono ?_
          rintro e w3 ⟨⟨A1, c1, rfl, ho⟩, hb⟩
          have bx := (Below.refl w3.heap.size w3).alloc (Nat.le_refl _) (.cells #[.int .i64 0, .int .i64 di, .int .i64 0, .int .i64 0, .bool false, .bool true, .int .i64 0, .string ⟨#[97, 98, 99, 100]⟩, .string ⟨#[101, 102, 103, 104]⟩, .string ⟨#[]⟩, .slice A1 numS.size c1] 32)
          have PC := Lib.hid (put_new S HG.out HW.out HS.out (hb.trans (bx.mono hb.size)) (ho.alloc (.cells #[.int .i64 0, .int .i64 di, .int .i64 0, .int .i64 0, .bool false, .bool true, .int .i64 0, .string ⟨#[97, 98, 99, 100]⟩, .string ⟨#[101, 102, 103, 104]⟩, .string ⟨#[]⟩, .slice A1 numS.size c1] 32)) 0 (idP 0 true a) (show (4 : Nat) ≤ 10000 by decide) (show (4 : Nat) ≤ 10000 by decide) (show (0 : Nat) ≤ 10000 by decide) (by decide) (by decide) (by decide))
          have e9 : val (idP 0 true a) (.slice A1 numS.size c1) = .agg #[.int .i64 0, .int .i64 di, .int .i64 0, .int .i64 0, .bool false, .bool true, .int .i64 0, .string ⟨#[97, 98, 99, 100]⟩, .string ⟨#[101, 102, 103, 104]⟩, .string ⟨#[]⟩, .slice A1 numS.size c1] := by rw [← DI.out]; rfl
          rw [e9] at PC
          clear ho hb bx e9 HS
          unfold val pcP
          by_cases lk : a < k
          · obtain ⟨k1, hk1⟩ : ∃ k1, k - a = k1 + 1 := ⟨k - a - 1, by omega⟩
            have pj : putJ 0 (idP 0 true a, nums numS) (fullR a (k - a)) = ((some (zF a), 0), fullR (a + 1) (k - (a + 1))) := by
              rw [hk1, show k - (a + 1) = k1 by omega]
              exact put_y a k1 (by omega)
            rw [pj] at PC
            clear pj hk1
            go_wp2_with fail
            refine PC.out.mono ?_
            rintro e w4 ⟨⟨A3, c3, rfl, -⟩, hs, hb⟩
            have bz := (Below.refl w4.heap.size w4).alloc (Nat.le_refl _) (.cells #[.int .i64 0, .int .i64 di, .int .i64 0, .int .i64 0, .bool false, .bool false, .int .i64 0, .string ⟨#[97, 98, 99, 100]⟩, .string ⟨#[101, 102, 103, 104]⟩, .string ⟨#[]⟩, .slice A3 11 c3] 32)
            have S4 := Lib.hid (hs.up (S.obj g _) bz)
            have B4 := Lib.hid (hb.trans (bz.mono hb.size))
            have NI := Lib.hid (And.intro (show a + 1 ≤ i by omega) (show a + 1 ≤ k by omega))
            have e8 : val (ansP (some (zF a), 0)).1 (.slice A3 (ansP (some (zF a), 0)).2.length c3) = .agg #[.int .i64 0, .int .i64 di, .int .i64 0, .int .i64 0, .bool false, .bool false, .int .i64 0, .string ⟨#[97, 98, 99, 100]⟩, .string ⟨#[101, 102, 103, 104]⟩, .string ⟨#[]⟩, .slice A3 11 c3] := by rw [← DI.out]; rfl
            rw [e8]
            have f5 : decide ((a : Int) < 16) = true := decide_eq_true (by have := HK.out; omega)
            clear hs hb bz PC e8
            unfold ansB
            dsimp only
            go_wp2_with fail
            go_roundw
            case rel => exact ⟨a + 1, by go_num, NI.out.1, NI.out.2, S4, B4⟩
            case measure => simp [intOf]; omega
          · have f5 : decide ((a : Int) < 16) = false := decide_eq_false (by have := HK.out; omega)
            have pj : putJ 0 (idP 0 true a, nums numS) (fullR a (k - a)) = ((none, 0), [(0, [yF a])]) := by
              rw [show k - a = 0 by omega]
              exact put_last a (by omega)
            rw [pj] at PC
            clear pj
            go_wp2_with fail
            refine PC.out.mono ?_
            rintro e w4 ⟨⟨A3, c3, rfl, -⟩, hs, hb⟩
            have bz := (Below.refl w4.heap.size w4).alloc (Nat.le_refl _) (.cells #[.int .i64 0, .int .i64 0, .int .i64 0, .int .i64 0, .bool false, .bool false, .int .i64 0, .string ⟨#[]⟩, .string ⟨#[]⟩, .string ⟨#[]⟩, .slice A3 0 c3] 32)
            have B4 := Lib.hid (hb.trans (bz.mono hb.size))
            have AC := Lib.hid (AW.out _ (HG.out.keep B4.out))
            clear hs hb bz PC AW
            unfold ansP ansB val Pkt.zero
            dsimp only
            go_wp2_with fail
            refine AC.out.mono ?_
            rintro e w5 ⟨rfl, hb⟩
            have B5 := Lib.hid (B4.out.trans (hb.mono B4.out.size))
            clear hb AC B4
            go_wp2_with fail
            go_ret
            exact ⟨rfl, B5.out⟩
        · obtain rfl : a = i := by omega
          have f3 : decide (a < a) = false := decide_eq_false (by omega)
          have AC := Lib.hid (AW.out wr (HG.out.keep HW.out))
          clear HS AW lt
          go_wp2_with fail
          refine AC.out.mono ?_
          rintro e w5 ⟨rfl, hb⟩
          have B5 := Lib.hid (HW.out.trans (hb.mono HW.out.size))
          clear hb AC
          go_wp2_with fail
          go_ret
          exact ⟨rfl, B5.out⟩
end Go.Proofs.YtnpggkpcadefjaaDoor.LawFull20

