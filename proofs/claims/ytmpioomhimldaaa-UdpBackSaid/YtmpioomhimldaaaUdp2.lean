/- Contracts: fields, what is summed, the check; of the code. -/
import Derived.Test.YtmpioomhimldaaaUdp1
import Derived.Test.YtmpioomhimldaaaLoads
import Derived.LoopTactic
set_option linter.unusedVariables false
namespace Go.Proofs.Ytmpioomhimldaaa.Udp
open Go.RowKit Go.Proofs.Ytmpioomhimldaaa.Sums Go.Proofs.Ytmpioomhimldaaa.Words Go.Proofs.Ytmpioomhimldaaa.Mem Go.Proofs.Ytmpioomhimldaaa.Dat Go.Proofs.Ytmpioomhimldaaa.Blk Go.Proofs.Ytmpioomhimldaaa.Bits Go.Proofs.Ytmpioomhimldaaa.InetSum

theorem from_any (s d : ByteArray) (A : Option Addr) (n c : Nat) (l : List Int) (w : World) (B : Nat) (h : Holds w B A n c l) (hB : B ≤ w.heap.size) (hn : 8 ≤ n) :
    Calls Try.prog 24 #[.agg #[.string s, .string d, .slice A n c]] w fun e w' => e = .returned (.int .i64 (w16 l 0)) ∧ Below w.heap.size w w' := by
  have B0 := Lib.hid ((Below.refl w.heap.size w).alloc (Nat.le_refl _) (.cells #[.string s, .string d, .slice A n c] 46))
  have W := Lib.hid (word_any s d A n c l _ B (h.below (B0.out.mono hB)) (by simp; omega) 0 (by omega))
  clear h
  go_enter Try.func24, Try.ntmps24
  go_wp2_with fail
  refine W.out.mono ?_
  rintro e w1 ⟨rfl, hb⟩
  have B1 := Lib.hid (B0.out.trans (hb.mono B0.out.size))
  go_wp2_with fail
  go_ret
  exact ⟨rfl, B1.out⟩
theorem to_any (s d : ByteArray) (A : Option Addr) (n c : Nat) (l : List Int) (w : World) (B : Nat) (h : Holds w B A n c l) (hB : B ≤ w.heap.size) (hn : 8 ≤ n) :
    Calls Try.prog 25 #[.agg #[.string s, .string d, .slice A n c]] w fun e w' => e = .returned (.int .i64 (w16 l 2)) ∧ Below w.heap.size w w' := by
  have B0 := Lib.hid ((Below.refl w.heap.size w).alloc (Nat.le_refl _) (.cells #[.string s, .string d, .slice A n c] 46))
  have W := Lib.hid (word_any s d A n c l _ B (h.below (B0.out.mono hB)) (by simp; omega) 2 (by omega))
  clear h
  go_enter Try.func25, Try.ntmps25
  go_wp2_with fail
  refine W.out.mono ?_
  rintro e w1 ⟨rfl, hb⟩
  have B1 := Lib.hid (B0.out.trans (hb.mono B0.out.size))
  go_wp2_with fail
  go_ret
  exact ⟨rfl, B1.out⟩
theorem check_any (s d : ByteArray) (A : Option Addr) (n c : Nat) (l : List Int) (w : World) (B : Nat) (h : Holds w B A n c l) (hB : B ≤ w.heap.size) (hn : 8 ≤ n) :
    Calls Try.prog 39 #[.agg #[.string s, .string d, .slice A n c]] w fun e w' => e = .returned (.int .i64 (w16 l 6)) ∧ Below w.heap.size w w' := by
  have B0 := Lib.hid ((Below.refl w.heap.size w).alloc (Nat.le_refl _) (.cells #[.string s, .string d, .slice A n c] 46))
  have W := Lib.hid (word_any s d A n c l _ B (h.below (B0.out.mono hB)) (by simp; omega) 6 (by omega))
  clear h
  go_enter Try.func39, Try.ntmps39
  go_wp2_with fail
  refine W.out.mono ?_
  rintro e w1 ⟨rfl, hb⟩
  have B1 := Lib.hid (B0.out.trans (hb.mono B0.out.size))
  go_wp2_with fail
  go_ret
  exact ⟨rfl, B1.out⟩

theorem isWord_any (z : Int) (w : World) : Calls Try.prog 16 #[.int .i64 z] w fun e w' => e = .returned (.bool (isW z)) ∧ w = w' := by
  have E : Hid (isW z = (decide (0 ≤ z) && decide (z ≤ 65535))) := Lib.hid rfl
  by_cases h : 0 ≤ z
  · go_enter Try.func16, Try.ntmps16
    go_wp2_with fail
    go_ret
    exact ⟨by rw [E.out]; simp [h], rfl⟩
  · go_enter Try.func16, Try.ntmps16
    go_wp2_with fail
    go_ret
    exact ⟨by rw [E.out, show decide (0 ≤ z) = false from decide_eq_false (by omega)]; rfl, rfl⟩

theorem paired_any (s d : ByteArray) (w : World) : Calls Try.prog 17 #[.string s, .string d] w fun e w' => e = .returned (.bool (paired s d)) ∧ w = w' := by
  have E : Hid (paired s d = (decide (s.size = d.size) && (decide (s.size = 4) || decide (s.size = 16)))) := Lib.hid rfl
  by_cases h : s.size = d.size
  · have g1 : ((s.size : Int) == (d.size : Int)) = true := by simp; omega
    by_cases h4 : s.size = 4
    · have g2 : ((s.size : Int) == 4) = true := by simp; omega
      have F : Hid (paired s d = true) := Lib.hid (by rw [E.out]; simp only [h4, ← h]; decide)
      clear h h4
      go_enter Try.func17, Try.ntmps17
      go_wp2_with fail
      go_ret
      exact ⟨by rw [F.out]; rfl, rfl⟩
    · have g2 : ((s.size : Int) == 4) = false := by simp; omega
      have F : Hid (paired s d = ((s.size : Int) == 16)) := Lib.hid (by
        rw [E.out]
        by_cases h16 : s.size = 16
        · simp only [h16, ← h]; decide
        · have : ((s.size : Int) == 16) = false := by simp; omega
          rw [this]; simp [h4, h16])
      clear h h4
      go_enter Try.func17, Try.ntmps17
      go_wp2_with fail
      go_ret
      exact ⟨by rw [F.out]; rfl, rfl⟩
  · have g1 : ((s.size : Int) == (d.size : Int)) = false := by simp; omega
    have F : Hid (paired s d = false) := Lib.hid (by rw [E.out]; simp [h])
    clear h
    go_enter Try.func17, Try.ntmps17
    go_wp2_with fail
    go_ret
    exact ⟨by rw [F.out]; rfl, rfl⟩

theorem pseudo_any (s d : ByteArray) (n : Int) (w : World) (hp : paired s d = true) (n0 : 0 ≤ n) (n1 : n ≤ 65535) :
    Calls Try.prog 41 #[.string s, .string d, .int .i64 17, .int .i64 n] w fun e w' => e = .returned (.tuple #[.int .i64 (around s d n), .int .i64 0]) ∧ Below w.heap.size w w' := by
  obtain ⟨e, h⟩ := paired_true hp
  unfold around Dat.ahead
  rcases h with h | h
  · rw [if_pos h]
    exact Pseudo.pseudo4 s d 17 n w h (by omega) (by omega) (by omega) n0 n1
  · rw [if_neg (by omega)]
    exact Pseudo.pseudo6 s d 17 n w h (by omega) (by omega) (by omega) n0 (by omega)

theorem around_any (s d : ByteArray) (A : Option Addr) (n c : Nat) (w : World) (hp : paired s d = true) (hn : n ≤ 65535) :
    Calls Try.prog 35 #[.agg #[.string s, .string d, .slice A n c]] w fun e w' => e = .returned (.int .i64 (around s d n)) ∧ Below w.heap.size w w' := by
  have B0 := Lib.hid ((Below.refl w.heap.size w).alloc (Nat.le_refl _) (.cells #[.string s, .string d, .slice A n c] 46))
  have W := Lib.hid (fun W => pseudo_any s d n W hp (by omega) (by omega))
  go_enter Try.func35, Try.ntmps35
  go_wp2_with fail
  refine (W.out _).mono ?_
  rintro e w1 ⟨rfl, hb⟩
  have B1 := Lib.hid (B0.out.trans (hb.mono B0.out.size))
  go_wp2_with fail
  go_ret
  exact ⟨rfl, B1.out⟩

theorem within_any (s d : ByteArray) (A : Option Addr) (n c : Nat) (l : List Int) (w : World) (B : Nat) (h : Holds w B A n c l) (hB : B ≤ w.heap.size) (hn : n ≤ 65535) :
    Calls Try.prog 36 #[.agg #[.string s, .string d, .slice A n c]] w fun e w' => e = .returned (.int .i64 (sums 0 l)) ∧ Below w.heap.size w w' := by
  have B0 := Lib.hid ((Below.refl w.heap.size w).alloc (Nat.le_refl _) (.cells #[.string s, .string d, .slice A n c] 46))
  have W := Lib.hid (sum_any A n c l _ B (h.below (B0.out.mono hB)) (by omega))
  clear h
  go_enter Try.func36, Try.ntmps36
  go_wp2_with fail
  refine W.out.mono ?_
  rintro e w1 ⟨rfl, rfl⟩
  go_wp2_with fail
  go_ret
  exact ⟨rfl, B0.out⟩

/-- The sum behind k of the two parts. -/
def part (s d : ByteArray) (l : List Int) : Nat → Int
  | 0 => 0
  | 1 => around s d l.length
  | _ => whole s d l

theorem total_two (s d : ByteArray) (A : Option Addr) (n c : Nat) (l : List Int) (w : World) (B : Nat) (h : Holds w B A n c l) (hB : B ≤ w.heap.size) (hn : n ≤ 65535) (hp : paired s d = true) (g : Nat) (hg : g < w.heap.size)
    (f0 : w.cell? ⟨g, 0, none⟩ = some (.func (.func 35) #[] #[])) (f1 : w.cell? ⟨g, 1, none⟩ = some (.func (.func 36) #[] #[])) :
    Calls Try.prog 34 #[.agg #[.string s, .string d, .slice A n c], .slice (some ⟨g, 0, none⟩) 2 2] w fun e w' => e = .returned (.int .i64 (whole s d l)) ∧ Below w.heap.size w w' := by
  have hl := Lib.hid h.1
  have a := around_in s d n
  have P0 : Hid (part s d l 0 = 0) := Lib.hid rfl
  have P1 : Hid (part s d l 1 = around s d n) := Lib.hid (by rw [← hl.out]; rfl)
  have P2 : Hid (part s d l 2 = add (around s d n) (sums 0 l)) := Lib.hid (by rw [← hl.out]; rfl)
  have Z : Hid (add 0 (around s d n) = around s d n) := Lib.hid (zero_add a.1 a.2)
  have HH := Lib.hid h
  clear h a
  have B0 := Lib.hid ((Below.refl w.heap.size w).alloc (Nat.le_refl _) (.cells #[.string s, .string d, .slice A n c] 46))
  have K0 := Lib.hid (Blk.new w 46 #[.string s, .string d, .slice A n c])
  go_enter Try.func34, Try.ntmps34
  go_wp2_with fail
  go_loopw [5, 10] (fun t i wr => ∃ k : Nat, k ≤ 2 ∧ i = .int .i64 (k : Int) ∧ t = .int .i64 (part s d l k) ∧ Hid (Below w.heap.size w wr) ∧ Hid (Blk wr w.heap.size 46 #[.string s, .string d, .slice A n c])) (fun _ i _ => 2 - (intOf i).toNat)
  case atStart => exact ⟨0, by omega, rfl, rfl, B0, K0⟩
  case round =>
    obtain ⟨k, hk, rfl, rfl, HB, HK⟩ := hrel
    have F0 := (HB.out.cell (p := ⟨g, 0, none⟩) hg).trans f0
    have F1 := (HB.out.cell (p := ⟨g, 1, none⟩) hg).trans f1
    clear f0 f1
    have hbs := HB.out.size
    rcases (show k = 0 ∨ k = 1 ∨ k = 2 by omega) with rfl | rfl | rfl
    · rw [P0.out]
      have AR := Lib.hid (around_any s d A n c wr hp hn)
      go_wp2_with (refine Loads.wpList_load_w rfl 46 (.tmp 2) rfl w.heap.size rfl 46 #[.string s, .string d, .slice A n c] (0, 0) _ HK.out (Try.underlying46) rfl (by kernel_rfl) ?_)
      refine AR.out.mono ?_
      rintro e w2 ⟨rfl, hb⟩
      have B2 := Lib.hid (HB.out.trans (hb.mono hbs))
      have K2 := Lib.hid (HK.out.below hb HK.out.lt)
      clear hb
      go_wp2_with (go_at_call 40; refine (add_code _ _ _).mono ?_; rintro e w' ⟨rfl, rfl⟩)
      go_roundw
      case rel => exact ⟨1, by omega, by go_num, by rw [Z.out, P1.out], B2, K2⟩
      case measure => simp [intOf]
    · rw [P1.out]
      have WI := Lib.hid (within_any s d A n c l wr B (HH.out.below (HB.out.mono hB)) (by omega) hn)
      go_wp2_with (refine Loads.wpList_load_w rfl 46 (.tmp 2) rfl w.heap.size rfl 46 #[.string s, .string d, .slice A n c] (0, 0) _ HK.out (Try.underlying46) rfl (by kernel_rfl) ?_)
      refine WI.out.mono ?_
      rintro e w2 ⟨rfl, hb⟩
      have B2 := Lib.hid (HB.out.trans (hb.mono hbs))
      have K2 := Lib.hid (HK.out.below hb HK.out.lt)
      clear hb
      go_wp2_with (go_at_call 40; refine (add_code _ _ _).mono ?_; rintro e w' ⟨rfl, rfl⟩)
      go_roundw
      case rel => exact ⟨2, by omega, by go_num, by rw [P2.out], B2, K2⟩
      case measure => simp [intOf]
    · go_wp2_with fail
      go_ret
      exact ⟨rfl, HB.out⟩

theorem sum_code (s d : ByteArray) (A : Option Addr) (n c : Nat) (l : List Int) (w : World) (B : Nat) (h : Holds w B A n c l) (hB : B ≤ w.heap.size) (hn : n ≤ 65535) (hp : paired s d = true) :
    Calls Try.prog 27 #[.agg #[.string s, .string d, .slice A n c]] w fun e w' => e = .returned (.int .i64 (whole s d l)) ∧ Below w.heap.size w w' := by
  have B0 := Lib.hid (((Below.refl w.heap.size w).alloc (Nat.le_refl _) (.cells #[.string s, .string d, .slice A n c] 46)).alloc (by simp) (.cells #[.func (.func 35) #[] #[], .func (.func 36) #[] #[]] 44))
  have K1 := Blk.new (w.alloc (.cells #[.string s, .string d, .slice A n c] 46)) 44 #[.func (.func 35) #[] #[], .func (.func 36) #[] #[]]
  have hz : (w.alloc (.cells #[.string s, .string d, .slice A n c] 46)).heap.size = w.heap.size + 1 := by simp
  rw [hz] at K1
  have T := Lib.hid (total_two s d A n c l _ B (h.below (B0.out.mono hB)) (by simp; omega) hn hp (w.heap.size + 1) (by simp) (K1.cell 0) (K1.cell 1))
  clear h K1 hz
  go_enter Try.func27, Try.ntmps27
  go_wp2_with fail
  refine T.out.mono ?_
  rintro e w1 ⟨rfl, hb⟩
  have B1 := Lib.hid (B0.out.trans (hb.mono B0.out.size))
  go_wp2_with fail
  go_ret
  exact ⟨rfl, B1.out⟩

theorem checksum_any (s d : ByteArray) (A : Option Addr) (n c : Nat) (l : List Int) (w : World) (B : Nat) (h : Holds w B A n c l) (hB : B ≤ w.heap.size) (hn : n ≤ 65535) (hp : paired s d = true) :
    Calls Try.prog 18 #[.agg #[.string s, .string d, .slice A n c]] w fun e w' => e = .returned (.int .i64 (sure (whole s d l))) ∧ Below w.heap.size w w' := by
  have B0 := Lib.hid ((Below.refl w.heap.size w).alloc (Nat.le_refl _) (.cells #[.string s, .string d, .slice A n c] 46))
  have T := Lib.hid (sum_code s d A n c l _ B (h.below (B0.out.mono hB)) (by simp; omega) hn hp)
  have wi := whole_in s d l
  have S : Hid (sure (whole s d l) = if 65535 - whole s d l = 0 then 65535 else 65535 - whole s d l) := Lib.hid rfl
  obtain ⟨w0, w1⟩ := wi
  clear h
  generalize whole s d l = t at *
  by_cases q : 65535 - t = 0
  · have F : Hid (sure t = 65535) := Lib.hid (by rw [S.out, if_pos q])
    have q1 : ((65535 - t : Int) == 0) = true := by rw [q]; rfl
    clear S q
    go_enter Try.func18, Try.ntmps18
    go_wp2_with fail
    refine T.out.mono ?_
    rintro e w1 ⟨rfl, hb⟩
    have B1 := Lib.hid (B0.out.trans (hb.mono B0.out.size))
    go_wp2_with fail
    go_ret
    exact ⟨by rw [F.out]; rfl, B1.out⟩
  · have F : Hid (sure t = 65535 - t) := Lib.hid (by rw [S.out, if_neg q])
    have q1 : ((65535 - t : Int) == 0) = false := by simp; omega
    clear S q
    go_enter Try.func18, Try.ntmps18
    go_wp2_with fail
    refine T.out.mono ?_
    rintro e w1 ⟨rfl, hb⟩
    have B1 := Lib.hid (B0.out.trans (hb.mono B0.out.size))
    go_wp2_with fail
    go_ret
    exact ⟨by rw [F.out]; rfl, B1.out⟩
end Go.Proofs.Ytmpioomhimldaaa.Udp
