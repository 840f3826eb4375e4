/- The contract of the code: what follows a message. -/
import Derived.Test.YtmlihcillheeaaaDoorDig7
set_option linter.unusedVariables false
namespace Go.Proofs.YtmlihcillheeaaaDoor.Dig8
open Go.RowKit Go.PlainAid Go.Proofs.YtmlihcillheeaaaDoor.Sums Go.Proofs.YtmlihcillheeaaaDoor.Mem Go.Proofs.YtmlihcillheeaaaDoor.Blk Go.Proofs.YtmlihcillheeaaaDoor.Bits3 Go.Proofs.YtmlihcillheeaaaDoor.Ints Go.Proofs.YtmlihcillheeaaaDoor.ShaD Go.Proofs.YtmlihcillheeaaaDoor.Dig1 Go.Proofs.YtmlihcillheeaaaDoor.Dig7

theorem make_lc (a c : Nat) (ha : a ≤ c) (hc : c ≤ 1048576) (w : World) :
    (Instr.makeSlice 22 (.int .i64 (a : Int)) (.int .i64 (c : Int))).run Tryd.prog w = .ok (.slice (some ⟨w.heap.size, 0, none⟩) a c) (w.alloc (.cells (bcells (List.replicate c 0)) 5)) := by
  obtain ⟨i, hi, hz, hsz, hby⟩ := info_parts byte_info
  have hr := run_make (P := Tryd.prog) w 22 5 i (.int .u8 0) Tryd.underlying22 hi hz .i64 .i64 (a : Int) (c : Int) (by omega) (by omega) (by rw [hby]; omega) (by omega)
  rw [Int.toNat_natCast, Int.toNat_natCast, hsz, Nat.mul_one] at hr
  rw [← made_b]
  exact hr
theorem owns_lc (w : World) (base a c : Nat) (hb : base ≤ w.heap.size) (ha : a ≤ c) (hc : c ≤ 1048576) : Owns (w.alloc (.cells (bcells (List.replicate c 0)) 5)) base (.slice (some ⟨w.heap.size, 0, none⟩) a c) a (ints (List.replicate a 0)) :=
  ⟨by simp [ints], fun z hz => ints_in (fun x hx => by rw [List.eq_of_mem_replicate hx]; decide) z hz, .inr ⟨w.heap.size, c, bcells (List.replicate c 0), (0, 0), rfl, hb, heap_alloc_new w _, .inl rfl, ha, by simp only [maxLen]; omega, by simp [bcells], by
    simp only [bcells, ints, List.map_replicate, List.take_replicate]
    rw [Nat.min_eq_left ha]⟩⟩
/-- Eight bytes of a number. -/
def e8 (m : Nat) : List Nat := (List.range 8).map fun j => m / 2 ^ (56 - 8 * j) % 256
theorem e8_four {m : Nat} (h : m < 72057594037927936) : e8 m = four (m / M) ++ four (m % M) := by
  have e : e8 m = [m / 2 ^ 56 % 256, m / 2 ^ 48 % 256, m / 2 ^ 40 % 256, m / 2 ^ 32 % 256, m / 2 ^ 24 % 256, m / 2 ^ 16 % 256, m / 2 ^ 8 % 256, m / 2 ^ 0 % 256] := rfl
  rw [e]
  simp only [four, M, List.cons_append, List.nil_append, List.cons.injEq, and_true]
  simp only [Nat.reducePow, Nat.div_one]
  refine ⟨?_, ?_, ?_, ?_, ?_, ?_, ?_, ?_⟩ <;> first | omega | trivial
theorem e8_take {m j : Nat} (h : j < 8) : (e8 m).take (j + 1) = (e8 m).take j ++ [m / 2 ^ (56 - 8 * j) % 256] := by
  rw [List.take_add_one]
  congr 1
  unfold e8
  rw [List.getElem?_map, List.getElem?_range h]
  rfl
/-- What follows n bytes. -/
def padL (n : Nat) : List Nat := 128 :: (List.replicate (zeros n) 0 ++ (four (8 * n / M) ++ four (8 * n % M)))
theorem pad_padL (b : List Nat) : pad b = b ++ padL b.length := rfl
def padB (n j : Nat) : List Nat := 128 :: (List.replicate (zeros n) 0 ++ (e8 (8 * n)).take j)
theorem padB_next {n j : Nat} (h : j < 8) : padB n (j + 1) = padB n j ++ [8 * n / 2 ^ (56 - 8 * j) % 256] := by
  unfold padB
  rw [e8_take h]
  simp
theorem padB_all {n : Nat} (h : n < 1099511627776) : padB n 8 = padL n := by
  unfold padB padL
  rw [← e8_four (by omega), List.take_of_length_le (by simp [e8])]
theorem padB_zero (n : Nat) : padB n 0 = (List.replicate (zeros n + 1) 0).set 0 128 := by
  unfold padB
  rw [List.replicate_succ]
  simp
theorem padL_len (n : Nat) : (padL n).length = zeros n + 9 := by simp [padL, four]
theorem padL_byt {n : Nat} (h : n < 1099511627776) : ∀ x ∈ padL n, x < 256 := by
  rw [← padB_all h]
  intro x hx
  unfold padB at hx
  rcases List.mem_cons.1 hx with rfl | q
  · decide
  · rcases List.mem_append.1 q with q | q
    · rw [List.eq_of_mem_replicate q]; decide
    · obtain ⟨i, _, rfl⟩ := List.mem_map.1 (List.mem_of_mem_take q)
      exact Nat.mod_lt _ (by decide)
theorem ints_one (l : List Nat) (x : Nat) : ints (l ++ [x]) = ints l ++ [(x : Int)] := by simp [ints]

set_option maxHeartbeats 1000000 in
theorem padding_no (n : Nat) (hn : n < 1099511627776) (w : World) :
    Calls Tryd.prog 20 #[.int .i64 (n : Int)] w fun e w' => ∃ v, e = .returned v ∧ Owns w' w.heap.size v (zeros n + 9) (ints (padL n)) ∧ Below w.heap.size w w' := by
  obtain ⟨a, ha⟩ : ∃ a, a = zeros n + 1 := ⟨_, rfl⟩
  obtain ⟨q, hq⟩ : ∃ q, q = (n + 72) / 64 := ⟨_, rfl⟩
  obtain ⟨wh, hwh⟩ : ∃ wh, wh = q * 64 := ⟨_, rfl⟩
  obtain ⟨c, hc⟩ : ∃ c, c = wh - n := ⟨_, rfl⟩
  have zb : zeros n < 64 := by unfold zeros; omega
  have ca : c = a + 8 := by rw [hc, ha, hwh, hq]; unfold zeros; omega
  have f3 : IntKind.i64.wrap ((n : Int) + 1 + 8 + 64) = (n : Int) + 1 + 8 + 64 := IntWalk.i64_in _ (by omega)
  have f4 : IntKind.i64.wrap ((n : Int) + 1 + 8 + 64 - 1) = (n : Int) + 1 + 8 + 64 - 1 := IntWalk.i64_in _ (by omega)
  have f5 : ((n : Int) + 1 + 8 + 64 - 1).tdiv 64 = (q : Int) := by rw [Int.tdiv_eq_ediv_of_nonneg (by omega)]; omega
  have f6 : IntKind.i64.wrap (q : Int) = (q : Int) := IntWalk.i64_in _ (by omega)
  have f7 : IntKind.i64.wrap ((q : Int) * 64) = (wh : Int) := by rw [IntWalk.i64_in _ (by omega)]; omega
  have f8 : IntKind.i64.wrap ((wh : Int) - (n : Int)) = (c : Int) := by rw [IntWalk.i64_in _ (by omega)]; omega
  have f9 : IntKind.i64.wrap ((c : Int) - 8) = (a : Int) := by rw [IntWalk.i64_in _ (by omega)]; omega
  have mk := make_lc a c (by omega) (by omega)
  have O0 := owns_lc w w.heap.size a c (Nat.le_refl _) (by omega) (by omega)
  have B0 : Below w.heap.size w (w.alloc (.cells (bcells (List.replicate c 0)) 5)) := (Below.refl _ _).alloc (Nat.le_refl _) _
  obtain ⟨u, hu⟩ := O0.there 0 (by omega)
  have fz := O0.free 0 (by omega)
  have O1 : Hid (Owns ((w.alloc (.cells (bcells (List.replicate c 0)) 5)).setCell ⟨w.heap.size, 0, none⟩ (.int .u8 128)) w.heap.size (.slice (some ⟨w.heap.size, 0, none⟩) a c) a (ints (padB n 0))) := Lib.hid (by
    have := O0.set 0 128 (by decide) (by decide)
    rw [padB_zero, ← ha]
    simpa [ints, List.map_set] using this)
  have B1 : Hid (Below w.heap.size w ((w.alloc (.cells (bcells (List.replicate c 0)) 5)).setCell ⟨w.heap.size, 0, none⟩ (.int .u8 128))) := Lib.hid (B0.setCell (p := ⟨w.heap.size, 0, none⟩) (Nat.le_refl _) _)
  generalize bcells (List.replicate c 0) = Z at *
  have WE : (w.alloc (.cells Z 5)).setCell ⟨w.heap.size, 0, none⟩ (.int .u8 128) = w.alloc (.cells (Z.setIfInBounds 0 (.int .u8 128)) 5) := World.setCell_alloc_at _ _ _ _ _ rfl
  rw [WE] at O1 B1
  clear WE
  have AH := Lib.hid ha
  have apos : 0 < a := by omega
  have al : a ≤ 64 := by omega
  have PA := Lib.hid (padB_all hn)
  have PN := Lib.hid (fun j (h : j < 8) => padB_next (n := n) h)
  obtain ⟨m8, hm8⟩ : ∃ m8, m8 = 8 * n := ⟨_, rfl⟩
  have f10 : IntKind.i64.wrap (8 * (n : Int)) = (m8 : Int) := by rw [IntWalk.i64_in _ (by omega)]; omega
  rw [← hm8] at PN
  have mb : m8 < 8796093022208 := by omega
  clear ha hq hwh hc ca zb O0 B0 hm8
  go_enter Tryd.func20, Tryd.ntmps20
  go_wp2_with fail
  clear f3 f4 f5 f6 f7 f8 f9 mk hu fz
  generalize w.alloc (.cells (Z.setIfInBounds 0 (.int .u8 128)) 5) = w1 at *
  go_loopw [4, 5] (fun bv kv wr => ∃ j : Nat, kv = .int .i64 (56 - 8 * (j : Int)) ∧ j ≤ 8 ∧ Hid (Owns wr w.heap.size bv (a + j) (ints (padB n j))) ∧ Hid (Below w.heap.size w wr)) (fun _ kv _ => (intOf kv + 8).toNat)
  case atStart => exact ⟨0, by first | rfl | go_num, by omega, O1, B1⟩
  case round =>
    obtain ⟨j, rfl, hj, HO, HB⟩ := hrel
    clear O1 B1
    by_cases hlt : j < 8
    · obtain ⟨s, hs⟩ : ∃ s, s = 56 - 8 * j := ⟨_, rfl⟩
      have e0 : 56 - 8 * (j : Int) = (s : Int) := by omega
      rw [e0]
      have s1 : (s : Int) ≤ 64 := by omega
      have s0 : (0 : Int) ≤ (s : Int) := by omega
      have PJ := PN.out j hlt
      rw [← hs] at PJ
      have e1 : (m8 : Int) / 2 ^ s = ((m8 / 2 ^ s : Nat) : Int) := by simp
      have e2 : IntKind.u8.wrap ((m8 / 2 ^ s : Nat) : Int) = ((m8 / 2 ^ s % 256 : Nat) : Int) := by rw [IntKind.wrap_u8]; omega
      have y1 : m8 / 2 ^ s % 256 < 256 := Nat.mod_lt _ (by decide)
      obtain ⟨x, hx⟩ : ∃ x, x = m8 / 2 ^ s := ⟨_, rfl⟩
      rw [← hx] at e1 e2 PJ y1
      obtain ⟨y, hy⟩ : ∃ y, y = x % 256 := ⟨_, rfl⟩
      rw [← hy] at e2 PJ y1
      have PJH := Lib.hid PJ
      have f11 : IntKind.i64.wrap ((s : Int) - 8) = (s : Int) - 8 := IntWalk.i64_in _ (by omega)
      have e3 : (s : Int) - 8 = 56 - 8 * ((j + 1 : Nat) : Int) := by omega
      have zb : Bytes [(y : Int)] := fun z hz => by simp at hz; omega
      have HBS := HB.out.size
      have MM : Hid (((s : Int) - 8 + 8).toNat < ((s : Int) + 8).toNat) := Lib.hid (by omega)
      have E3 := Lib.hid e3
      clear hs e0 PJ hx hy e3
      go_wp2_with (at_builtin
                   refine wpList_append_bytes rfl (.tmp 27) (.tmp 33) rfl w.heap.size _ (a + j) _ rfl (HO.out.alloc _) _ _ 1 1 [(y : Int)] rfl (Holds.lit wr [(y : Int)] _ rfl (by simp [maxLen]) zb) (by omega) (by simp; omega) ?_
                   intro v1 w9 o9 g9 hat9)
      have OX : Hid (Owns w9 w.heap.size v1 (a + j + 1) (ints (padB n (j + 1)))) := Lib.hid (by rw [PJH.out, ints_one]; exact o9)
      have BX := Lib.hid ((HB.out.alloc HBS _).grown g9 (by simp; omega) fun g hg => (HO.out.lt g hg).1)
      clear o9 g9 hat9 HO HB HBS
      go_roundw
      case rel => exact ⟨j + 1, by rw [E3.out], by omega, OX, BX⟩
      case measure => simp only [intOf]; exact MM.out
    · obtain rfl : j = 8 := by omega
      have OF : Hid (Owns wr w.heap.size _ (zeros n + 9) (ints (padL n))) := Lib.hid (by
        have := HO.out
        rw [PA.out, AH.out] at this
        exact this)
      have BF := HB
      rw [show (56 : Int) - 8 * ((8 : Nat) : Int) = -8 from rfl]
      clear HO HB
      go_wp2_with fail
      go_ret
      exact ⟨_, rfl, OF.out, BF.out⟩
end Go.Proofs.YtmlihcillheeaaaDoor.Dig8
