/- The law of a block more. -/
import Derived.Test.YtbcfeecdmkcngaaDoorDigU
set_option linter.unusedVariables false
namespace Go.Proofs.YtbcfeecdmkcngaaDoor.LawMore
open Go.RowKit Go.PlainAid Go.Proofs.YtbcfeecdmkcngaaDoor.Sums Go.Proofs.YtbcfeecdmkcngaaDoor.Mem Go.Proofs.YtbcfeecdmkcngaaDoor.Blk Go.Proofs.YtbcfeecdmkcngaaDoor.Bits3 Go.Proofs.YtbcfeecdmkcngaaDoor.Ints Go.Proofs.YtbcfeecdmkcngaaDoor.IntsO Go.Proofs.YtbcfeecdmkcngaaDoor.Free Go.Proofs.YtbcfeecdmkcngaaDoor.Steps Go.Proofs.YtbcfeecdmkcngaaDoor.Ops Go.Proofs.YtbcfeecdmkcngaaDoor.CutA Go.Proofs.YtbcfeecdmkcngaaDoor.ShaD Go.Proofs.YtbcfeecdmkcngaaDoor.ShaC Go.Proofs.YtbcfeecdmkcngaaDoor.ShaQ Go.Proofs.YtbcfeecdmkcngaaDoor.ShaO Go.Proofs.YtbcfeecdmkcngaaDoor.Dig1 Go.Proofs.YtbcfeecdmkcngaaDoor.Dig5 Go.Proofs.YtbcfeecdmkcngaaDoor.Dig9 Go.Proofs.YtbcfeecdmkcngaaDoor.DigA Go.Proofs.YtbcfeecdmkcngaaDoor.DigU

/-- A row's end, wherever the row lies. -/
theorem cut_end (A : Option Addr) (n c lo : Nat) (h1 : lo ≤ n) (h2 : n ≤ c) : ∃ A', (∀ w : World, (Instr.sliceAt 23 (.slice A n c) (some (.int .i64 (lo : Int))) none none).run Tryd.prog w = .ok (.slice A' (n - lo) (c - lo)) w) ∧ ∀ (w : World) (B : Nat) (l : List Int), Holds w B A n c l → Holds w B A' (n - lo) (c - lo) (l.drop lo) := by
  refine ⟨if c = lo then A else A.map (·.add (lo * 1)), fun w => ?_, fun w B l h => ?_⟩
  · have e := run_slice_l (P := Tryd.prog) (w := w) (t := 23) (a := A) (len := n) (cap := c) (ht := (by kernel_rfl)) .i64 (lo : Int) (by omega) (by omega)
    rw [run_sliceAt_slice (P := Tryd.prog) (h := (by kernel_rfl)), e, byte_elem]
    simp only [Result.andThen_ok, sliced, Int.toNat_natCast]
  · have hc := h.2.2.1
    by_cases hz : n = lo
    · subst hz
      rw [Nat.sub_self, List.drop_of_length_le (by rw [h.1]; exact Nat.le_refl _)]
      exact ⟨rfl, Nat.zero_le _, by omega, fun _ q => (by cases q), fun q => absurd q (by omega)⟩
    · obtain ⟨b, o, e, q⟩ := h.from_ (k := lo) (by omega)
      rw [if_neg (by omega), e]
      simp only [Option.map_some, Nat.mul_one, Mem.add_plain]
      exact q
/-- A row's beginning. -/
theorem cut_begin (A : Option Addr) (n c hi : Nat) (h1 : hi ≤ n) (h2 : n ≤ c) (w : World) : (Instr.sliceAt 23 (.slice A n c) none (some (.int .i64 (hi : Int))) none).run Tryd.prog w = .ok (.slice A hi c) w := by
  have e := run_slice_h (P := Tryd.prog) (w := w) (t := 23) (a := A) (len := n) (cap := c) (ht := (by kernel_rfl)) .i64 (hi : Int) (by omega) (by omega)
  rw [run_sliceAt_slice (P := Tryd.prog) (h := (by kernel_rfl)), e, byte_elem]
  have z : (fun x : Addr => x.add (0 * 1)) = id := by
    funext x
    simp [Addr.add]
  simp only [Result.andThen_ok, sliced, Int.toNat_natCast, Nat.sub_zero]
  split
  · rfl
  · rw [z, Option.map_id]; rfl
theorem flat4_get {F : List Nat} (h : F.length = 8) {j t : Nat} (hj : j < 8) (ht : t < 4) : (F.flatMap four).getD (4 * j + t) 0 = (four (F.getD j 0)).getD t 0 := by
  obtain ⟨a, b, c, d, e, f, g, i, rfl⟩ := Dig4.eight h
  have q : ∀ (j t : Nat), j < 8 → t < 4 → ([a, b, c, d, e, f, g, i].flatMap four).getD (4 * j + t) 0 = (four ([a, b, c, d, e, f, g, i].getD j 0)).getD t 0 := by
    intro j t hj ht
    have hj' : j = 0 ∨ j = 1 ∨ j = 2 ∨ j = 3 ∨ j = 4 ∨ j = 5 ∨ j = 6 ∨ j = 7 := by omega
    have ht' : t = 0 ∨ t = 1 ∨ t = 2 ∨ t = 3 := by omega
    rcases hj' with rfl | rfl | rfl | rfl | rfl | rfl | rfl | rfl <;> rcases ht' with rfl | rfl | rfl | rfl <;> rfl
  exact q j t hj ht
theorem start_next {j : Nat} (h : j < 8) : ShaD.start.take (j + 1) = ShaD.start.take j ++ [K.getD (64 + j) 0] := by
  rw [List.take_add_one]
  congr 1
  rw [ShaD.start, List.getElem?_drop, List.getD_eq_getElem?_getD, List.getElem?_eq_getElem (by rw [K_len]; omega)]
  rfl
theorem st_rows_2 {o : Oper} {a : Act} {w : World} {K : Act → World → Prop} {Q : Exit → Act → World → Prop} (x1 x2 : Operand) (ho : o.op = .buildSlice 33 2 #[(0, x1), (1, x2)]) (A1 : Option Addr) (n1 c1 : Nat) (A2 : Option Addr) (n2 c2 : Nat) (h1 : a.eval x1 = .slice A1 n1 c1) (h2 : a.eval x2 = .slice A2 n2 c2)
    (hK : K (a.put o.dst (.slice (some ⟨w.heap.size, 0, none⟩) 2 2)) (w.alloc (.cells #[.slice A1 n1 c1, .slice A2 n2 c2] 23))) : Step Tryd.prog o a w K Q := by
  constructor
  have hb : (Instr.buildSlice 33 2 #[(0, .slice A1 n1 c1), (1, .slice A2 n2 c2)]).run Tryd.prog w = .ok (.slice (some ⟨w.heap.size, 0, none⟩) 2 2) (w.alloc (.cells #[.slice A1 n1 c1, .slice A2 n2 c2] 23)) := by kernel_rfl
  have hr : (execOp a.eval o).run Tryd.prog w = .ok (.value (.slice (some ⟨w.heap.size, 0, none⟩) 2 2)) (w.alloc (.cells #[.slice A1 n1 c1, .slice A2 n2 c2] 23)) := by
    simp [execOp, ho, h1, h2, hb, Result.andThen]
  unfold Oper.wp
  rw [hr]
  exact hK
theorem b_mul_eq (a b c : Int) (x y : Operand) (w : World) (h : a * b = c) (h0 : -9223372036854775808 ≤ c) (h1 : c ≤ 9223372036854775807) : (do eqGuard .mul 3 x y (.int .i64 a) (.int .i64 b); binOp .mul 3 (.int .i64 a) (.int .i64 b) : Sem Value).run Tryd.prog w = .ok (.int .i64 c) w := by
  subst h
  exact b_mul a b x y w h0 h1
theorem ent_of : Enters Tryd.prog 16 := enters_of Tryd.func16 (by kernel_rfl) rfl
theorem all_below {w w' : World} {B b : Nat} {rs : List Both.Row} (h : Both.All w B b rs) (hb : Below B w w') : Both.All w' B b rs :=
  ⟨h.1, fun k r hk => ⟨(hb.cell (p := ⟨b, k, none⟩) h.1).trans (h.2 k r hk).1, (h.2 k r hk).2.below hb⟩⟩
theorem all_more {w : World} {B B' b : Nat} {rs : List Both.Row} (h : Both.All w B b rs) (hb : B ≤ B') : Both.All w B' b rs :=
  ⟨Nat.lt_of_lt_of_le h.1 hb, fun k r hk => ⟨(h.2 k r hk).1, (h.2 k r hk).2.more hb⟩⟩

set_option maxHeartbeats 2000000 in
set_option maxRecDepth 100000 in
theorem more_any (A : Option Addr) (n c : Nat) (bs : List Int) (a1 : Int) (w : World) (h : Holds w w.heap.size A n c bs) (hz : n ≤ 140737488355328) (hT : Tab w) :
    Calls Tryd.prog 6 #[.slice A n c, .int .i64 a1] w fun e w' => e = .returned (.bool true) ∧ Below w.heap.size w w' := by
  by_cases q1 : 600 < n
  · have g1 : decide ((600 : Int) < (n : Int)) = true := decide_eq_true (by omega)
    go_enter Tryd.func6, Tryd.ntmps6
    go_wp2_with fail
    go_ret
    exact ⟨rfl, Below.refl _ _⟩
  have g1 : decide ((600 : Int) < (n : Int)) = false := decide_eq_false (by omega)
  by_cases q2 : a1 < 0
  · have g2 : decide (a1 < 0) = true := decide_eq_true q2
    go_enter Tryd.func6, Tryd.ntmps6
    go_wp2_with fail
    go_ret
    exact ⟨rfl, Below.refl _ _⟩
  have g2 : decide (a1 < 0) = false := decide_eq_false q2
  by_cases q3 : 9 < a1
  · have g3 : decide (9 < a1) = true := decide_eq_true q3
    go_enter Tryd.func6, Tryd.ntmps6
    go_wp2_with fail
    go_ret
    exact ⟨rfl, Below.refl _ _⟩
  have g3 : decide (9 < a1) = false := decide_eq_false q3
  obtain ⟨kb, rfl⟩ : ∃ k : Nat, a1 = (k : Int) := ⟨a1.toNat, by omega⟩
  obtain ⟨mb, hmb⟩ : ∃ m, m = 64 * kb := ⟨_, rfl⟩
  have g4 : IntKind.i64.wrap (64 * (kb : Int)) = (mb : Int) := by rw [IntWalk.i64_in _ (by omega)]; omega
  by_cases q4 : n < mb
  · have g5 : decide ((n : Int) < (mb : Int)) = true := decide_eq_true (by omega)
    clear hmb
    go_enter Tryd.func6, Tryd.ntmps6
    go_wp2_with fail
    go_ret
    exact ⟨rfl, Below.refl _ _⟩
  have g5 : decide ((n : Int) < (mb : Int)) = false := decide_eq_false (by omega)
  have MB := Lib.hid (show (64 : Int) * (kb : Int) = (mb : Int) by omega)
  have H := Lib.hid h
  have HT := Lib.hid hT
  have BI : Hid (ints (nats bs) = bs) := Lib.hid (ints_nats fun z hz => h.2.2.2.1 z hz)
  have BL : Hid ((nats bs).length = n) := Lib.hid ((nats_len bs).trans h.1)
  have hnc := h.2.1
  obtain ⟨AE, CE, HE⟩ := cut_end A n c mb (by omega) hnc
  have CB := Lib.hid (cut_begin A n c mb (by omega) hnc)
  have CEH := Lib.hid CE
  have HEH := Lib.hid HE
  obtain ⟨BN, hBN⟩ : ∃ BN, BN = nats bs := ⟨_, rfl⟩
  rw [← hBN] at BI BL
  have BNE := Lib.hid hBN
  have O0 : Hid (IOwn w w.heap.size (.slice none 0 0) (ShaD.start.take 0)) := Lib.hid (IOwn.nil _ _)
  have B0 := Lib.hid (Below.refl w.heap.size w)
  clear hBN hT h hmb CE HE q2 q3
  go_enter Tryd.func6, Tryd.ntmps6
  go_wp2_with fail
  clear g1 g2 g3 g4 g5
  go_loopw [5, 6] (fun sv kv wr => ∃ j i : Nat, kv = .int .i64 (i : Int) ∧ j ≤ 8 ∧ Hid (i = 64 + j) ∧ Hid (IOwn wr w.heap.size sv (ShaD.start.take j)) ∧ Hid (Below w.heap.size w wr)) (fun _ kv _ => 100 - (intOf kv).toNat)
  case atStart => exact ⟨0, 64, rfl, by omega, Lib.hid rfl, O0, B0⟩
  case round =>
    obtain ⟨j, i, rfl, hj, HI, HO, HB⟩ := hrel
    clear O0 B0
    have hi := HI.out
    by_cases hlt : j < 8
    · have gi : decide ((i : Int) < 72) = true := decide_eq_true (by omega)
      have C := Lib.hid (constant_no (i : Int) wr (HT.out.up HB.out))
      rw [show kAt (i : Int) = K.getD i 0 by unfold kAt; rw [if_neg (by omega), Int.toNat_natCast]] at C
      have SN := Lib.hid (start_next hlt)
      rw [← hi] at SN
      generalize K.getD i 0 = y at *
      obtain ⟨i2, hi2⟩ : ∃ i2, i2 = i + 1 := ⟨_, rfl⟩
      have f1 : IntKind.i64.wrap ((i : Int) + 1) = (i2 : Int) := by rw [IntWalk.i64_in _ (by omega)]; omega
      have HI2 : Hid (i2 = 64 + (j + 1)) := Lib.hid (by omega)
      have MM : Hid (100 - i2 < 100 - i) := Lib.hid (by omega)
      have HBS := HB.out.size
      have TL : (ShaD.start.take j).length ≤ 8 := by rw [List.length_take]; omega
      have LC : Hid (∀ t, t < [y].length → (wr.alloc (.cells #[.int .i64 (y : Int)] 3)).cell? ⟨wr.heap.size, 0 + t, none⟩ = some (.int .i64 (([y].getD t 0 : Nat) : Int))) := Lib.hid fun t ht => by
        have t0 : t = 0 := by simpa using ht
        subst t0
        exact Blk.cell (Blk.new wr 3 #[.int .i64 (y : Int)]) 0
      clear hi hi2
      go_wp2_with fail
      refine C.out.mono ?_
      rintro e w' ⟨rfl, rfl⟩
      go_wp2_with (at_builtin
                   refine wpList_append_ints rfl (.tmp 39) (.tmp 41) rfl w.heap.size _ _ rfl (HO.out.alloc _) wr.heap.size 0 1 [y] rfl LC.out (by simp) (by simp; omega) (by simp; omega) ?_
                   intro v1 w9 o9 g9)
      have OX : Hid (IOwn w9 w.heap.size v1 (ShaD.start.take (j + 1))) := Lib.hid (by rw [SN.out]; exact o9)
      have BX := Lib.hid ((HB.out.alloc HBS _).grown g9 (by simp; omega) fun g hg => (HO.out.lt g hg).1)
      clear o9 g9 HO HB HBS C LC
      go_roundw
      case rel => exact ⟨j + 1, i2, rfl, by omega, HI2, OX, BX⟩
      case measure => have := MM.out; simp [intOf]; omega
    · obtain rfl : j = 8 := by omega
      obtain rfl : i = 72 := by omega
      rw [show ShaD.start.take 8 = ShaD.start from rfl] at HO
      obtain ⟨As0, cs0, rfl⟩ := HO.out.shape
      have S0 := Lib.hid (HoldsI.of_own HO.out start_lt (by rw [ShaO.start_len]; decide))
      rw [ShaO.start_len] at S0 ⊢
      obtain ⟨m8, hm8⟩ : ∃ m8, m8 = 8 * n := ⟨_, rfl⟩
      have f1 : IntKind.i64.wrap (8 * (n : Int)) = (m8 : Int) := by rw [IntWalk.i64_in _ (by omega)]; omega
      have M8 := Lib.hid hm8
      rw [show ((72 : Nat) : Int) = 72 from rfl]
      generalize wr = wp at *
      have H1 : Hid (Holds (wp.alloc (.cells #[.int .u8 128] 5)) (wp.heap.size + 1) A n c bs) := Lib.hid (((H.out.below HB.out).below ((Below.refl _ wp).alloc HB.out.size _)).more (by have := HB.out.size; omega))
      have H2 : Hid (Holds (wp.alloc (.cells #[.int .u8 128] 5)) (wp.heap.size + 1) (some ⟨wp.heap.size, 0, none⟩) 1 1 [128]) := Lib.hid (Holds.lit wp [128] _ rfl (by simp [maxLen]) (fun z hz => by simp at hz; omega))
      have BA : Hid (Below wp.heap.size wp (wp.alloc (.cells #[.int .u8 128] 5))) := Lib.hid ((Below.refl _ wp).alloc (Nat.le_refl _) _)
      clear hi hlt hj HI hm8 HO
      go_wp2_with fail
      clear f1
      refine (Both.both_lit (w := wp.alloc (.cells #[.int .u8 128] 5)) (B := wp.heap.size + 1) (by simp) [⟨A, n, c, bs⟩, ⟨some ⟨wp.heap.size, 0, none⟩, 1, 1, [128]⟩] _ _ rfl (Both.mem2 H1.out H2.out) _ 2 (by simp) rfl (by decide) (by show n + (1 + 0) ≤ 1048576; omega)).mono ?_
      rintro e w1 ⟨A1, c1, rfl, _, o1, hb⟩
      have e1 : Both.flat [⟨A, n, c, bs⟩, ⟨some ⟨wp.heap.size, 0, none⟩, 1, 1, [128]⟩] = ints (BN ++ 128 :: List.replicate 0 0) := by
        rw [ShaO.ints_app, BI.out]; rfl
      have e0 : Both.total [⟨A, n, c, bs⟩, ⟨some ⟨wp.heap.size, 0, none⟩, 1, 1, [128]⟩] = n + 1 := rfl
      rw [e1, e0] at o1
      rw [e0]
      have O1 : Hid (Owns w1 wp.heap.size (.slice A1 (n + 1) c1) (n + 1) (ints (BN ++ 128 :: List.replicate 0 0))) := Lib.hid (o1.mono (by simp))
      have B1 : Hid (Below wp.heap.size wp w1) := Lib.hid (BA.out.trans (hb.mono BA.out.size))
      clear o1 hb e1 e0 H1 H2 BA
      go_wp2_with fail
      go_loopw [9] (fun mv wr => ∃ (k N : Nat), Hid (N = n + 1 + k) ∧ Hid (k ≤ zeros n) ∧ Hid (Owns wr wp.heap.size mv N (ints (BN ++ 128 :: List.replicate k 0))) ∧ Hid (Below wp.heap.size wp wr)) (fun mv _ => n + 200 - lenOf mv)
      case atStart => exact ⟨0, n + 1, Lib.hid rfl, Lib.hid (Nat.zero_le _), O1, B1⟩
      case round =>
        obtain ⟨k, N, HN, HK, HO, HBp⟩ := hrel
        clear O1 B1
        obtain ⟨Am, cm, rfl, _⟩ := HO.out.slice
        have nb : N ≤ 1000 := by have := HN.out; have := HK.out; unfold zeros at this; omega
        have nlt : Hid (N ≤ n + 65) := Lib.hid (by have := HN.out; have := HK.out; unfold zeros at this; omega)
        obtain ⟨r, hr⟩ : ∃ r, r = N % 64 := ⟨_, rfl⟩
        have em : (N : Int).tmod 64 = (r : Int) := by rw [Int.tmod_eq_emod_of_nonneg (by omega)]; omega
        have ZS : Hid (r = 56 ↔ k = zeros n) := Lib.hid (by rw [hr, HN.out]; exact zeros_stop HK.out)
        clear hr
        by_cases hz : k = zeros n
        · have g : ((r : Int) != 56) = false := by have := ZS.out.2 hz; subst this; rfl
          have HO2 : Hid (Owns wr wp.heap.size (.slice Am N cm) N (ints (BN ++ 128 :: List.replicate (zeros n) 0))) := Lib.hid (by rw [← hz]; exact HO.out)
          have NE : Hid (N = n + 1 + zeros n) := Lib.hid (by rw [← hz]; exact HN.out)
          have m8b : m8 ≤ 4800 := by have := M8.out; omega
          obtain ⟨d1, hd1⟩ : ∃ d1, d1 = m8 / 65536 := ⟨_, rfl⟩
          obtain ⟨d2, hd2⟩ : ∃ d2, d2 = m8 / 256 := ⟨_, rfl⟩
          obtain ⟨x2, hx2⟩ : ∃ x2, x2 = d2 % 256 := ⟨_, rfl⟩
          obtain ⟨x3, hx3⟩ : ∃ x3, x3 = m8 % 256 := ⟨_, rfl⟩
          have e1 : (m8 : Int).tdiv 65536 = (d1 : Int) := by rw [Int.tdiv_eq_ediv_of_nonneg (by omega)]; omega
          have e2 : (m8 : Int).tdiv 256 = (d2 : Int) := by rw [Int.tdiv_eq_ediv_of_nonneg (by omega)]; omega
          have e3 : (d2 : Int).tmod 256 = (x2 : Int) := by rw [Int.tmod_eq_emod_of_nonneg (by omega)]; omega
          have e4 : (m8 : Int).tmod 256 = (x3 : Int) := by rw [Int.tmod_eq_emod_of_nonneg (by omega)]; omega
          have e5 : IntKind.u8.wrap (d1 : Int) = (d1 : Int) := by rw [IntKind.wrap_u8]; omega
          have e6 : IntKind.u8.wrap (x2 : Int) = (x2 : Int) := by rw [IntKind.wrap_u8]; omega
          have e7 : IntKind.u8.wrap (x3 : Int) = (x3 : Int) := by rw [IntKind.wrap_u8]; omega
          have e8 : IntKind.i64.wrap (d1 : Int) = (d1 : Int) := IntWalk.i64_in _ (by omega)
          have e9 : IntKind.i64.wrap (d2 : Int) = (d2 : Int) := IntWalk.i64_in _ (by omega)
          have PD : Hid (ints (BN ++ 128 :: List.replicate (zeros n) 0) ++ [0, 0, 0, 0, 0, (d1 : Int), (x2 : Int), (x3 : Int)] = ints (pad BN)) := Lib.hid (by
            have q := row_pad BL.out
            have f4 : ∀ z : Nat, four z = [z / 16777216, z / 65536 % 256, z / 256 % 256, z % 256] := fun _ => rfl
            have z0 : 8 * n / M = 0 := by have := M8.out; unfold M; omega
            have z1 : 8 * n % M = m8 := by have := M8.out; unfold M; omega
            rw [z0, z1] at q
            rw [← q, List.append_nil, ← ShaO.ints_app]
            have y0 : four 0 ++ four m8 = [0, 0, 0, 0, 0, d1, x2, x3] := by
              rw [f4 m8, hd1, hx2, hx3, hd2, show m8 / 16777216 = 0 by omega, show m8 / 65536 % 256 = m8 / 65536 by omega]; rfl
            rw [y0]; rfl)
          have zb : Bytes [0, 0, 0, 0, 0, (d1 : Int), (x2 : Int), (x3 : Int)] := fun z hz => by simp at hz; omega
          have HBS := HBp.out.size
          have L8 := Lib.hid (Holds.lit wr [0, 0, 0, 0, 0, (d1 : Int), (x2 : Int), (x3 : Int)] #[.int .u8 0, .int .u8 0, .int .u8 0, .int .u8 0, .int .u8 0, .int .u8 (d1 : Int), .int .u8 (x2 : Int), .int .u8 (x3 : Int)] rfl (by simp [maxLen]) zb)
          generalize wr = wo at *
          clear ZS hz HK HN HO nlt hd1 hd2 hx2 hx3 zb
          go_wp2_with (at_builtin
                       refine wpList_append_bytes rfl (.tmp 57) (.tmp 68) rfl wp.heap.size _ N _ rfl (HO2.out.alloc _) _ _ 8 8 _ rfl L8.out (by omega) (by simp; omega) ?_
                       intro v7 w7 o7 g7 hat7)
          rw [PD.out] at o7
          obtain ⟨L, hL⟩ : ∃ L, L = N + 8 := ⟨_, rfl⟩
          rw [← hL] at o7
          obtain ⟨A7, c7, rfl, h7⟩ := o7.slice
          have B7 := Lib.hid ((HBp.out.alloc HBS _).grown g7 (by simp; omega) fun g hg => (HO2.out.lt g hg).1)
          have H7 := Lib.hid h7
          have PL : Hid ((pad BN).length = L ∧ L % 64 = 0) := Lib.hid (by
            have q := pad_len BN
            have e : (pad BN).length = L := by rw [q.2, BL.out, hL, NE.out]; omega
            exact ⟨e, by rw [← e]; exact q.1⟩)
          have lb : L ≤ 2000 := by omega
          have FE : Hid (bgo (L / 64) ShaD.start (pad BN) = final BN) := Lib.hid (by unfold final; rw [PL.out.1])
          obtain ⟨P, hP⟩ : ∃ P, P = pad BN := ⟨_, rfl⟩
          rw [← hP] at H7 PL FE
          obtain ⟨gm, pm, rfl, _, _⟩ := H7.out.2.2.2.2 (by omega)
          obtain ⟨T, hT⟩ : ∃ T, T = L / 64 := ⟨_, rfl⟩
          have HTT : Hid (L = 64 * T) := Lib.hid (by have := PL.out.2; omega)
          rw [← hT] at FE
          have S7 : Hid (HoldsI w7 w7.heap.size As0 8 cs0 (ints ShaD.start)) := Lib.hid ((S0.out.below B7.out).more B7.out.size)
          have BW7 := Lib.hid (HB.out.trans (B7.out.mono HB.out.size))
          clear o7 g7 hat7 h7 hL PD hP hT L8 HO2 NE HBp HBS S0 e1 e2 e3 e4 e5 e6 e7 e8 e9 g em
          go_wp2_with fail
          go_loopw [5, 10] (fun sv iv wr => ∃ (k i : Nat) (S : List Nat) (As : Option Addr) (cs : Nat), sv = .slice As 8 cs ∧ iv = .int .i64 (i : Int) ∧ Hid (i = 64 * k) ∧ Hid (k ≤ T) ∧ Hid (S.length = 8 ∧ W32 S) ∧ Hid (HoldsI wr wr.heap.size As 8 cs (ints S)) ∧ Hid (bgo (T - k) S (P.drop i) = final BN) ∧ Hid (Below w7.heap.size w7 wr)) (fun _ iv _ => L + 64 - (intOf iv).toNat)
          case atStart => exact ⟨0, 0, ShaD.start, _, _, rfl, rfl, Lib.hid rfl, Lib.hid (Nat.zero_le _), Lib.hid ⟨ShaO.start_len, ShaO.start_lt⟩, S7, FE, Lib.hid (Below.refl _ _)⟩
          case round =>
            obtain ⟨k, i, S, As, cs, rfl, rfl, HI, HKT, HSL, HS, HE, HB7⟩ := hrel
            clear S7
            have lT := HTT.out
            have li := HI.out
            have lk := HKT.out
            by_cases hlt : k < T
            · obtain ⟨i2, hi2⟩ : ∃ i2, i2 = i + 64 := ⟨_, rfl⟩
              have f : IntKind.i64.wrap ((i : Int) + 64) = (i2 : Int) := by rw [IntWalk.i64_in _ (by omega)]; omega
              have g1 : decide ((i : Int) < (L : Int)) = true := decide_eq_true (by omega)
              have g2 : ((i : Int) < (L : Int)) = True := eq_true (by omega)
              have hnc7 := H7.out.2.1
              have slc : ∀ W : World, (Instr.sliceAt 23 (.slice (some ⟨gm, pm, none⟩) L c7) (some (.int .i64 (i : Int))) (some (.int .i64 (i2 : Int))) none).run Tryd.prog W = .ok (.slice (some (adr gm pm c7 i)) 64 (c7 - i)) W := fun W => by
                have := cutA_lh gm pm L c7 i i2 W (by omega) (by omega)
                rwa [show i2 - i = 64 by omega] at this
              have HC : Hid (Holds wr w7.heap.size (some (adr gm pm c7 i)) 64 (c7 - i) (ints ((P.drop i).take 64))) := Lib.hid (by
                have := cutA_holds (H7.out.below HB7.out) (show i ≤ i2 by omega) (by omega)
                rw [show i2 - i = 64 by omega] at this
                rw [ShaO.ints_take, ShaO.ints_drop]
                exact this)
              have SO := stI_of HSL.out.1 HSL.out.2
              have RR := Lib.hid (round_no As 8 cs (ints S) (some (adr gm pm c7 i)) 64 (c7 - i) (ints ((P.drop i).take 64)) wr wr.heap.size HS.out (HC.out.more HB7.out.size) (Nat.le_refl _) (HT.out.up (BW7.out.trans (HB7.out.mono BW7.out.size))))
              rw [nats_ints, nats_ints, SO, show (true && decide (64 = 64)) = true from rfl] at RR
              have HE2 : Hid (bgo (T - (k + 1)) (round S ((P.drop i).take 64)) (P.drop i2) = final BN) := Lib.hid (by
                have := HE.out
                rw [show T - k = (T - (k + 1)) + 1 by omega, bgo, List.drop_drop] at this
                rw [hi2]
                exact this)
              have HI2 : Hid (i2 = 64 * (k + 1) ∧ k + 1 ≤ T) := Lib.hid (by omega)
              have MS : Hid (i < L) := Lib.hid (by omega)
              have I2 := Lib.hid hi2
              clear lT li lk hi2 hlt HC HE HI HKT hnc7 SO
              go_wp2_with fail
              refine RR.out.mono ?_
              rintro e w9 ⟨yes, _, hb⟩
              obtain ⟨v, rfl, ow⟩ := yes rfl
              obtain ⟨g9, c9, rfl, _, _, _, _⟩ := ow.form (by rw [round_len]; decide)
              have HS9 := HoldsI.of_own ow (round_lt _ _) (by rw [round_len]; decide)
              rw [round_len] at HS9 ⊢
              have HS2 := Lib.hid HS9
              have HB2 := Lib.hid (HB7.out.trans (hb.mono HB7.out.size))
              have SL2 : Hid ((round S ((P.drop i).take 64)).length = 8 ∧ W32 (round S ((P.drop i).take 64))) := Lib.hid ⟨round_len _ _, round_lt _ _⟩
              obtain ⟨S2, hS2⟩ : ∃ S2, S2 = round S ((P.drop i).take 64) := ⟨_, rfl⟩
              rw [← hS2] at HS2 HE2 SL2
              clear yes ow hb HS9 hS2 RR HS HB7 slc g1 g2
              go_wp2_with fail
              go_roundw
              case rel => exact ⟨k + 1, i2, S2, _, _, rfl, by go_num, Lib.hid HI2.out.1, Lib.hid HI2.out.2, SL2, HS2, HE2, HB2⟩
              case measure => have := MS.out; have := I2.out; simp [intOf]; omega
            · obtain rfl : k = T := by omega
              have SF : Hid (S = final BN) := Lib.hid (by
                have := HE.out
                rwa [Nat.sub_self, bgo] at this)
              have g1 : decide ((i : Int) < (L : Int)) = false := decide_eq_false (by omega)
              have g2 : ((i : Int) < (L : Int)) = False := eq_false (by omega)
              have BW := Lib.hid (BW7.out.trans (HB7.out.mono BW7.out.size))
              obtain ⟨b, o, rfl, hbw, hcs⟩ := HS.out.2.2.2 (by decide)
              have SC : Hid (∀ V : World, Below wr.heap.size wr V → ∀ t, t < 8 → V.cell? ⟨b, o + t, none⟩ = some (.int .i64 ((S.getD t 0 : Nat) : Int))) := Lib.hid fun V hV t ht => by
                have := hcs t ht
                rw [ints_getD] at this
                exact keep_cell this hV
              generalize wr = wq at *
              have X1 : Hid (∀ V : World, Below wq.drew.heap.size wq.drew V → Below wq.heap.size wq V) := Lib.hid fun V hV => (below_drewN (Below.refl wq.heap.size wq) 1).trans hV
              have H9 : Hid (Holds wq wq.heap.size A n c bs) := Lib.hid ((H.out.below BW.out).more BW.out.size)
              obtain ⟨rs, hrs⟩ : ∃ rs : List Both.Row, rs = [⟨A, mb, c, bs.take mb⟩, ⟨AE, n - mb, c - mb, bs.drop mb⟩] := ⟨_, rfl⟩
              have mbn : mb ≤ n := by omega
              have RH : Hid (∀ r ∈ rs, Holds wq wq.heap.size r.A r.n r.c r.l) := Lib.hid (by
                rw [hrs]
                exact Both.mem2 (H9.out.upto mbn) (HEH.out wq _ bs H9.out))
              have RF : Hid (nats (Both.flat rs) = BN) := Lib.hid (by
                rw [hrs, BNE.out]
                congr 1
                simp [Both.flat, List.take_append_drop])
              have RT : Hid (Both.total rs = n) := Lib.hid (by
                rw [hrs]
                show mb + (n - mb + 0) = n
                omega)
              have RL : Hid ((Both.flat rs).length = Both.total rs) := Lib.hid (flat_len (by
                rw [hrs]
                intro r hr
                simp only [List.mem_cons, List.not_mem_nil, or_false] at hr
                rcases hr with rfl | rfl
                · rw [List.length_take, H.out.1]; exact Nat.min_eq_left mbn
                · rw [List.length_drop, H.out.1]))
              have RC : Hid (rs.length = 2 ∧ ([.slice A mb c, .slice AE (n - mb) (c - mb)] : List Value) = rs.map fun r => Value.slice r.A r.n r.c) := Lib.hid (by rw [hrs]; exact ⟨rfl, rfl⟩)
              have OF : Hid (∀ (V : World) (g : Nat), Below wq.heap.size wq V → Both.All V V.heap.size g rs → Calls Tryd.prog 16 #[.slice (some ⟨g, 0, none⟩) 2 2] V fun e w' => ∃ v, e = .returned v ∧ Owns w' V.heap.size v 32 (ints (digest BN)) ∧ Below V.heap.size V w') := Lib.hid fun V g hV ha => by
                have q := of_no (some ⟨g, 0, none⟩) 2 2 rs V V.heap.size (.inr ⟨g, rfl, ha⟩) RC.out.1 (Nat.le_refl _) (by decide) RL.out (by rw [RT.out]; omega) (HT.out.up (BW.out.trans (hV.mono BW.out.size)))
                rwa [RF.out] at q
              have g7 : IntKind.i64.wrap (64 * (kb : Int)) = (mb : Int) := by rw [MB.out]; exact IntWalk.i64_in _ (by omega)
              have MX : Hid (0 ≤ (64 : Int) * (kb : Int) ∧ (64 : Int) * (kb : Int) ≤ 600) := Lib.hid (by rw [MB.out]; omega)
              clear lT li lk hlt HE HB7 H7 HTT HI HKT FE PL hcs hbw hrs
              go_wp2_with fail
              refine wp_region_free [0, 1, 2, 3, 4, 5, 6, 7, 8, 9] 10 [] (fun w1 w2 => Below w1.heap.size w1 w2) (fun k' w' v => match k' with
                | 0 => v = .slice A n c
                | 1 => v = .int .i64 ((kb : Int))
                | 2 => v = .int .i64 ((mb : Int))
                | 3 => v = .slice A mb c
                | 4 => v = .slice A n c
                | 5 => v = .int .i64 ((kb : Int))
                | 6 => v = .int .i64 ((mb : Int))
                | 7 => v = .slice AE (n - mb) (c - mb)
                | 8 => ∃ g, v = .slice (some ⟨g, 0, none⟩) 2 2 ∧ Both.All w' w'.heap.size g rs
                | _ => Owns w' wq.heap.size v 32 (ints (digest BN))) (by kernel_rfl) (by kernel_rfl) (Below.refl _ _) (fun _ _ _ h k => h.trans (k.mono h.size)) (fun k' w1 w2 v h => match k' with
                | 0 => fun x => x
                | 1 => fun x => x
                | 2 => fun x => x
                | 3 => fun x => x
                | 4 => fun x => x
                | 5 => fun x => x
                | 6 => fun x => x
                | 7 => fun x => x
                | 8 => fun ⟨g, e, q⟩ => ⟨g, e, all_more (all_below q h) h.size⟩
                | _ + 9 => fun q => q.below h (Nat.le_refl _)) (fun _ _ _ _ _ h => h) ?_ _ (by rfl) ?_
              · refine obs_cons (by rfl) (fun vals w' hgr hdep K hK => ?_) (obs_cons (by rfl) (fun vals w' hgr hdep K hK => ?_) (obs_cons (by rfl) (fun vals w' hgr hdep K hK => ?_) (obs_cons (by rfl) (fun vals w' hgr hdep K hK => ?_) (obs_cons (by rfl) (fun vals w' hgr hdep K hK => ?_) (obs_cons (by rfl) (fun vals w' hgr hdep K hK => ?_) (obs_cons (by rfl) (fun vals w' hgr hdep K hK => ?_) (obs_cons (by rfl) (fun vals w' hgr hdep K hK => ?_) (obs_cons (by rfl) (fun vals w' hgr hdep K hK => ?_) (obs_cons (by rfl) (fun vals w' hgr hdep K hK => ?_) (obs_nil))))))))))
                · exact wp_move (.tmp 0) rfl _ (at_out _ (by kernel_rfl) rfl) (hK _ _ (Below.refl _ _) rfl)
                · exact wp_move (.tmp 1) rfl _ (at_out _ (by kernel_rfl) rfl) (hK _ _ (Below.refl _ _) rfl)
                · exact wp_bin (.const (.int .i64 64)) (.tmp 95) rfl _ _ _ rfl ((at_dst 1 (by kernel_rfl)).trans (hdep 1 (by simp) (by kernel_rfl))) (b_mul_eq _ _ _ _ _ _ MB.out (by omega) (by omega)) (hK _ _ (Below.refl _ _) rfl)
                · exact wp_slice (.tmp 94) rfl _ _ none (some (.int .i64 (mb : Int))) none ((at_dst 0 (by kernel_rfl)).trans (hdep 0 (by simp) (by kernel_rfl))) rfl (congrArg some ((at_dst 2 (by kernel_rfl)).trans (hdep 2 (by simp) (by kernel_rfl)))) rfl (CB.out _) (hK _ _ (Below.refl _ _) rfl)
                · exact wp_move (.tmp 0) rfl _ (at_out _ (by kernel_rfl) rfl) (hK _ _ (Below.refl _ _) rfl)
                · exact wp_move (.tmp 1) rfl _ (at_out _ (by kernel_rfl) rfl) (hK _ _ (Below.refl _ _) rfl)
                · exact wp_bin (.const (.int .i64 64)) (.tmp 99) rfl _ _ _ rfl ((at_dst 5 (by kernel_rfl)).trans (hdep 5 (by simp) (by kernel_rfl))) (b_mul_eq _ _ _ _ _ _ MB.out (by omega) (by omega)) (hK _ _ (Below.refl _ _) rfl)
                · exact wp_slice (.tmp 98) rfl _ _ (some (.int .i64 (mb : Int))) none none ((at_dst 4 (by kernel_rfl)).trans (hdep 4 (by simp) (by kernel_rfl))) (congrArg some ((at_dst 6 (by kernel_rfl)).trans (hdep 6 (by simp) (by kernel_rfl)))) rfl rfl (CEH.out _) (hK _ _ (Below.refl _ _) rfl)
                · refine st_rows_2 (.tmp 97) (.tmp 101) rfl A mb c AE (n - mb) (c - mb) ((at_dst 3 (by kernel_rfl)).trans (hdep 3 (by simp) (by kernel_rfl))) ((at_dst 7 (by kernel_rfl)).trans (hdep 7 (by simp) (by kernel_rfl))) (hK _ _ ((Below.refl _ _).alloc (Nat.le_refl _) _) ⟨_, rfl, ?_⟩)
                  have q := Both.All.lit (w := w') (B := w'.heap.size) (Nat.le_refl _) rs #[.slice A mb c, .slice AE (n - mb) (c - mb)] 23 RC.out.2 (fun r hr => ((RH.out r hr).below (X1.out w' hgr)).more (X1.out w' hgr).size)
                  simpa using q
                · obtain ⟨g, e8, al⟩ : ∃ g, vals 8 = .slice (some ⟨g, 0, none⟩) 2 2 ∧ Both.All w' w'.heap.size g rs := hdep 8 (by simp) (by kernel_rfl)
                  exact wp_call 16 [.tmp 102] _ rfl ent_of [.slice (some ⟨g, 0, none⟩) 2 2] (congrArg (fun z => [z]) ((at_dst 8 (by kernel_rfl)).trans e8)) (fun v w'' => Owns w'' w'.heap.size v 32 (ints (digest BN)) ∧ Below w'.heap.size w' w'') ((OF.out w' g (X1.out w' hgr) al).mono fun e w'' ⟨v, h1, h2, h3⟩ => ⟨v, h1, h2, h3⟩) (fun v w'' ⟨h1, h2⟩ => hK v _ h2 (h1.mono (X1.out w' hgr).size))
              · intro vals w' hgr hG
                have OD : Owns w' wq.heap.size (vals 9) 32 (ints (digest BN)) := hG 9 (by simp)
                refine st_assign (.tmp 103) _ rfl (at_dst 9 (by kernel_rfl)) (wpAnyH_done (by kernel_rfl) ?_ _)
                have B9 := Lib.hid (BW.out.trans ((X1.out w' hgr).mono BW.out.size))
                have SC9 : Hid (∀ V : World, Below w'.heap.size w' V → ∀ t, t < 8 → V.cell? ⟨b, o + t, none⟩ = some (.int .i64 ((S.getD t 0 : Nat) : Int))) := Lib.hid fun V hV => SC.out V ((X1.out w' hgr).trans (hV.mono (X1.out w' hgr).size))
                have ODH := Lib.hid OD
                obtain ⟨Ad, cd, ed, _⟩ := OD.slice
                have ED := Lib.hid ed
                clear hG hgr OD SC X1 OF RC RH RF RT RL
                simp only [fill, dstAt, List.getElem?_cons_zero, List.getElem?_cons_succ, Option.bind_some, Act.put, List.setIfInBounds_toArray, List.set_cons_zero, List.set_cons_succ]
                rw [ED.out] at ODH
                rw [ED.out]
                obtain ⟨gd, rfl, _, _⟩ := ODH.out.form (by decide)
                generalize w' = wd at *
                clear ed ED
                generalize vals 0 = y0, vals 1 = y1, vals 2 = y2, vals 3 = y3, vals 4 = y4, vals 5 = y5, vals 6 = y6, vals 7 = y7, vals 8 = y8, vals 9 = y9 at *
                go_wp2_with fail
                go_loopw [14] (fun kv wr => ∃ j : Nat, kv = .int .i64 (j : Int) ∧ j ≤ 8 ∧ Hid (Below wd.heap.size wd wr)) (fun kv _ => 8 - (intOf kv).toNat)
                case atStart => exact ⟨0, rfl, by omega, Lib.hid (Below.refl _ _)⟩
                case round =>
                  obtain ⟨j, rfl, hj, HBx⟩ := hrel
                  by_cases hlj : j < 8
                  · obtain ⟨p0, h0⟩ : ∃ p0, p0 = 4 * j := ⟨_, rfl⟩
                    obtain ⟨p1, h1⟩ : ∃ p1, p1 = p0 + 1 := ⟨_, rfl⟩
                    obtain ⟨p2, h2⟩ : ∃ p2, p2 = p0 + 2 := ⟨_, rfl⟩
                    obtain ⟨p3, h3⟩ : ∃ p3, p3 = p0 + 3 := ⟨_, rfl⟩
                    have f0 : IntKind.i64.wrap (4 * (j : Int)) = (p0 : Int) := by rw [IntWalk.i64_in _ (by omega)]; omega
                    have f1 : IntKind.i64.wrap ((p0 : Int) + 1) = (p1 : Int) := by rw [IntWalk.i64_in _ (by omega)]; omega
                    have f2 : IntKind.i64.wrap ((p0 : Int) + 2) = (p2 : Int) := by rw [IntWalk.i64_in _ (by omega)]; omega
                    have f3 : IntKind.i64.wrap ((p0 : Int) + 3) = (p3 : Int) := by rw [IntWalk.i64_in _ (by omega)]; omega
                    have DV : ∀ t, t < 4 → wr.cell? ⟨gd, p0 + t, none⟩ = some (.int .u8 (((four (S.getD j 0)).getD t 0 : Nat) : Int)) := fun t ht => by
                      have e : (digest BN).getD (p0 + t) 0 = (four (S.getD j 0)).getD t 0 := by
                        have q := flat4_get (F := S) HSL.out.1 hlj ht
                        have d : digest BN = S.flatMap four := by rw [SF.out]; rfl
                        rw [d, h0]
                        exact q
                      have hz : (ints (digest BN))[p0 + t]? = some (((four (S.getD j 0)).getD t 0 : Nat) : Int) := by
                        have ln : p0 + t < (ints (digest BN)).length := by rw [ODH.out.1]; omega
                        rw [getD_some ln, ints_getD, e]
                      exact keep_cell (ODH.out.cell hz) HBx.out
                    have d0 := DV 0 (by decide)
                    have d1 := DV 1 (by decide)
                    have d2 := DV 2 (by decide)
                    have d3 := DV 3 (by decide)
                    rw [Nat.add_zero] at d0
                    rw [← h1] at d1
                    rw [← h2] at d2
                    rw [← h3] at d3
                    have cx := SC9.out wr HBx.out j hlj
                    have xb := HSL.out.2.get j
                    generalize S.getD j 0 = x at *
                    unfold M at xb
                    have f4 : four x = [x / 16777216, x / 65536 % 256, x / 256 % 256, x % 256] := rfl
                    rw [f4] at d0 d1 d2 d3
                    simp only [List.getD_cons_zero, List.getD_cons_succ] at d0 d1 d2 d3
                    obtain ⟨z0, k0⟩ : ∃ z, z = x / 16777216 := ⟨_, rfl⟩
                    obtain ⟨z1, k1⟩ : ∃ z, z = x / 65536 % 256 := ⟨_, rfl⟩
                    obtain ⟨z2, k2⟩ : ∃ z, z = x / 256 % 256 := ⟨_, rfl⟩
                    obtain ⟨z3, k3⟩ : ∃ z, z = x % 256 := ⟨_, rfl⟩
                    rw [← k0] at d0
                    rw [← k1] at d1
                    rw [← k2] at d2
                    rw [← k3] at d3
                    have E : 16777216 * (z0 : Int) + 65536 * (z1 : Int) + 256 * (z2 : Int) + (z3 : Int) = (x : Int) := by omega
                    have gE : (16777216 * (z0 : Int) + 65536 * (z1 : Int) + 256 * (z2 : Int) + (z3 : Int) != (x : Int)) = false := by rw [E]; simp
                    have b0 : z0 < 256 := by omega
                    have b1 : z1 < 256 := by omega
                    have b2 : z2 < 256 := by omega
                    have b3 : z3 < 256 := by omega
                    have l0 : p0 < 32 := by omega
                    have l1 : p1 < 32 := by omega
                    have l2 : p2 < 32 := by omega
                    have l3 : p3 < 32 := by omega
                    clear h0 h1 h2 h3 k0 k1 k2 k3 DV E f4 xb
                    go_wp2_with fail
                    go_quiet (fail)
                    have BX := Lib.hid (below_drewN HBx.out nq)
                    clear d0 d1 d2 d3 cx
                    go_wp2_with fail
                    go_roundw
                    case rel => exact ⟨j + 1, by go_num, by omega, BX⟩
                    case measure => simp [intOf]; omega
                  · obtain rfl : j = 8 := by omega
                    have BF := Lib.hid (B9.out.trans (HBx.out.mono B9.out.size))
                    have CA := Lib.hid (awake_any wr (HT.out.up BF.out))
                    clear HBx
                    go_wp2_with fail
                    refine CA.out.mono ?_
                    rintro e w12 ⟨rfl, hb⟩
                    have BG := Lib.hid (BF.out.trans (hb.mono BF.out.size))
                    clear hb
                    go_wp2_with fail
                    go_ret
                    exact ⟨rfl, BG.out⟩
        · have g : ((r : Int) != 56) = true := by
            rw [bne_iff_ne]
            intro q
            exact hz (ZS.out.1 (by omega))
          have zb : Bytes [0] := fun z hz => by simp at hz; omega
          have HK2 : Hid (k + 1 ≤ zeros n) := Lib.hid (by have := HK.out; omega)
          have HBS := HBp.out.size
          clear ZS hz
          go_wp2_with (at_builtin
                       refine wpList_append_bytes rfl (.tmp 54) (.tmp 55) rfl wp.heap.size _ N _ rfl (HO.out.alloc _) _ _ 1 1 [0] rfl (Holds.lit wr [0] _ rfl (by simp [maxLen]) zb) (by omega) (by simp; omega) ?_
                       intro v1 w9 o9 g9 hat9)
          rw [row_next] at o9
          have OX := Lib.hid o9
          have BX := Lib.hid ((HBp.out.alloc HBS _).grown g9 (by simp; omega) fun g hg => (HO.out.lt g hg).1)
          have VX : Hid (lenOf v1 = N + 1) := Lib.hid (by
            obtain ⟨A', c', e, _⟩ := o9.slice
            rw [e]; rfl)
          have HN2 : Hid (N + 1 = n + 1 + (k + 1)) := Lib.hid (by have := HN.out; omega)
          clear o9 g9 hat9 HO HBp HBS
          go_roundw
          case rel => exact ⟨k + 1, N + 1, HN2, HK2, OX, BX⟩
          case measure =>
            have := nlt.out
            rw [VX.out]
            show n + 200 - (N + 1) < n + 200 - N
            omega
end Go.Proofs.YtbcfeecdmkcngaaDoor.LawMore
