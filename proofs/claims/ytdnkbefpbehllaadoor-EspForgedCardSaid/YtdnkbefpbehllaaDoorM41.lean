/- What is sealed tells itself, and is opened as itself: plain facts. -/
import Derived.Test.YtdnkbefpbehllaaDoorM39
import Derived.Test.YtdnkbefpbehllaaDoorM40
set_option linter.unusedVariables false
namespace Go.Proofs.YtdnkbefpbehllaaDoor.EspP
open Go.RowKit Go.Proofs.YtdnkbefpbehllaaDoor.Sums Go.Proofs.YtdnkbefpbehllaaDoor.Mem Go.Proofs.YtdnkbefpbehllaaDoor.Blk Go.Proofs.YtdnkbefpbehllaaDoor.Bits3 Go.Proofs.YtdnkbefpbehllaaDoor.Ints Go.Proofs.YtdnkbefpbehllaaDoor.AesB Go.Proofs.YtdnkbefpbehllaaDoor.PadR Go.Proofs.YtdnkbefpbehllaaDoor.EspD Go.Proofs.YtdnkbefpbehllaaDoor.CutA
open Go.Proofs.YtdnkbefpbehllaaDoor.CtrD (four four_byt)
open Go.Proofs.YtdnkbefpbehllaaDoor.EspR2 Go.Proofs.YtdnkbefpbehllaaDoor.PadO
open Go.Proofs.YtdnkbefpbehllaaDoor.EspR4 (opX opY)
open Go.Proofs.YtdnkbefpbehllaaDoor.Esp7 (sealX)

theorem nats_app (a b : List Int) : nats (a ++ b) = nats a ++ nats b := by simp [nats]
theorem num4_four (n : Nat) (hn : n < 4294967296) (r : List Int) : num4 (ints (four n) ++ r) 0 = (n : Int) := by
  unfold num4 four ints
  simp only [List.map, List.cons_append, List.nil_append, List.getD_cons_zero, List.getD_cons_succ, Nat.zero_add]
  omega
theorem num4_skip (a r : List Int) (k : Nat) (h : a.length = k) : num4 (a ++ r) k = num4 r 0 := by
  have g : ∀ i, (a ++ r).getD (k + i) 0 = r.getD i 0 := fun i => by
    rw [List.getD_eq_getElem?_getD, List.getElem?_append_right (by omega), show k + i - a.length = i by omega, List.getD_eq_getElem?_getD]
  unfold num4
  rw [g, g, g]
  have := g 0
  rw [Nat.add_zero] at this
  rw [this]
section
variable (sp : Int) (ky sl mc : ByteArray) (es : Bool) (wn : Int) (q : Nat) (d : List Int) (x : Int)
theorem seal_split : ints (sealL sp ky sl mc es wn q d x) = ints (four sp.toNat) ++ (ints (four (loN q)) ++ (ints (ivL q) ++ (ints (turnL ky sl (ivL q) (nats (sealed d x))) ++ ints (tagL mc es q (frontL sp ky sl q d x))))) := by
  unfold sealL
  generalize tagL mc es q (frontL sp ky sl q d x) = T
  unfold frontL
  simp only [Ctr1.ints_app, List.append_assoc]
theorem ups_bytes {n : Nat} (h : n ≤ 255) : Bytes (ups n) := fun z hz => by
  unfold ups at hz
  obtain ⟨i, hi, rfl⟩ := List.mem_map.1 hz
  have := List.mem_range.1 hi
  omega
theorem sealed_bytes {d : List Int} {x : Int} (hd : Bytes d) (h0 : 0 ≤ x) (h1 : x ≤ 255) : Bytes (sealed d x) := by
  have c4 := cnt_lt d.length
  unfold sealed
  refine (hd.append (ups_bytes (by omega))).append fun z hz => ?_
  simp only [List.mem_cons, List.not_mem_nil, or_false] at hz
  rcases hz with rfl | rfl
  · omega
  · exact ⟨h0, h1⟩
theorem seal_len : (ints (sealL sp ky sl mc es wn q d x)).length = 32 + long d.length := by rw [Ctr1.ints_len, sealL_len]
theorem seal_end : endN (ints (sealL sp ky sl mc es wn q d x)) = 16 + long d.length := by unfold endN; rw [seal_len]; omega
theorem seal_spi (h0 : 0 ≤ sp) (h1 : sp ≤ 4294967295) : num4 (ints (sealL sp ky sl mc es wn q d x)) 0 = sp := by
  rw [seal_split, num4_four _ (by omega)]
  omega
theorem seal_low : num4 (ints (sealL sp ky sl mc es wn q d x)) 4 = (loN q : Int) := by
  rw [seal_split, num4_skip _ _ 4 rfl, num4_four _ (by unfold loN; omega)]
theorem long_mod (n : Nat) : long n % 4 = 0 := by unfold long; omega
theorem seal_form (h0 : 0 ≤ sp) (h1 : sp ≤ 4294967295) : formB sp q (ints (sealL sp ky sl mc es wn q d x)) = true := by
  unfold formB
  rw [seal_end, seal_spi _ _ _ _ _ _ _ _ _ h0 h1, seal_low]
  have := long_mod d.length
  simp
  omega
theorem seal_front : (ints (sealL sp ky sl mc es wn q d x)).take (16 + long d.length) = ints (frontL sp ky sl q d x) ∧ (ints (sealL sp ky sl mc es wn q d x)).drop (16 + long d.length) = ints (tagL mc es q (frontL sp ky sl q d x)) := by
  unfold sealL
  rw [Ctr1.ints_app]
  have hl : (ints (frontL sp ky sl q d x)).length = 16 + long d.length := by rw [Ctr1.ints_len, frontL_len]
  exact ⟨by rw [← hl, List.take_left], by rw [← hl, List.drop_left]⟩
theorem seal_icv : icvB mc es q (ints (sealL sp ky sl mc es wn q d x)) = true := by
  unfold icvB
  rw [seal_end, (seal_front sp ky sl mc es wn q d x).1, (seal_front sp ky sl mc es wn q d x).2, nats_ints]
  simp
theorem seal_plain (hd : Bytes d) (h0 : 0 ≤ x) (h1 : x ≤ 255) : plainL ky sl (ints (sealL sp ky sl mc es wn q d x)) = sealed d x := by
  unfold plainL
  rw [seal_end]
  have iv : ((ints (sealL sp ky sl mc es wn q d x)).drop 8).take 8 = ints (ivL q) := by
    have e : ints (sealL sp ky sl mc es wn q d x) = (ints (four sp.toNat) ++ ints (four (loN q))) ++ (ints (ivL q) ++ (ints (turnL ky sl (ivL q) (nats (sealed d x))) ++ ints (tagL mc es q (frontL sp ky sl q d x)))) := by rw [seal_split, List.append_assoc]
    rw [e, List.drop_left' (by rw [List.length_append, Ctr1.ints_len, Ctr1.ints_len]; rfl), List.take_left' (by rw [Ctr1.ints_len, ivL_len])]
  have bd : ((ints (sealL sp ky sl mc es wn q d x)).drop 16).take (16 + long d.length - 16) = ints (turnL ky sl (ivL q) (nats (sealed d x))) := by
    have e : ints (sealL sp ky sl mc es wn q d x) = (ints (four sp.toNat) ++ (ints (four (loN q)) ++ ints (ivL q))) ++ (ints (turnL ky sl (ivL q) (nats (sealed d x))) ++ ints (tagL mc es q (frontL sp ky sl q d x))) := by rw [seal_split]; simp only [List.append_assoc]
    rw [e, List.drop_left' (by rw [List.length_append, List.length_append, Ctr1.ints_len, Ctr1.ints_len, Ctr1.ints_len, ivL_len]; rfl), List.take_left' (by rw [Ctr1.ints_len, turnL_len, nats_length, EspD.sealed_len]; omega)]
  rw [iv, bd, nats_ints, nats_ints]
  have tw : turnL ky sl (ivL q) (turnL ky sl (ivL q) (nats (sealed d x))) = nats (sealed d x) := CtrD.trn_twice _ _ _ _
  rw [tw]
  exact ints_nats (sealed_bytes hd h0 h1)
theorem seal_open (hm : may sp ky sl mc wn = true) (hu : num es q = true) (hd : Bytes d) (h0 : 0 ≤ x) (h1 : x ≤ 255) :
    openE sp ky sl mc es wn q (ints (sealL sp ky sl mc es wn q d x)) = 0 ∧ openO ky sl (ints (sealL sp ky sl mc es wn q d x)) = d ∧ openY ky sl (ints (sealL sp ky sl mc es wn q d x)) = x := by
  obtain ⟨m1, m2, _⟩ := may_facts hm
  have pl := seal_plain sp ky sl mc es wn q d x hd h0 h1
  obtain ⟨r1, r2, r3⟩ := PadU.open_row d (cnt d.length) x
  have se : sealed d x = d ++ ups (cnt d.length) ++ [(cnt d.length : Int), x] := rfl
  rw [← se] at r1 r2 r3
  have ln : ¬ (sealed d x).length < 2 := by rw [EspD.sealed_len]; unfold long; omega
  have ok : okO (sealed d x) = true := by
    unfold PadU.opE at r1
    rw [if_neg ln] at r1
    cases z : okO (sealed d x) with
    | true => rfl
    | false => rw [z] at r1; cases r1
  refine ⟨?_, ?_, ?_⟩
  · unfold openE
    rw [hm, hu, if_neg (by decide), if_neg (by rw [seal_len]; unfold long; omega), seal_form _ _ _ _ _ _ _ _ _ (by omega) m2, if_neg (by decide), seal_icv, if_neg (by decide), pl, ok, if_neg (by decide)]
  · unfold openO
    rw [pl]
    unfold PadU.opO at r2
    rw [if_neg ln, ok, if_pos rfl] at r2
    exact r2
  · unfold openY
    rw [pl]
    unfold PadU.opY at r3
    rw [if_neg ln, ok, if_pos rfl] at r3
    exact r3
end
end Go.Proofs.YtdnkbefpbehllaaDoor.EspP

/- The code's Seal, whatever it tells. -/
set_option linter.unusedVariables false
namespace Go.Proofs.YtdnkbefpbehllaaDoor.Esp8
open Go.RowKit Go.Proofs.YtdnkbefpbehllaaDoor.Sums Go.Proofs.YtdnkbefpbehllaaDoor.Mem Go.Proofs.YtdnkbefpbehllaaDoor.Blk Go.Proofs.YtdnkbefpbehllaaDoor.Bits3 Go.Proofs.YtdnkbefpbehllaaDoor.Ints Go.Proofs.YtdnkbefpbehllaaDoor.AesB Go.Proofs.YtdnkbefpbehllaaDoor.PadR Go.Proofs.YtdnkbefpbehllaaDoor.EspD Go.Proofs.YtdnkbefpbehllaaDoor.CutA
open Go.Proofs.YtdnkbefpbehllaaDoor.CtrD (four four_byt)
open Go.Proofs.YtdnkbefpbehllaaDoor.EspR2 Go.Proofs.YtdnkbefpbehllaaDoor.Esp1 Go.Proofs.YtdnkbefpbehllaaDoor.Esp2 Go.Proofs.YtdnkbefpbehllaaDoor.Regs Go.Proofs.YtdnkbefpbehllaaDoor.Dig1 Go.Proofs.YtdnkbefpbehllaaDoor.Esp7

theorem sealE_no (sp : Int) (ky sl mc : ByteArray) (es : Bool) (wn : Int) (q n : Nat) (x : Int) (h : (may sp ky sl mc wn && num es q) = false ∨ x < 0 ∨ 255 < x) : sealE sp ky sl mc es wn q n x = 1 := if_pos h
theorem sealE_yes (sp : Int) (ky sl mc : ByteArray) (es : Bool) (wn : Int) (q n : Nat) (x : Int) (h : ¬ ((may sp ky sl mc wn && num es q) = false ∨ x < 0 ∨ 255 < x)) : sealE sp ky sl mc es wn q n x = if 65535 < 32 + long n then 2 else 0 := if_neg h
set_option maxHeartbeats 1000000 in
theorem seal_any (sp : Int) (ky sl mc : ByteArray) (es : Bool) (wn : Int) (q : Nat) (hq : q < 18446744073709551616) (A : Option Addr) (n c : Nat) (l : List Int) (x : Int) (w : World) (B : Nat) (h : Holds w B A n c l) (hB : B ≤ w.heap.size) (hn : n ≤ 70000) (hT : Tab w) :
    Calls Tryd.prog 7 #[.agg #[.int .i64 sp, .string ky, .string sl, .string mc, .bool es, .int .i64 wn], .int .u64 (q : Int), .slice A n c, .int .i64 x] w (AnsS w (sealX sp ky sl mc es wn q l x) (sealE sp ky sl mc es wn q l.length x)) := by
  by_cases bad : (may sp ky sl mc wn && num es q) = false ∨ x < 0 ∨ 255 < x
  · have E := Lib.hid (sealE_no sp ky sl mc es wn q l.length x bad)
    have CC := Lib.hid (counts_no sp ky sl mc es wn q)
    have K1 := Lib.hid (Blk.new w 23 #[.int .i64 sp, .string ky, .string sl, .string mc, .bool es, .int .i64 wn])
    have B0 := Lib.hid ((Below.refl w.heap.size w).alloc (Nat.le_refl _) (.cells #[.int .i64 sp, .string ky, .string sl, .string mc, .bool es, .int .i64 wn] 23))
    obtain ⟨m, hm⟩ : ∃ m, m = (may sp ky sl mc wn && num es q) := ⟨_, rfl⟩
    rw [← hm] at bad CC
    clear hm h hB hn hT hq
    cases m
    · clear bad
      go_enter Tryd.func7, Tryd.ntmps7
      go_wp2_with (refine Loads.wpList_load_w rfl 23 (.tmp 4) rfl w.heap.size rfl 23 #[.int .i64 sp, .string ky, .string sl, .string mc, .bool es, .int .i64 wn] (0, 0) _ (K1.out) Tryd.underlying23 rfl (by kernel_rfl) ?_)
      refine (CC.out _).mono ?_
      rintro e w2 ⟨rfl, hb⟩
      have B2 := Lib.hid (B0.out.trans (hb.mono (by simp)))
      clear hb
      go_wp2_with fail
      go_ret2
      exact anss_err sp ky sl mc es wn q l x E.out (by decide) rfl B2.out
    · rcases bad with bad | bad | bad
      · cases bad
      · have g1 : decide (x < 0) = true := decide_eq_true bad
        go_enter Tryd.func7, Tryd.ntmps7
        go_wp2_with (refine Loads.wpList_load_w rfl 23 (.tmp 4) rfl w.heap.size rfl 23 #[.int .i64 sp, .string ky, .string sl, .string mc, .bool es, .int .i64 wn] (0, 0) _ (K1.out) Tryd.underlying23 rfl (by kernel_rfl) ?_)
        refine (CC.out _).mono ?_
        rintro e w2 ⟨rfl, hb⟩
        have B2 := Lib.hid (B0.out.trans (hb.mono (by simp)))
        clear hb
        go_wp2_with fail
        go_ret2
        exact anss_err sp ky sl mc es wn q l x E.out (by decide) rfl B2.out
      · have g1 : decide (x < 0) = false := decide_eq_false (by omega)
        have g2 : decide (255 < x) = true := decide_eq_true bad
        go_enter Tryd.func7, Tryd.ntmps7
        go_wp2_with (refine Loads.wpList_load_w rfl 23 (.tmp 4) rfl w.heap.size rfl 23 #[.int .i64 sp, .string ky, .string sl, .string mc, .bool es, .int .i64 wn] (0, 0) _ (K1.out) Tryd.underlying23 rfl (by kernel_rfl) ?_)
        refine (CC.out _).mono ?_
        rintro e w2 ⟨rfl, hb⟩
        have B2 := Lib.hid (B0.out.trans (hb.mono (by simp)))
        clear hb
        go_wp2_with fail
        go_ret2
        exact anss_err sp ky sl mc es wn q l x E.out (by decide) rfl B2.out
  · have E := sealE_yes sp ky sl mc es wn q l.length x bad
    have hmu : (may sp ky sl mc wn && num es q) = true := by
      cases z : (may sp ky sl mc wn && num es q) with
      | true => rfl
      | false => exact absurd (.inl z) bad
    rw [Bool.and_eq_true] at hmu
    have hx : 0 ≤ x ∧ x ≤ 255 := ⟨by omega, by omega⟩
    by_cases big : 65535 < 32 + long n
    · have E2 : Hid (sealE sp ky sl mc es wn q l.length x = 2) := Lib.hid (by rw [E, h.1, if_pos big])
      have CC := Lib.hid (counts_no sp ky sl mc es wn q)
      rw [hmu.1, hmu.2] at CC
      have K1 := Lib.hid (Blk.new w 23 #[.int .i64 sp, .string ky, .string sl, .string mc, .bool es, .int .i64 wn])
      have B0 := Lib.hid ((Below.refl w.heap.size w).alloc (Nat.le_refl _) (.cells #[.int .i64 sp, .string ky, .string sl, .string mc, .bool es, .int .i64 wn] 23))
      have g1 : decide (x < 0) = false := decide_eq_false (by omega)
      have g2 : decide (255 < x) = false := decide_eq_false (by omega)
      have CL := Lib.hid (Esp1.length_no (n : Int) (by omega))
      have LE : lenI (n : Int) = 32 + long n := by unfold lenI lengthI; rw [if_neg (by omega), if_neg (by omega), Int.toNat_natCast]
      rw [LE] at CL
      obtain ⟨L2, hL2⟩ : ∃ L2, L2 = 32 + long n := ⟨_, rfl⟩
      rw [← hL2] at CL big
      have g3 : decide ((65535 : Int) < (L2 : Int)) = true := decide_eq_true (by omega)
      clear hL2 LE big hmu hx E bad h hB hn hT hq
      go_enter Tryd.func7, Tryd.ntmps7
      go_wp2_with (refine Loads.wpList_load_w rfl 23 (.tmp 4) rfl w.heap.size rfl 23 #[.int .i64 sp, .string ky, .string sl, .string mc, .bool es, .int .i64 wn] (0, 0) _ (K1.out) Tryd.underlying23 rfl (by kernel_rfl) ?_)
      refine (CC.out _).mono ?_
      rintro e w2 ⟨rfl, hb⟩
      have B2 := Lib.hid (B0.out.trans (hb.mono (by simp)))
      clear hb
      go_wp2_with fail
      refine (CL.out _).mono ?_
      rintro e w3 ⟨rfl, rfl⟩
      go_wp2_with fail
      go_ret2
      exact anss_err sp ky sl mc es wn q l x E2.out (by decide) rfl B2.out
    · have E2 : sealE sp ky sl mc es wn q l.length x = 0 := by rw [E, h.1, if_neg big]
      have X : sealX sp ky sl mc es wn q l x = ints (sealL sp ky sl mc es wn q l x) := by unfold sealX; rw [E2, if_pos rfl]
      have XL : (ints (sealL sp ky sl mc es wn q l x)).length = 32 + long n := by rw [Ctr1.ints_len, sealL_len, h.1]
      rw [X, E2]
      unfold AnsS
      rw [XL]
      exact seal_ok sp ky sl mc es wn q hq A n c l x w B h hB hn hmu.1 hmu.2 hx.1 hx.2 (by omega) hT
end Go.Proofs.YtdnkbefpbehllaaDoor.Esp8

/- The examples. -/
set_option linter.unusedVariables false
namespace Go.Proofs.YtdnkbefpbehllaaDoor.EspA
open Go.RowKit Go.Proofs.YtdnkbefpbehllaaDoor.Sums Go.Proofs.YtdnkbefpbehllaaDoor.Mem Go.Proofs.YtdnkbefpbehllaaDoor.Blk Go.Proofs.YtdnkbefpbehllaaDoor.Bits3 Go.Proofs.YtdnkbefpbehllaaDoor.Ints Go.Proofs.YtdnkbefpbehllaaDoor.AesB Go.Proofs.YtdnkbefpbehllaaDoor.PadR Go.Proofs.YtdnkbefpbehllaaDoor.EspD Go.Proofs.YtdnkbefpbehllaaDoor.CutA
open Go.Proofs.YtdnkbefpbehllaaDoor.CtrD (four four_byt)
open Go.Proofs.YtdnkbefpbehllaaDoor.EspR2 Go.Proofs.YtdnkbefpbehllaaDoor.Regs Go.Proofs.YtdnkbefpbehllaaDoor.Dig1 Go.Proofs.YtdnkbefpbehllaaDoor.Esp7 Go.Proofs.YtdnkbefpbehllaaDoor.Esp8 Go.Proofs.YtdnkbefpbehllaaDoor.EspP
open Go.Proofs.YtdnkbefpbehllaaDoor.PadU (cvt)
open Go.Proofs.YtdnkbefpbehllaaDoor.EspR4 (opX opY)

def kS : ByteArray := ⟨#[48, 49, 50, 51, 52, 53, 54, 55, 56, 57, 97, 98, 99, 100, 101, 102]⟩
def sS : ByteArray := ⟨#[115, 97, 108, 116]⟩
def mS : ByteArray := ⟨#[48, 49, 50, 51, 52, 53, 54, 55, 56, 57, 97, 98, 99, 100, 101, 102, 48, 49, 50, 51, 52, 53, 54, 55, 56, 57, 97, 98, 99, 100, 101, 102]⟩
theorem oneA (a b : Int) (s t u : ByteArray) (e : Bool) : (#[Value.int .i64 a, .string s, .string t, .string u, .bool e, .int .i64 b] : Array Value).all (·.oneCell') = true := by simp [Value.oneCell']
theorem one_no (w : World) : Calls Tryd.prog 23 #[] w fun e w' => e = .returned (.agg #[.int .i64 256, .string kS, .string sS, .string mS, .bool false, .int .i64 64]) ∧ Below w.heap.size w w' := by
  have J0 := Lib.hid (Blk.new w 23 #[.int .i64 0, .string ⟨#[]⟩, .string ⟨#[]⟩, .string ⟨#[]⟩, .bool false, .int .i64 0])
  have B0 := Lib.hid ((Below.refl w.heap.size w).alloc (Nat.le_refl _) (.cells #[.int .i64 0, .string ⟨#[]⟩, .string ⟨#[]⟩, .string ⟨#[]⟩, .bool false, .int .i64 0] 23))
  go_enter Tryd.func23, Tryd.ntmps23
  go_wp2_with (refine wpList_store_row rfl 23 (.tmp 0) (.tmp 1) rfl w.heap.size #[.int .i64 256, .string kS, .string sS, .string mS, .bool false, .int .i64 64] rfl rfl 23 _ J0.out (by kernel_rfl) rfl (oneA _ _ _ _ _ _) ?_)
  exact bodyPost_ret (results_cell_row rfl _ _ w.heap.size 23 #[.int .i64 256, .string kS, .string sS, .string mS, .bool false, .int .i64 64] (0, 0) _ rfl (setRow_heap _ _ _ _ _ _ J0.out) Tryd.underlying23 rfl (by kernel_rfl)) rfl ⟨rfl, Esp5.setRow_bel B0.out (Nat.le_refl _) _⟩

theorem may1 : may 256 kS sS mS 64 = true := rfl
theorem num7 : num false 7 = true := rfl
theorem num8 : num false 8 = true := rfl
def S7 : List Int := ints (sealL 256 kS sS mS false 64 7 (ints [97, 98, 99]) 4)
theorem abc_bytes : Bytes (ints [97, 98, 99]) := by
  intro z hz
  simp [ints] at hz
  omega
theorem s7_len : S7.length = 40 := seal_len 256 kS sS mS false 64 7 (ints [97, 98, 99]) 4
theorem s7_E : sealE 256 kS sS mS false 64 7 (ints [97, 98, 99]).length 4 = 0 := rfl
theorem s7_X : sealX 256 kS sS mS false 64 7 (ints [97, 98, 99]) 4 = S7 := by
  unfold sealX
  rw [s7_E, if_pos rfl]
  rfl
theorem s7_open : openE 256 kS sS mS false 64 7 S7 = 0 ∧ opX 256 kS sS mS false 64 7 S7 = ints [97, 98, 99] ∧ opY 256 kS sS mS false 64 7 S7 = 4 := by
  obtain ⟨h1, h2, h3⟩ := seal_open 256 kS sS mS false 64 7 (ints [97, 98, 99]) 4 may1 num7 abc_bytes (by decide) (by decide)
  have h1' : openE 256 kS sS mS false 64 7 S7 = 0 := h1
  refine ⟨h1', ?_, ?_⟩
  · unfold opX
    rw [h1', if_pos rfl]
    exact h2
  · unfold opY
    rw [h1', if_pos rfl]
    exact h3
theorem s7_eight : openE 256 kS sS mS false 64 8 S7 = 4 := by
  have f : formB 256 8 S7 = false := by
    unfold formB
    have l4 : num4 S7 4 = ((loN 7 : Nat) : Int) := seal_low 256 kS sS mS false 64 7 (ints [97, 98, 99]) 4
    rw [l4]
    have : ((loN 7 : Nat) : Int) ≠ ((loN 8 : Nat) : Int) := by decide
    simp [this]
  unfold openE
  rw [if_neg (by rw [may1, num8]; decide), if_neg (by rw [s7_len]; decide), if_pos f]
theorem abc_str : strOfNums (ints [97, 98, 99]) = ⟨#[97, 98, 99]⟩ := by kernel_rfl
theorem ex_peek : peekX (ints [0, 0, 1, 0, 0, 0, 0, 2]) = 256 ∧ peekY (ints [0, 0, 1, 0, 0, 0, 0, 2]) = 2 ∧ peekE (ints [0, 0, 1, 0, 0, 0, 0, 2]) = 0 := by decide

set_option maxRecDepth 100000 in
set_option maxHeartbeats 4000000 in
theorem awake_any (w : World) (hT : Tab w) : Calls Tryd.prog 8 #[] w fun e w' => e = .returned (.bool true) ∧ Below w.heap.size w w' := by
  have O1 := Lib.hid one_no
  have HT := Lib.hid hT
  clear hT
  go_enter Tryd.func8, Tryd.ntmps8
  go_wp2_with fail
  refine (O1.out w).mono ?_
  rintro e w1 ⟨rfl, hb⟩
  have B1 := Lib.hid hb
  clear hb
  have cv0 := cvt w1 #[.int .u8 97, .int .u8 98, .int .u8 99] 3
  have L0 : Hid (Holds (w1.alloc (.cells #[.int .u8 97, .int .u8 98, .int .u8 99] 5 (3, 4))) (w1.heap.size + 1) (some ⟨w1.heap.size, 0, none⟩) 3 3 (ints [97, 98, 99])) := Lib.hid (PadU.Holds.laid w1 [97, 98, 99] _ (3, 4) 3 _ rfl (by decide) rfl rfl (by decide))
  have B2 := Lib.hid (B1.out.alloc B1.out.size (.cells #[.int .u8 97, .int .u8 98, .int .u8 99] 5 (3, 4)))
  have C := Lib.hid (seal_any 256 kS sS mS false 64 7 (by decide) _ 3 3 _ 4 _ _ L0.out (by simp) (by decide) (HT.out.up B2.out))
  rw [s7_X, s7_E] at C
  clear L0
  go_wp2_with fail
  refine C.out.mono ?_
  rintro e w2 ⟨v, rfl, ly, hb⟩
  rw [s7_len] at ly
  have LY := Lib.hid ly
  have B3 := Lib.hid (B2.out.trans (hb.mono B2.out.size))
  clear ly hb C B2 cv0
  go_wp2_with fail
  refine (O1.out w2).mono ?_
  rintro e w3 ⟨rfl, hb⟩
  have B4 := Lib.hid (B3.out.trans (hb.mono B3.out.size))
  replace LY := Lib.hid (LY.out.below hb)
  clear hb B3
  obtain ⟨A1, c1, rfl, h1⟩ := LY.out
  have C2 := Lib.hid (Esp6.open_no 256 kS sS mS false 64 7 (by decide) A1 40 c1 S7 w3 w3.heap.size h1 (Nat.le_refl _) (by decide) (HT.out.up B4.out))
  rw [s7_open.1, s7_open.2.1, s7_open.2.2] at C2
  have H1 := Lib.hid h1
  clear h1 LY
  go_wp2_with fail
  refine C2.out.mono ?_
  rintro e w4 ⟨v4, rfl, ly, hb⟩
  have L4 := Lib.hid ly
  have B5 := Lib.hid (B4.out.trans (hb.mono B4.out.size))
  replace H1 := Lib.hid ((H1.out.below hb).more hb.size)
  clear ly hb C2 B4
  go_wp2_with fail
  refine (O1.out w4).mono ?_
  rintro e w5 ⟨rfl, hb⟩
  have B6 := Lib.hid (B5.out.trans (hb.mono B5.out.size))
  replace L4 := Lib.hid (L4.out.below hb)
  replace H1 := Lib.hid ((H1.out.below hb).more hb.size)
  clear hb B5
  have C3 := Lib.hid (Esp6.open_no 256 kS sS mS false 64 8 (by decide) A1 40 c1 S7 w5 w5.heap.size H1.out (Nat.le_refl _) (by decide) (HT.out.up B6.out))
  rw [s7_eight] at C3
  go_wp2_with fail
  refine C3.out.mono ?_
  rintro e w6 ⟨v6, rfl, _, hb⟩
  have B7 := Lib.hid (B6.out.trans (hb.mono B6.out.size))
  replace L4 := Lib.hid (L4.out.below hb)
  clear hb C3 B6 H1
  generalize opY 256 kS sS mS false 64 8 S7 = y8 at *
  have L8 : Hid (Holds (w6.alloc (.cells #[.int .u8 0, .int .u8 0, .int .u8 1, .int .u8 0, .int .u8 0, .int .u8 0, .int .u8 0, .int .u8 2] 5)) (w6.heap.size + 1) (some ⟨w6.heap.size, 0, none⟩) 8 8 (ints [0, 0, 1, 0, 0, 0, 0, 2])) := Lib.hid (PadU.Holds.laid w6 [0, 0, 1, 0, 0, 0, 0, 2] _ (0, 0) 8 _ rfl (by decide) rfl rfl (by decide))
  have B8 := Lib.hid ((Below.refl w6.heap.size w6).alloc (Nat.le_refl _) (.cells #[.int .u8 0, .int .u8 0, .int .u8 1, .int .u8 0, .int .u8 0, .int .u8 0, .int .u8 0, .int .u8 2] 5))
  have C4 := Lib.hid (Esp2.peek_no _ 8 8 _ _ _ L8.out)
  rw [ex_peek.1, ex_peek.2.1, ex_peek.2.2] at C4
  clear L8
  go_wp2_with fail
  refine C4.out.mono ?_
  rintro e w8 ⟨rfl, hb⟩
  have D8 := Lib.hid (B8.out.trans (hb.mono B8.out.size))
  have B9 := Lib.hid (B7.out.trans (D8.out.mono B7.out.size))
  obtain ⟨A4, c4, rfl, h4⟩ := (L4.out.below D8.out)
  rw [show (ints [97, 98, 99]).length = 3 from rfl] at h4
  have sv := run_string_bytes h4
  rw [abc_str] at sv
  have LN0 := Lib.hid (Esp1.length_no 0 (by decide))
  rw [show ((lenI 0 : Nat) : Int) = 36 from rfl] at LN0
  have LN3 := Lib.hid (Esp1.length_no 3 (by decide))
  rw [show ((lenI 3 : Nat) : Int) = 40 from rfl] at LN3
  clear hb C4 B8 D8 h4 L4 B7
  rw [show (ints [97, 98, 99]).length = 3 from rfl]
  go_wp2_with fail
  refine (LN0.out w8).mono ?_
  rintro e w' ⟨rfl, rfl⟩
  go_wp2_with fail
  refine (LN3.out w8).mono ?_
  rintro e w' ⟨rfl, rfl⟩
  go_wp2_with fail
  go_ret
  exact ⟨rfl, B9.out⟩
end Go.Proofs.YtdnkbefpbehllaaDoor.EspA

/- How long an association's texts are. -/
set_option linter.unusedVariables false
namespace Go.Proofs.YtdnkbefpbehllaaDoor.LawFew
open Go.RowKit Go.Proofs.YtdnkbefpbehllaaDoor.Sums Go.Proofs.YtdnkbefpbehllaaDoor.Mem Go.Proofs.YtdnkbefpbehllaaDoor.Blk Go.Proofs.YtdnkbefpbehllaaDoor.Bits3 Go.Proofs.YtdnkbefpbehllaaDoor.Ints Go.Proofs.YtdnkbefpbehllaaDoor.AesB Go.Proofs.YtdnkbefpbehllaaDoor.PadR Go.Proofs.YtdnkbefpbehllaaDoor.EspD Go.Proofs.YtdnkbefpbehllaaDoor.CutA Go.Proofs.YtdnkbefpbehllaaDoor.EspR2 Go.Proofs.YtdnkbefpbehllaaDoor.Regs Go.Proofs.YtdnkbefpbehllaaDoor.Free Go.Proofs.YtdnkbefpbehllaaDoor.Steps Go.Proofs.YtdnkbefpbehllaaDoor.Dig1 Go.Proofs.YtdnkbefpbehllaaDoor.Esp7 Go.Proofs.YtdnkbefpbehllaaDoor.Esp8
open Go.Proofs.YtdnkbefpbehllaaDoor.EspR4 (opX opY)
open Go.Proofs.YtdnkbefpbehllaaDoor.CtrD (four four_byt)

theorem few_any (sp : Int) (ky sl mc : ByteArray) (es : Bool) (wn : Int) (w : World) (zs : ky.size ≤ 140737488355328 ∧ sl.size ≤ 140737488355328 ∧ mc.size ≤ 140737488355328) : Calls Tryd.prog 6 #[.agg #[.int .i64 sp, .string ky, .string sl, .string mc, .bool es, .int .i64 wn]] w fun e w' => e = .returned (.bool (decide ((ky.size : Int) + (sl.size : Int) + (mc.size : Int) ≤ 300))) ∧ Below w.heap.size w w' := by
  have B0 := Lib.hid ((Below.refl w.heap.size w).alloc (Nat.le_refl _) (.cells #[.int .i64 sp, .string ky, .string sl, .string mc, .bool es, .int .i64 wn] 23))
  have K0 := Blk.new w 23 #[.int .i64 sp, .string ky, .string sl, .string mc, .bool es, .int .i64 wn]
  have k1 := K0.cell 1
  have k2 := K0.cell 2
  have k3 := K0.cell 3
  have f1 : IntKind.i64.wrap ((ky.size : Int) + (sl.size : Int)) = (ky.size : Int) + (sl.size : Int) := IntWalk.i64_in _ (by omega)
  have f2 : IntKind.i64.wrap ((ky.size : Int) + (sl.size : Int) + (mc.size : Int)) = (ky.size : Int) + (sl.size : Int) + (mc.size : Int) := IntWalk.i64_in _ (by omega)
  clear K0 zs
  go_enter Tryd.func6, Tryd.ntmps6
  go_wp2_with fail
  go_ret
  exact ⟨rfl, B0.out⟩
end Go.Proofs.YtdnkbefpbehllaaDoor.LawFew

