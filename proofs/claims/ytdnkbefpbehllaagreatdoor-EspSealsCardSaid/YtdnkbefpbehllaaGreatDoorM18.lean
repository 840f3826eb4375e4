/- The contracts of the code's Encrypt; what the document's examples answer. -/
import Derived.Test.YtdnkbefpbehllaaGreatDoorM17
import Derived.Test.YtdnkbefpbehllaaGreatDoorM10
import Derived.Test.YtdnkbefpbehllaaGreatDoorM07
import Derived.Test.YtdnkbefpbehllaaGreatDoorM11
import Derived.Deep.QuietTactic
set_option linter.unusedVariables false
namespace Go.Proofs.YtdnkbefpbehllaaGreatDoor.Aes9
open Go.RowKit Go.PlainAid Go.Proofs.YtdnkbefpbehllaaGreatDoor.Sums Go.Proofs.YtdnkbefpbehllaaGreatDoor.Mem Go.Proofs.YtdnkbefpbehllaaGreatDoor.Blk Go.Proofs.YtdnkbefpbehllaaGreatDoor.Bits3 Go.Proofs.YtdnkbefpbehllaaGreatDoor.Ints Go.Proofs.YtdnkbefpbehllaaGreatDoor.CutA Go.Proofs.YtdnkbefpbehllaaGreatDoor.AesF Go.Proofs.YtdnkbefpbehllaaGreatDoor.AesB Go.Proofs.YtdnkbefpbehllaaGreatDoor.AesK Go.Proofs.YtdnkbefpbehllaaGreatDoor.AesR2 Go.Proofs.YtdnkbefpbehllaaGreatDoor.AesR3 Go.Proofs.YtdnkbefpbehllaaGreatDoor.Aes1 Go.Proofs.YtdnkbefpbehllaaGreatDoor.Aes2 Go.Proofs.YtdnkbefpbehllaaGreatDoor.Aes3 Go.Proofs.YtdnkbefpbehllaaGreatDoor.Aes4 Go.Proofs.YtdnkbefpbehllaaGreatDoor.Aes5 Go.Proofs.YtdnkbefpbehllaaGreatDoor.Aes6 Go.Proofs.YtdnkbefpbehllaaGreatDoor.Aes7 Go.Proofs.YtdnkbefpbehllaaGreatDoor.Aes8

theorem ARow.holds {w : World} {g : Nat} {t : TypeId} {l : List Nat} (h : ARow w g t l) (hl : Byt l) (hm : l.length ≤ 1048576) : Holds w w.heap.size (some ⟨g, 0, none⟩) l.length l.length (ints l) := by
  refine ⟨by simp [ints], Nat.le_refl _, by simp only [maxLen]; omega, fun z hz => ints_in hl z hz, fun _ => ⟨g, 0, rfl, h.lt, fun j z hz => ?_⟩⟩
  have hj : j < l.length := by
    rcases Nat.lt_or_ge j l.length with h' | h'
    · exact h'
    · rw [List.getElem?_eq_none (by simpa [ints] using h')] at hz; cases hz
  rw [Nat.zero_add, h.cell j hj, ← ints_getD, List.getD_eq_getElem?_getD, hz]
  rfl
theorem BRow.holds {w : World} {g : Nat} {l : List Nat} (h : BRow w g l) (hl : Byt l) (hm : l.length ≤ 1048576) : Holds w w.heap.size (some ⟨g, 0, none⟩) l.length l.length (ints l) := ARow.holds (t := 5) h hl hm
theorem keys_lens {k : List Nat} (h : k.length = 16 ∨ k.length = 32) : (keys k).length = 176 ∨ (keys k).length = 240 := by
  rw [keys_len h]
  split <;> simp
/-- Keys of a key that may be. -/
theorem keys_ok (A : Option Addr) (n c : Nat) (ks : List Int) (w : World) (B : Nat) (h : Holds w B A n c ks) (hB : B ≤ w.heap.size) (hn : n = 16 ∨ n = 32) :
    Calls Tryz.prog 62 #[.slice A n c] w fun e w' => ∃ g L, e = .returned (.tuple #[.slice (some ⟨g, 0, none⟩) L L, .int .i64 0]) ∧ (keys (nats ks)).length = L ∧ (L = 176 ∨ L = 240) ∧ w.heap.size ≤ g ∧ BRow w' g (keys (nats ks)) ∧ Below w.heap.size w w' := by
  have hl : (nats ks).length = n := (nats_len ks).trans h.1
  rcases hn with rfl | rfl
  · refine (keys_16 A c ks w B h hB).mono ?_
    rintro e w' ⟨g, he, hg, hr, hb⟩
    exact ⟨g, 176, he, by rw [keys_len (.inl hl), if_pos hl], .inl rfl, hg, hr, hb⟩
  · refine (keys_32 A c ks w B h hB).mono ?_
    rintro e w' ⟨g, he, hg, hr, hb⟩
    exact ⟨g, 240, he, by rw [keys_len (.inr hl), if_neg (by omega)], .inr rfl, hg, hr, hb⟩
/-- May a key, and a block, be encrypted? -/
def mayE (n m : Nat) : Bool := (decide (n = 16) || decide (n = 32)) && decide (m = 16)

end Go.Proofs.YtdnkbefpbehllaaGreatDoor.Aes9

/- The contracts of Counter: the code's, the document's; four bytes of a number. -/
set_option linter.unusedVariables false
namespace Go.Proofs.YtdnkbefpbehllaaGreatDoor.Ctr1
open Go.RowKit Go.PlainAid Go.Proofs.YtdnkbefpbehllaaGreatDoor.Sums Go.Proofs.YtdnkbefpbehllaaGreatDoor.Mem Go.Proofs.YtdnkbefpbehllaaGreatDoor.Blk Go.Proofs.YtdnkbefpbehllaaGreatDoor.Bits3 Go.Proofs.YtdnkbefpbehllaaGreatDoor.Ints Go.Proofs.YtdnkbefpbehllaaGreatDoor.CtrD Go.Proofs.YtdnkbefpbehllaaGreatDoor.AesB Go.Proofs.YtdnkbefpbehllaaGreatDoor.AesK Go.Proofs.YtdnkbefpbehllaaGreatDoor.AesR3

theorem ints_app (a b : List Nat) : ints (a ++ b) = ints a ++ ints b := by simp [ints]
theorem ints_len (a : List Nat) : (ints a).length = a.length := by simp [ints]

/-- Counter refuses. -/
def cbad (sn vn : Nat) (n : Int) : Bool := !(decide (sn = 4) && decide (vn = 8) && decide (1 ≤ n) && decide (n ≤ 4294967295))
theorem cbad_cases {sn vn : Nat} {n : Int} (h : cbad sn vn n = true) : sn ≠ 4 ∨ (sn = 4 ∧ vn ≠ 8) ∨ (sn = 4 ∧ vn = 8 ∧ n < 1) ∨ (sn = 4 ∧ vn = 8 ∧ ¬ n < 1 ∧ 4294967295 < n) := by
  simp only [cbad, Bool.not_eq_true', Bool.and_eq_false_iff, decide_eq_false_iff_not] at h
  omega
theorem cbad_false {sn vn : Nat} {n : Int} (h : cbad sn vn n = false) : sn = 4 ∧ vn = 8 ∧ 1 ≤ n ∧ n ≤ 4294967295 := by
  simp only [cbad, Bool.not_eq_false', Bool.and_eq_true, decide_eq_true_eq] at h
  omega

set_option maxHeartbeats 1000000 in
theorem counter_bad (As Av : Option Addr) (sn cs vn cv : Nat) (n : Int) (w : World) (h : cbad sn vn n = true) :
    Calls Tryz.prog 77 #[.slice As sn cs, .slice Av vn cv, .int .i64 n] w fun e w' => e = .returned (.tuple #[.slice none 0 0, .int .i64 1]) ∧ w = w' := by
  rcases cbad_cases h with h1 | ⟨rfl, h1⟩ | ⟨rfl, rfl, h1⟩ | ⟨rfl, rfl, h1, h2⟩
  · have g1 : ((sn : Int) != 4) = true := by simp; omega
    clear h h1
    go_enter Tryz.func77, Tryz.ntmps77
    go_wp2_with fail
    go_ret2
    exact ⟨rfl, rfl⟩
  · have g1 : ((vn : Int) != 8) = true := by simp; omega
    clear h h1
    go_enter Tryz.func77, Tryz.ntmps77
    go_wp2_with fail
    go_ret2
    exact ⟨rfl, rfl⟩
  · have g1 : decide (n < 1) = true := decide_eq_true h1
    clear h h1
    go_enter Tryz.func77, Tryz.ntmps77
    go_wp2_with fail
    go_ret2
    exact ⟨rfl, rfl⟩
  · have g1 : decide (n < 1) = false := decide_eq_false h1
    have g2 : decide (4294967295 < n) = true := decide_eq_true h2
    clear h h1 h2
    go_enter Tryz.func77, Tryz.ntmps77
    go_wp2_with fail
    go_ret2
    exact ⟨rfl, rfl⟩

set_option maxHeartbeats 1000000 in
theorem counter_ref_bad (As Av : Option Addr) (sn cs vn cv : Nat) (n : Int) (w : World) (h : cbad sn vn n = true) :
    Calls Tryz.prog 57 #[.slice As sn cs, .slice Av vn cv, .int .i64 n] w fun e w' => e = .returned (.tuple #[.slice none 0 0, .int .i64 1]) ∧ w = w' := by
  rcases cbad_cases h with h1 | ⟨rfl, h1⟩ | ⟨rfl, rfl, h1⟩ | ⟨rfl, rfl, h1, h2⟩
  · have g1 : ((sn : Int) != 4) = true := by simp; omega
    clear h h1
    go_enter Tryz.func57, Tryz.ntmps57
    go_wp2_with fail
    go_ret2
    exact ⟨rfl, rfl⟩
  · have g1 : ((vn : Int) != 8) = true := by simp; omega
    clear h h1
    go_enter Tryz.func57, Tryz.ntmps57
    go_wp2_with fail
    go_ret2
    exact ⟨rfl, rfl⟩
  · have g1 : decide (n < 1) = true := decide_eq_true h1
    clear h h1
    go_enter Tryz.func57, Tryz.ntmps57
    go_wp2_with fail
    go_ret2
    exact ⟨rfl, rfl⟩
  · have g1 : decide (n < 1) = false := decide_eq_false h1
    have g2 : decide (4294967295 < n) = true := decide_eq_true h2
    clear h h1 h2
    go_enter Tryz.func57, Tryz.ntmps57
    go_wp2_with fail
    go_ret2
    exact ⟨rfl, rfl⟩

theorem four_ref (n : Nat) (hn : n < 4294967296) (w : World) :
    Calls Tryz.prog 30 #[.int .i64 (n : Int)] w fun e w' => ∃ A, e = .returned (.slice A 4 4) ∧ Holds w' w'.heap.size A 4 4 (ints (four n)) ∧ Below w.heap.size w w' := by
  obtain ⟨z, hz⟩ : ∃ z : Int, z = (n : Int) := ⟨_, rfl⟩
  have z0 : 0 ≤ z := by omega
  have z1 : z ≤ 4294967295 := by omega
  have F : Hid ([z / 16777216, z / 65536 % 256, z / 256 % 256, z % 256] = ints (four n)) := Lib.hid (by subst hz; simp [ints, four]; omega)
  rw [← hz]
  clear hz
  have e1 : z.tdiv 16777216 = z / 16777216 := Int.tdiv_eq_ediv_of_nonneg z0
  have e2 : z.tdiv 65536 = z / 65536 := Int.tdiv_eq_ediv_of_nonneg z0
  have e3 : z.tdiv 256 = z / 256 := Int.tdiv_eq_ediv_of_nonneg z0
  have e4 : z.tmod 256 = z % 256 := Int.tmod_eq_emod_of_nonneg z0
  have e5 : (z / 65536).tmod 256 = z / 65536 % 256 := Int.tmod_eq_emod_of_nonneg (by omega)
  have e6 : (z / 256).tmod 256 = z / 256 % 256 := Int.tmod_eq_emod_of_nonneg (by omega)
  have f1 : IntKind.u8.wrap (z / 16777216) = z / 16777216 := by rw [IntKind.wrap_u8]; omega
  have f2 : IntKind.u8.wrap (z / 65536 % 256) = z / 65536 % 256 := by rw [IntKind.wrap_u8]; omega
  have f3 : IntKind.u8.wrap (z / 256 % 256) = z / 256 % 256 := by rw [IntKind.wrap_u8]; omega
  have f4 : IntKind.u8.wrap (z % 256) = z % 256 := by rw [IntKind.wrap_u8]; omega
  have HL := Lib.hid (Holds.lit w [z / 16777216, z / 65536 % 256, z / 256 % 256, z % 256] #[.int .u8 (z / 16777216), .int .u8 (z / 65536 % 256), .int .u8 (z / 256 % 256), .int .u8 (z % 256)] rfl (by simp [maxLen]) (fun y hy => by simp at hy; omega))
  go_enter Tryz.func30, Tryz.ntmps30
  go_wp2_with fail
  go_ret
  exact ⟨_, rfl, by rw [← F.out]; simpa using HL.out, (Below.refl _ _).alloc (Nat.le_refl _) _⟩

set_option maxHeartbeats 1000000 in
theorem counter_ref (As Av : Option Addr) (cs cv : Nat) (sa iv : List Int) (n : Nat) (w : World) (B : Nat) (hs : Holds w B As 4 cs sa) (hv : Holds w B Av 8 cv iv) (hB : B ≤ w.heap.size) (h1 : 1 ≤ n) (h2 : n ≤ 4294967295) :
    Calls Tryz.prog 57 #[.slice As 4 cs, .slice Av 8 cv, .int .i64 (n : Int)] w fun e w' => ∃ A c, e = .returned (.tuple #[.slice A 16 c, .int .i64 0]) ∧ Holds w' w'.heap.size A 16 c (ints (cnt (nats sa) (nats iv) n)) ∧ Below w.heap.size w w' := by
  have g1 : decide ((n : Int) < 1) = false := decide_eq_false (by omega)
  have g2 : decide ((4294967295 : Int) < (n : Int)) = false := decide_eq_false (by omega)
  have C := Lib.hid (four_ref n (by omega) w)
  have E : Hid (ints (cnt (nats sa) (nats iv) n) = sa ++ (iv ++ (ints (four n) ++ []))) := Lib.hid (by
    rw [cnt, ints_app, ints_app, ints_nats (fun z hz => hs.2.2.2.1 z hz), ints_nats (fun z hz => hv.2.2.2.1 z hz)]; simp)
  have HS := Lib.hid hs
  have HV := Lib.hid hv
  clear hs hv
  go_enter Tryz.func57, Tryz.ntmps57
  go_wp2_with fail
  refine C.out.mono ?_
  rintro e w1 ⟨A4, rfl, h4, hb⟩
  have H4 := Lib.hid h4
  have B1 := Lib.hid hb
  clear h4 hb
  go_wp2_with fail
  refine (Both.both_lit (B := w1.heap.size) (Nat.le_refl _) [⟨As, 4, cs, sa⟩, ⟨Av, 8, cv, iv⟩, ⟨A4, 4, 4, ints (four n)⟩] _ _ rfl (Both.mem3 ((HS.out.below (B1.out.mono hB)).more (by have := B1.out.size; omega)) ((HV.out.below (B1.out.mono hB)).more (by have := B1.out.size; omega)) H4.out) _ 3 rfl rfl (by decide) (by show 4 + (8 + (4 + 0)) ≤ 1048576; omega)).mono ?_
  rintro e w2 ⟨A, c, rfl, hh, _, hb⟩
  have HH : Hid (Holds w2 w2.heap.size A 16 c (sa ++ (iv ++ (ints (four n) ++ [])))) := Lib.hid hh
  have HB := Lib.hid (B1.out.trans (hb.mono B1.out.size))
  clear hh hb
  go_wp2_with fail
  go_ret2
  exact ⟨A, c, rfl, by rw [E.out]; exact HH.out, HB.out⟩
end Go.Proofs.YtdnkbefpbehllaaGreatDoor.Ctr1

/- The document's May, number, halves, Length, four, Peek. -/
set_option linter.unusedVariables false
namespace Go.Proofs.YtdnkbefpbehllaaGreatDoor.EspR1
open Go.RowKit Go.Proofs.YtdnkbefpbehllaaGreatDoor.Sums Go.Proofs.YtdnkbefpbehllaaGreatDoor.Mem Go.Proofs.YtdnkbefpbehllaaGreatDoor.Blk Go.Proofs.YtdnkbefpbehllaaGreatDoor.Bits3 Go.Proofs.YtdnkbefpbehllaaGreatDoor.Ints Go.Proofs.YtdnkbefpbehllaaGreatDoor.AesB Go.Proofs.YtdnkbefpbehllaaGreatDoor.PadR Go.Proofs.YtdnkbefpbehllaaGreatDoor.EspD Go.Proofs.YtdnkbefpbehllaaGreatDoor.CutA
open Go.Proofs.YtdnkbefpbehllaaGreatDoor.CtrD (four four_byt)

set_option maxHeartbeats 1000000 in
theorem may_ref (sp : Int) (ky sl mc : ByteArray) (es : Bool) (wn : Int) (w : World) : Calls Tryz.prog 12 #[.agg #[.int .i64 sp, .string ky, .string sl, .string mc, .bool es, .int .i64 wn]] w fun e w' => e = .returned (.bool (may sp ky sl mc wn)) ∧ Below w.heap.size w w' := by
  obtain ⟨r, hr⟩ : ∃ r, r = may sp ky sl mc wn := ⟨_, rfl⟩
  rw [← hr]
  unfold may at hr
  have B0 := Lib.hid ((Below.refl w.heap.size w).alloc (Nat.le_refl _) (.cells #[.int .i64 sp, .string ky, .string sl, .string mc, .bool es, .int .i64 wn] 23))
  have K0 := Blk.new w 23 #[.int .i64 sp, .string ky, .string sl, .string mc, .bool es, .int .i64 wn]
  have k0 := K0.cell 0
  have k1 := K0.cell 1
  have k2 := K0.cell 2
  have k3 := K0.cell 3
  have k4 := K0.cell 4
  have k5 := K0.cell 5
  clear K0
  by_cases a1 : 256 ≤ sp
  · have ga1 : decide (256 ≤ sp) = true := decide_eq_true a1
    by_cases a2 : sp ≤ 4294967295
    · have ga2 : decide (sp ≤ 4294967295) = true := decide_eq_true a2
      by_cases q1 : ky.size = 16
      · have g3 : ((ky.size : Int) == 16) = true := by rw [beq_iff_eq]; omega
        by_cases a4 : sl.size = 4
        · have ga4 : ((sl.size : Int) == 4) = true := by rw [beq_iff_eq]; omega
          by_cases a5 : mc.size = 32
          · have ga5 : ((mc.size : Int) == 32) = true := by rw [beq_iff_eq]; omega
            by_cases a6 : 64 ≤ wn
            · have ga6 : decide (64 ≤ wn) = true := decide_eq_true a6
              by_cases a7 : wn ≤ 1024
              · have ga7 : decide (wn ≤ 1024) = true := decide_eq_true a7
                have E : Hid (r = true) := Lib.hid (by rw [hr]; simp [a1, a2, q1, a4, a5, a6, a7])
                clear hr
                go_enter Tryz.func12, Tryz.ntmps12
                go_wp2_with fail
                go_ret
                exact ⟨by rw [E.out]; rfl, B0.out⟩
              · have ga7 : decide (wn ≤ 1024) = false := decide_eq_false a7
                have E : Hid (r = false) := Lib.hid (by rw [hr]; simp [a1, a2, q1, a4, a5, a6, a7])
                clear hr
                go_enter Tryz.func12, Tryz.ntmps12
                go_wp2_with fail
                go_ret
                exact ⟨by rw [E.out]; rfl, B0.out⟩
            · have ga6 : decide (64 ≤ wn) = false := decide_eq_false a6
              have E : Hid (r = false) := Lib.hid (by rw [hr]; simp [a1, a2, q1, a4, a5, a6])
              clear hr
              go_enter Tryz.func12, Tryz.ntmps12
              go_wp2_with fail
              go_ret
              exact ⟨by rw [E.out]; rfl, B0.out⟩
          · have ga5 : ((mc.size : Int) == 32) = false := by rw [beq_eq_false_iff_ne]; omega
            have E : Hid (r = false) := Lib.hid (by rw [hr]; simp [a1, a2, q1, a4, a5])
            clear hr
            go_enter Tryz.func12, Tryz.ntmps12
            go_wp2_with fail
            go_ret
            exact ⟨by rw [E.out]; rfl, B0.out⟩
        · have ga4 : ((sl.size : Int) == 4) = false := by rw [beq_eq_false_iff_ne]; omega
          have E : Hid (r = false) := Lib.hid (by rw [hr]; simp [a1, a2, q1, a4])
          clear hr
          go_enter Tryz.func12, Tryz.ntmps12
          go_wp2_with fail
          go_ret
          exact ⟨by rw [E.out]; rfl, B0.out⟩
      · have g3 : ((ky.size : Int) == 16) = false := by rw [beq_eq_false_iff_ne]; omega
        by_cases q2 : ky.size = 32
        · have g3b : ((ky.size : Int) == 32) = true := by rw [beq_iff_eq]; omega
          by_cases a4 : sl.size = 4
          · have ga4 : ((sl.size : Int) == 4) = true := by rw [beq_iff_eq]; omega
            by_cases a5 : mc.size = 32
            · have ga5 : ((mc.size : Int) == 32) = true := by rw [beq_iff_eq]; omega
              by_cases a6 : 64 ≤ wn
              · have ga6 : decide (64 ≤ wn) = true := decide_eq_true a6
                by_cases a7 : wn ≤ 1024
                · have ga7 : decide (wn ≤ 1024) = true := decide_eq_true a7
                  have E : Hid (r = true) := Lib.hid (by rw [hr]; simp [a1, a2, q2, a4, a5, a6, a7])
                  clear hr
                  go_enter Tryz.func12, Tryz.ntmps12
                  go_wp2_with fail
                  go_ret
                  exact ⟨by rw [E.out]; rfl, B0.out⟩
                · have ga7 : decide (wn ≤ 1024) = false := decide_eq_false a7
                  have E : Hid (r = false) := Lib.hid (by rw [hr]; simp [a1, a2, q2, a4, a5, a6, a7])
                  clear hr
                  go_enter Tryz.func12, Tryz.ntmps12
                  go_wp2_with fail
                  go_ret
                  exact ⟨by rw [E.out]; rfl, B0.out⟩
              · have ga6 : decide (64 ≤ wn) = false := decide_eq_false a6
                have E : Hid (r = false) := Lib.hid (by rw [hr]; simp [a1, a2, q2, a4, a5, a6])
                clear hr
                go_enter Tryz.func12, Tryz.ntmps12
                go_wp2_with fail
                go_ret
                exact ⟨by rw [E.out]; rfl, B0.out⟩
            · have ga5 : ((mc.size : Int) == 32) = false := by rw [beq_eq_false_iff_ne]; omega
              have E : Hid (r = false) := Lib.hid (by rw [hr]; simp [a1, a2, q2, a4, a5])
              clear hr
              go_enter Tryz.func12, Tryz.ntmps12
              go_wp2_with fail
              go_ret
              exact ⟨by rw [E.out]; rfl, B0.out⟩
          · have ga4 : ((sl.size : Int) == 4) = false := by rw [beq_eq_false_iff_ne]; omega
            have E : Hid (r = false) := Lib.hid (by rw [hr]; simp [a1, a2, q2, a4])
            clear hr
            go_enter Tryz.func12, Tryz.ntmps12
            go_wp2_with fail
            go_ret
            exact ⟨by rw [E.out]; rfl, B0.out⟩
        · have g3b : ((ky.size : Int) == 32) = false := by rw [beq_eq_false_iff_ne]; omega
          have E : Hid (r = false) := Lib.hid (by rw [hr]; simp [a1, a2, q1, q2])
          clear hr
          go_enter Tryz.func12, Tryz.ntmps12
          go_wp2_with fail
          go_ret
          exact ⟨by rw [E.out]; rfl, B0.out⟩
    · have ga2 : decide (sp ≤ 4294967295) = false := decide_eq_false a2
      have E : Hid (r = false) := Lib.hid (by rw [hr]; simp [a1, a2])
      clear hr
      go_enter Tryz.func12, Tryz.ntmps12
      go_wp2_with fail
      go_ret
      exact ⟨by rw [E.out]; rfl, B0.out⟩
  · have ga1 : decide (256 ≤ sp) = false := decide_eq_false a1
    have E : Hid (r = false) := Lib.hid (by rw [hr]; simp [a1])
    clear hr
    go_enter Tryz.func12, Tryz.ntmps12
    go_wp2_with fail
    go_ret
    exact ⟨by rw [E.out]; rfl, B0.out⟩

theorem number_ref (sp : Int) (ky sl mc : ByteArray) (es : Bool) (wn : Int) (q : Nat) (w : World) : Calls Tryz.prog 26 #[.agg #[.int .i64 sp, .string ky, .string sl, .string mc, .bool es, .int .i64 wn], .int .u64 (q : Int)] w fun e w' => e = .returned (.bool (num es q)) ∧ Below w.heap.size w w' := by
  obtain ⟨r, hr⟩ : ∃ r, r = num es q := ⟨_, rfl⟩
  rw [← hr]
  unfold num at hr
  have B0 := Lib.hid ((Below.refl w.heap.size w).alloc (Nat.le_refl _) (.cells #[.int .i64 sp, .string ky, .string sl, .string mc, .bool es, .int .i64 wn] 23))
  have K0 := Blk.new w 23 #[.int .i64 sp, .string ky, .string sl, .string mc, .bool es, .int .i64 wn]
  have k0 := K0.cell 0
  have k1 := K0.cell 1
  have k2 := K0.cell 2
  have k3 := K0.cell 3
  have k4 := K0.cell 4
  have k5 := K0.cell 5
  clear K0
  by_cases a1 : 1 ≤ q
  · have g1 : decide ((1 : Int) ≤ (q : Int)) = true := decide_eq_true (by omega)
    cases es
    · by_cases a2 : q ≤ 4294967295
      · have g2 : decide ((q : Int) ≤ 4294967295) = true := decide_eq_true (by omega)
        have E : Hid (r = true) := Lib.hid (by rw [hr]; simp [a1, a2])
        clear hr
        go_enter Tryz.func26, Tryz.ntmps26
        go_wp2_with fail
        go_ret
        exact ⟨by rw [E.out]; rfl, B0.out⟩
      · have g2 : decide ((q : Int) ≤ 4294967295) = false := decide_eq_false (by omega)
        have E : Hid (r = false) := Lib.hid (by rw [hr]; simp [a1, a2])
        clear hr
        go_enter Tryz.func26, Tryz.ntmps26
        go_wp2_with fail
        go_ret
        exact ⟨by rw [E.out]; rfl, B0.out⟩
    · skip
      have E : Hid (r = true) := Lib.hid (by rw [hr]; simp [a1])
      clear hr
      go_enter Tryz.func26, Tryz.ntmps26
      go_wp2_with fail
      go_ret
      exact ⟨by rw [E.out]; rfl, B0.out⟩
  · have g1 : decide ((1 : Int) ≤ (q : Int)) = false := decide_eq_false (by omega)
    have E : Hid (r = false) := Lib.hid (by rw [hr]; simp [a1])
    clear hr
    go_enter Tryz.func26, Tryz.ntmps26
    go_wp2_with fail
    go_ret
    exact ⟨by rw [E.out]; rfl, B0.out⟩

set_option maxHeartbeats 1000000 in
theorem halves_ref (q : Nat) (hq : q < 18446744073709551616) (w : World) : Calls Tryz.prog 27 #[.int .u64 (q : Int)] w fun e w' => ∃ A A2, e = .returned (.tuple #[.slice A 4 4, .slice A2 4 4]) ∧ Holds w' w'.heap.size A 4 4 (ints (four (hiN q))) ∧ Holds w' w'.heap.size A2 4 4 (ints (four (loN q))) ∧ Below w.heap.size w w' := by
  have C1 := Lib.hid (Ctr1.four_ref (hiN q) (by unfold hiN; omega))
  have C2 := Lib.hid (Ctr1.four_ref (loN q) (by unfold loN; omega))
  obtain ⟨h, hh⟩ : ∃ h, h = hiN q := ⟨_, rfl⟩
  obtain ⟨l, hl⟩ : ∃ l, l = loN q := ⟨_, rfl⟩
  rw [← hh] at C1
  rw [← hl] at C2
  rw [← hh, ← hl]
  have hb : h ≤ 4294967295 := by rw [hh]; unfold hiN; omega
  have lb : l ≤ 4294967295 := by rw [hl]; unfold loN; omega
  have f1 : ((q : Int)).tdiv 4294967296 = (h : Int) := by rw [Int.tdiv_eq_ediv_of_nonneg (by omega), hh]; rfl
  have f2 : ((q : Int)).tmod 4294967296 = (l : Int) := by rw [Int.tmod_eq_emod_of_nonneg (by omega), hl]; rfl
  have u1 : IntKind.u64.wrap (h : Int) = (h : Int) := IntWalk.u64_in _ (by omega)
  have u2 : IntKind.u64.wrap (l : Int) = (l : Int) := IntWalk.u64_in _ (by omega)
  have i1 : IntKind.i64.wrap (h : Int) = (h : Int) := IntWalk.i64_in _ (by omega)
  have i2 : IntKind.i64.wrap (l : Int) = (l : Int) := IntWalk.i64_in _ (by omega)
  clear hh hl hq
  go_enter Tryz.func27, Tryz.ntmps27
  go_wp2_with fail
  refine (C1.out _).mono ?_
  rintro e w1 ⟨A, rfl, h1, hb⟩
  have H1 := Lib.hid h1
  have B1 := Lib.hid hb
  clear h1 hb
  go_wp2_with fail
  refine (C2.out _).mono ?_
  rintro e w2 ⟨A2, rfl, h2, hb⟩
  have H2 := Lib.hid h2
  have H3 := Lib.hid ((H1.out.below hb).more hb.size)
  have B2 := Lib.hid (B1.out.trans (hb.mono B1.out.size))
  clear h2 hb
  go_wp2_with fail
  go_ret2
  exact ⟨_, _, rfl, H3.out, H2.out, B2.out⟩

theorem length_ref (n : Int) (hn : n ≤ 1000000) (w : World) : Calls Tryz.prog 6 #[.int .i64 n] w fun e w' => e = .returned (.int .i64 ((lenI n : Nat) : Int)) ∧ w = w' := by
  by_cases h : n < 0
  · have E : Hid (lenI n = 0) := Lib.hid (if_pos h)
    have g : decide (n < 0) = true := decide_eq_true h
    go_enter Tryz.func6, Tryz.ntmps6
    go_wp2_with fail
    go_ret
    exact ⟨by rw [E.out]; rfl, rfl⟩
  · have E : Hid (lenI n = 32 + lengthI n) := Lib.hid (if_neg h)
    have g : decide (n < 0) = false := decide_eq_false h
    have C := Lib.hid (PadR.length_ref n hn w)
    have lb : lengthI n ≤ 1000005 := by
      unfold lengthI long
      split <;> omega
    generalize lengthI n = k at *
    obtain ⟨s, hs⟩ : ∃ s, s = 32 + k := ⟨_, rfl⟩
    rw [← hs] at E
    have f1 : IntKind.i64.wrap (32 + (k : Int)) = (s : Int) := by rw [IntWalk.i64_in _ (by omega)]; omega
    clear hs h
    go_enter Tryz.func6, Tryz.ntmps6
    go_wp2_with fail
    refine C.out.mono ?_
    rintro e w' ⟨rfl, rfl⟩
    go_wp2_with fail
    go_ret
    exact ⟨by rw [E.out]; rfl, rfl⟩
end Go.Proofs.YtdnkbefpbehllaaGreatDoor.EspR1

