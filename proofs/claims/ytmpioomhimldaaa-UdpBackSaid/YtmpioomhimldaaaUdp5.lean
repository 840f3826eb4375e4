/- The contract of Bytes of the code: any datagram, any addresses. -/
import Derived.Test.YtmpioomhimldaaaUdp4
import Derived.Laws.MakeOwn
import Derived.OwnWalk
set_option linter.unusedVariables false
namespace Go.Proofs.Ytmpioomhimldaaa.Udp
open Go.RowKit Go.Sort Go.Proofs.Ytmpioomhimldaaa.Sums Go.Proofs.Ytmpioomhimldaaa.Words Go.Proofs.Ytmpioomhimldaaa.Mem Go.Proofs.Ytmpioomhimldaaa.Dat Go.Proofs.Ytmpioomhimldaaa.Blk Go.Proofs.Ytmpioomhimldaaa.Bits Go.Proofs.Ytmpioomhimldaaa.InetSum Go.Proofs.Ytmpioomhimldaaa.Steps Go.Proofs.Ytmpioomhimldaaa.Free Go.Proofs.Ytmpioomhimldaaa.Cut Go.Proofs.Ytmpioomhimldaaa.Udp

set_option maxHeartbeats 4000000 in
theorem bytes_err (a b : Int) (A : Option Addr) (n c : Nat) (s d : ByteArray) (w : World) (hn : n ≤ 1048576) (he : err a b s d n ≠ 0) :
    Calls Try.prog 9 #[.agg #[.int .i64 a, .int .i64 b, .slice A n c], .string s, .string d] w fun e w' => e = .returned (.tuple #[.slice none 0 0, .int .i64 (err a b s d n)]) ∧ Below w.heap.size w w' := by
  have B0 := Lib.hid ((Below.refl w.heap.size w).alloc (Nat.le_refl _) (.cells #[.int .i64 a, .int .i64 b, .slice A n c] 24))
  have K0 := Blk.new w 24 #[.int .i64 a, .int .i64 b, .slice A n c]
  have k0 := K0.cell 0
  have k1 := K0.cell 1
  have k2 := K0.cell 2
  clear K0
  have WA := Lib.hid (fun W => isWord_any a W)
  have WB := Lib.hid (fun W => isWord_any b W)
  have WP := Lib.hid (fun W => paired_any s d W)
  have E : Hid (err a b s d n = if (isW a && (isW b && paired s d)) = true then (if 65535 < 8 + n then 2 else 0) else 1) := Lib.hid rfl
  have N := Lib.hid he
  clear he
  generalize isW a = x at *
  generalize isW b = y at *
  generalize paired s d = z at *
  cases x with
  | false =>
    have F : Hid (err a b s d n = 1) := Lib.hid (by rw [E.out]; rfl)
    go_enter Try.func9, Try.ntmps9
    go_wp2_with fail
    refine (WA.out _).mono ?_
    rintro e w' ⟨rfl, rfl⟩
    go_wp2_with fail
    go_ret2
    exact ⟨by rw [F.out]; rfl, B0.out⟩
  | true =>
    cases y with
    | false =>
      have F : Hid (err a b s d n = 1) := Lib.hid (by rw [E.out]; rfl)
      go_enter Try.func9, Try.ntmps9
      go_wp2_with fail
      refine (WA.out _).mono ?_
      rintro e w' ⟨rfl, rfl⟩
      go_wp2_with fail
      refine (WB.out _).mono ?_
      rintro e w' ⟨rfl, rfl⟩
      go_wp2_with fail
      go_ret2
      exact ⟨by rw [F.out]; rfl, B0.out⟩
    | true =>
      cases z with
      | false =>
        have F : Hid (err a b s d n = 1) := Lib.hid (by rw [E.out]; rfl)
        go_enter Try.func9, Try.ntmps9
        go_wp2_with fail
        refine (WA.out _).mono ?_
        rintro e w' ⟨rfl, rfl⟩
        go_wp2_with fail
        refine (WB.out _).mono ?_
        rintro e w' ⟨rfl, rfl⟩
        go_wp2_with fail
        refine (WP.out _).mono ?_
        rintro e w' ⟨rfl, rfl⟩
        go_wp2_with fail
        go_ret2
        exact ⟨by rw [F.out]; rfl, B0.out⟩
      | true =>
        have q : 65535 < 8 + n := by
          by_cases q : 65535 < 8 + n
          · exact q
          · exact absurd (by rw [E.out, if_pos (show (true && (true && true)) = true from rfl), if_neg q]) N.out
        have F : Hid (err a b s d n = 2) := Lib.hid (by rw [E.out, if_pos (show (true && (true && true)) = true from rfl), if_pos q])
        have q1 : (65535 : Int) < 8 + (n : Int) := by omega
        go_enter Try.func9, Try.ntmps9
        go_wp2_with fail
        refine (WA.out _).mono ?_
        rintro e w' ⟨rfl, rfl⟩
        go_wp2_with fail
        refine (WB.out _).mono ?_
        rintro e w' ⟨rfl, rfl⟩
        go_wp2_with fail
        refine (WP.out _).mono ?_
        rintro e w' ⟨rfl, rfl⟩
        go_wp2_with fail
        go_ret2
        exact ⟨by rw [F.out]; rfl, B0.out⟩

set_option maxRecDepth 100000 in
theorem make_bytes (n : Nat) (hn : n ≤ 1048576) (w : World) :
    (Instr.makeSlice 22 (.int .i64 0) (.int .i64 (8 + (n : Int)))).run Try.prog w = .ok (.slice (some ⟨w.heap.size, 0, none⟩) 0 (8 + n)) (w.alloc (.cells (madeCells #[.int .u8 0] (8 + n)) 5)) := by
  obtain ⟨i, hi, hz, hsz, hby⟩ := info_parts byte_info
  have hr := run_make (P := Try.prog) w 22 5 i (.int .u8 0) Try.underlying22 hi hz .i64 .i64 0 (8 + (n : Int)) (by omega) (by omega) (by rw [hby]; omega) (by omega)
  rw [show (8 + (n : Int)).toNat = 8 + n by omega, hsz, Nat.mul_one] at hr
  exact hr
theorem owns_made (w : World) (n base : Nat) (hb : base ≤ w.heap.size) (hn : n ≤ 1048576) :
    Owns (w.alloc (.cells (madeCells #[.int .u8 0] n) 5)) base (.slice (some ⟨w.heap.size, 0, none⟩) 0 n) 0 [] :=
  ⟨rfl, fun _ h => (by cases h), .inr ⟨w.heap.size, n, madeCells #[.int .u8 0] n, (0, 0), rfl, hb, heap_alloc_new w _, .inl rfl, Nat.zero_le _, by simp only [maxLen]; omega, by simp [madeCells], rfl⟩⟩

theorem owns_far {w : World} {base n k : Nat} {v : Value} {l : List Int} (h : Owns w base v n l) (hk : k < base) : some k ≠ v.ownBlock := fun q => by
  have := (h.lt k q.symm).1
  omega
/-- The first eight bytes, with 0 in the place of the check. -/
def hd8 (a b N : Int) : List Int := [a / 256, a % 256, b / 256, b % 256, N / 256, N % 256, 0, 0]
theorem hd8_raw (a b N : Int) (l : List Int) : hd8 a b N ++ l = raw a b N 0 l := by simp [hd8, raw]
theorem hd8_take {a b N : Int} {k : Nat} (hk : k < 4) (a0 : 0 ≤ a) (a1 : a ≤ 65535) (b0 : 0 ≤ b) (b1 : b ≤ 65535) (n0 : 0 ≤ N) (n1 : N ≤ 65535) :
    ∃ x : Int, (#[.int .i64 a, .int .i64 b, .int .i64 N, .int .i64 0] : Array Value)[k]? = some (.int .i64 x) ∧ 0 ≤ x ∧ x ≤ 65535 ∧ (hd8 a b N).take (2 * (k + 1)) = (hd8 a b N).take (2 * k) ++ [x / 256, x % 256] := by
  rcases (show k = 0 ∨ k = 1 ∨ k = 2 ∨ k = 3 by omega) with rfl | rfl | rfl | rfl
  · exact ⟨a, rfl, a0, a1, rfl⟩
  · exact ⟨b, rfl, b0, b1, rfl⟩
  · exact ⟨N, rfl, n0, n1, rfl⟩
  · exact ⟨0, rfl, by decide, by decide, rfl⟩

set_option maxHeartbeats 4000000 in
set_option maxRecDepth 100000 in
theorem bytes_ok (a b : Int) (A : Option Addr) (n c : Nat) (l : List Int) (s d : ByteArray) (w : World) (B : Nat) (h : Holds w B A n c l) (hB : B ≤ w.heap.size) (he : err a b s d n = 0) :
    Calls Try.prog 9 #[.agg #[.int .i64 a, .int .i64 b, .slice A n c], .string s, .string d] w fun e w' => ∃ v, e = .returned (.tuple #[v, .int .i64 0]) ∧ Owns w' w.heap.size v (8 + n) (Dat.bytes a b s d l) ∧ Below w.heap.size w w' := by
  have HL := Lib.hid h.1
  obtain ⟨⟨a0, a1⟩, ⟨b0, b1⟩, hp, hn⟩ := err_zero he
  have B0 := Lib.hid ((((Below.refl w.heap.size w).alloc (Nat.le_refl _) (.cells #[.int .i64 a, .int .i64 b, .slice A n c] 24)).alloc (by simp) (.cells (madeCells #[.int .u8 0] (8 + n)) 5)).alloc (by simp; omega) (.cells #[.int .i64 a, .int .i64 b, .int .i64 (8 + (n : Int)), .int .i64 0] 3))
  have K0 := Blk.new w 24 #[.int .i64 a, .int .i64 b, .slice A n c]
  have k0 := K0.cell 0
  have k1 := K0.cell 1
  have k2 := K0.cell 2
  have U0 := Lib.hid ((K0.alloc (.cells (madeCells #[.int .u8 0] (8 + n)) 5)).alloc (.cells #[.int .i64 a, .int .i64 b, .int .i64 (8 + (n : Int)), .int .i64 0] 3))
  clear K0
  have sz1 : (w.alloc (.cells #[.int .i64 a, .int .i64 b, .slice A n c] 24)).heap.size = w.heap.size + 1 := by simp
  have sz2 : ((w.alloc (.cells #[.int .i64 a, .int .i64 b, .slice A n c] 24)).alloc (.cells (madeCells #[.int .u8 0] (8 + n)) 5)).heap.size = w.heap.size + 2 := by simp
  have O0 := owns_made (w.alloc (.cells #[.int .i64 a, .int .i64 b, .slice A n c] 24)) (8 + n) (w.heap.size + 1) (by omega) (by omega)
  rw [sz1] at O0
  have O1 := Lib.hid (O0.alloc (.cells #[.int .i64 a, .int .i64 b, .int .i64 (8 + (n : Int)), .int .i64 0] 3))
  have I0 := Blk.new ((w.alloc (.cells #[.int .i64 a, .int .i64 b, .slice A n c] 24)).alloc (.cells (madeCells #[.int .u8 0] (8 + n)) 5)) 3 #[.int .i64 a, .int .i64 b, .int .i64 (8 + (n : Int)), .int .i64 0]
  rw [sz2] at I0
  have I1 := Lib.hid I0
  clear sz1 sz2 O0 I0
  have WA := Lib.hid (fun W => isWord_any a W)
  have WB := Lib.hid (fun W => isWord_any b W)
  have WP := Lib.hid (fun W => paired_any s d W)
  rw [isW_make a0 a1] at WA
  rw [isW_make b0 b1] at WB
  rw [hp] at WP
  have HP := Lib.hid hp
  have H := Lib.hid h
  have q1 : ¬ (65535 : Int) < 8 + (n : Int) := by omega
  have hmk := make_bytes n (by omega)
  clear h hp he
  go_enter Try.func9, Try.ntmps9
  go_wp2_with fail
  refine (WA.out _).mono ?_
  rintro e w' ⟨rfl, rfl⟩
  go_wp2_with fail
  refine (WB.out _).mono ?_
  rintro e w' ⟨rfl, rfl⟩
  go_wp2_with fail
  refine (WP.out _).mono ?_
  rintro e w' ⟨rfl, rfl⟩
  go_wp2_with fail
  clear hmk k0 k1 k2 WA WB WP q1
  generalize ((w.alloc (.cells #[.int .i64 a, .int .i64 b, .slice A n c] 24)).alloc (.cells (madeCells #[.int .u8 0] (8 + n)) 5)).alloc (.cells #[.int .i64 a, .int .i64 b, .int .i64 (8 + (n : Int)), .int .i64 0] 3) = w1 at *
  go_loopw [9, 46] (fun v i wr => ∃ k : Nat, i = .int .i64 (k : Int) ∧ k ≤ 4 ∧ Hid (Owns wr (w.heap.size + 1) v (2 * k) ((hd8 a b (8 + (n : Int))).take (2 * k))) ∧ Hid (Blk wr w.heap.size 24 #[.int .i64 a, .int .i64 b, .slice A n c]) ∧ Hid (Blk wr (w.heap.size + 2) 3 #[.int .i64 a, .int .i64 b, .int .i64 (8 + (n : Int)), .int .i64 0]) ∧ Hid (Below w.heap.size w wr)) (fun _ i _ => 4 - (intOf i).toNat)
  case atStart => exact ⟨0, rfl, by omega, O1, U0, I1, B0⟩
  case round =>
    obtain ⟨k, rfl, hk, HO, HU, HI, HB⟩ := hrel
    clear O1 U0 I1 B0
    have hbs := HB.out.size
    have hul := HI.out.lt
    by_cases hlt : k < 4
    · obtain ⟨x, hx, x0, x1, ht⟩ := hd8_take (a := a) (b := b) (N := 8 + (n : Int)) hlt a0 a1 b0 b1 (by omega) (by omega)
      have T := Lib.hid ht
      have hcl := (HI.out.cell k).trans hx
      have e1 : IntKind.u8.wrap (x / 256) = x / 256 := by rw [IntKind.wrap_u8]; omega
      have e2 : IntKind.u8.wrap x = x % 256 := by rw [IntKind.wrap_u8]
      have XL := Lib.hid (Holds.lit wr [x / 256, x % 256] #[.int .u8 (x / 256), .int .u8 (x % 256)] rfl (by simp [maxLen]) (by intro z hz; simp at hz; omega))
      have hk2 : 2 * k + 2 ≤ 1048576 := by omega
      clear hx ht
      go_wp2_with (at_builtin
                   refine wpList_append_bytes rfl (.tmp 50) (.tmp 56) rfl (w.heap.size + 1) _ _ _ rfl (HO.out.alloc _) _ _ 2 2 [x / 256, x % 256] rfl XL.out hk2 (by simp; omega) ?_
                   intro v' w' ho' hg' hat)
      have HU2 := Lib.hid ((HU.out.alloc (.cells #[.int .u8 (x / 256), .int .u8 (x % 256)] 5)).grown hg' (owns_far HO.out (by omega)))
      have HI2 := Lib.hid ((HI.out.alloc (.cells #[.int .u8 (x / 256), .int .u8 (x % 256)] 5)).grown hg' (fun e => own_other HO.out HI.out (by decide) e.symm))
      have HB2 := Lib.hid ((HB.out.alloc hbs (.cells #[.int .u8 (x / 256), .int .u8 (x % 256)] 5)).grown hg' (by simp; omega) fun g hg => Nat.le_trans (Nat.le_succ _) (HO.out.lt g hg).1)
      go_roundw
      case rel => exact ⟨k + 1, by go_num, by omega, Lib.hid (by rw [T.out]; exact ho'), HU2, HI2, HB2⟩
      case measure => simp [intOf]; omega
    · obtain rfl : k = 4 := by omega
      have O4 : Hid (Owns wr (w.heap.size + 1) u9 8 (hd8 a b (8 + (n : Int)))) := HO
      have u2 := HU.out.cell 2
      have HH := Lib.hid (H.out.below (HB.out.mono hB))
      have hsm : 8 + n ≤ 1048576 := by omega
      have hb1 : w.heap.size + 1 ≤ wr.heap.size := by omega
      clear HO HI
      go_wp2_with (at_builtin
                   refine wpList_append_bytes rfl (.tmp 59) (.tmp 61) rfl (w.heap.size + 1) _ _ _ rfl O4.out B A n c l rfl HH.out hsm hb1 ?_
                   intro v2 w2 o2 g2 _
                   obtain ⟨A2, c2, rfl, h2⟩ := o2.slice)
      have RW : hd8 a b (8 + (n : Int)) ++ l = raw a b (8 + (n : Int)) 0 l := hd8_raw _ _ _ _
      rw [RW] at o2 h2
      have CK : Hid (sure (whole s d (raw a b (8 + (n : Int)) 0 l)) = chk a b s d l) := Lib.hid (by unfold chk; rw [HL.out])
      have B2 := Lib.hid (HB.out.grown g2 hbs fun g hg => Nat.le_trans (Nat.le_succ _) (O4.out.lt g hg).1)
      refine (checksum_any s d A2 (8 + n) c2 _ w2 w2.heap.size h2 (Nat.le_refl _) (by omega) HP.out).mono ?_
      rintro e w3 ⟨rfl, hb⟩
      rw [CK.out]
      have ck := chk_in a b s d l
      have EB : Hid (Dat.bytes a b s d l = raw a b (8 + (n : Int)) (chk a b s d l) l) := Lib.hid (by unfold Dat.bytes; rw [HL.out])
      have B3 := Lib.hid (B2.out.trans (hb.mono B2.out.size))
      have o3 := o2.below hb (Nat.le_refl _)
      obtain ⟨g, rfl, hg1, hg2⟩ := o3.form (by omega)
      obtain ⟨z6, c6⟩ := o3.there 6 (by omega)
      obtain ⟨z7, c7⟩ := o3.there 7 (by omega)
      have f6 := o3.free 6 (by omega)
      have f7 := o3.free 7 (by omega)
      have hnc := h2.2.1
      have hcm := h2.2.2.1
      unfold maxLen at hcm
      generalize chk a b s d l = K at *
      have e1 : IntKind.u8.wrap (K / 256) = K / 256 := by rw [IntKind.wrap_u8]; omega
      have e2 : IntKind.u8.wrap K = K % 256 := by rw [IntKind.wrap_u8]
      have o4 := Lib.hid (o3.set 6 (K / 256) (by omega) (by omega))
      have o5 := Lib.hid (o4.out.set 7 (K % 256) (by omega) (by omega))
      have B5 := Lib.hid ((B3.out.setCell (p := ⟨g, 6, none⟩) (by show w.heap.size ≤ g; omega) (.int .u8 (K / 256))).setCell (p := ⟨g, 7, none⟩) (by show w.heap.size ≤ g; omega) (.int .u8 (K % 256)))
      have i6 : 6 < 8 + n := by omega
      have i7 : 7 < 8 + n := by omega
      have i6' : (6 : Int) < 8 + (n : Int) := by omega
      have i7' : (7 : Int) < 8 + (n : Int) := by omega
      clear hb o3 CK RW o2 h2 HB HU
      go_wp2_with fail
      go_ret2
      exact ⟨_, rfl, by rw [EB.out]; exact o5.out.mono (by omega), B5.out⟩
end Go.Proofs.Ytmpioomhimldaaa.Udp
