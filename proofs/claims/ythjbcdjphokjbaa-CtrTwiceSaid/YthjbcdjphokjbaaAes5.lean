/- The contract of the code: each column of a block mixed. -/
import Derived.Test.YthjbcdjphokjbaaAes4
import Derived.Lib.QuietBelow
import Derived.BigQuiet
import Derived.Deep.QuietTactic
set_option linter.unusedVariables false
namespace Go.Proofs.Ythjbcdjphokjbaa.Aes5
open Go.RowKit Go.PlainAid Go.Proofs.Ythjbcdjphokjbaa.Sums Go.Proofs.Ythjbcdjphokjbaa.Mem Go.Proofs.Ythjbcdjphokjbaa.Blk Go.Proofs.Ythjbcdjphokjbaa.Bits3 Go.Proofs.Ythjbcdjphokjbaa.Ints Go.Proofs.Ythjbcdjphokjbaa.AesF Go.Proofs.Ythjbcdjphokjbaa.AesB Go.Proofs.Ythjbcdjphokjbaa.AesR2 Go.Proofs.Ythjbcdjphokjbaa.AesR3 Go.Proofs.Ythjbcdjphokjbaa.Aes1 Go.Proofs.Ythjbcdjphokjbaa.Aes2 Go.Proofs.Ythjbcdjphokjbaa.Aes3 Go.Proofs.Ythjbcdjphokjbaa.Aes4

theorem T_two {x : Nat} (h : x < 256) : T x 2 = dbl x := by
  have : ∀ x : Fin 256, T x.val 2 = dbl x.val := by decide +kernel
  exact this ⟨x, h⟩
theorem T_three {x : Nat} (h : x < 256) : T x 3 = dbl x ^^^ x := by
  have : ∀ x : Fin 256, T x.val 3 = dbl x.val ^^^ x.val := by decide +kernel
  exact this ⟨x, h⟩
theorem mix_dbl {a b c d : Nat} (ha : a < 256) (hb : b < 256) : dbl (a ^^^ b) ^^^ b ^^^ c ^^^ d = mix4 a b c d := by
  unfold mix4
  rw [dbl_xor ha hb, T_two ha, T_three hb, Nat.xor_assoc (dbl a) (dbl b) b]

theorem k_at (c r t s : Nat) (hc : c < 16) (hs : s = c + (r + t) % 4) : IntKind.i64.wrap ((c : Int) + ((r : Int) + (t : Int)) % 4) = (s : Int) := by
  rw [IntWalk.i64_in _ (by omega)]; omega
theorem a_at (r t : Nat) (hr : r < 4) (ht : t ≤ 3) : IntKind.i64.wrap ((r : Int) + (t : Int)) = (r : Int) + (t : Int) := IntWalk.i64_in _ (by omega)
theorem d_at (r t : Nat) : ((r : Int) + (t : Int)).tmod 4 = ((r : Int) + (t : Int)) % 4 := Int.tmod_eq_emod_of_nonneg (by omega)
theorem i_at (c r i : Nat) (hc : c < 16) (hr : r < 4) (hi : i = c + r) : IntKind.i64.wrap ((c : Int) + (r : Int)) = (i : Int) := by
  rw [IntWalk.i64_in _ (by omega)]; omega
theorem s_at (q c r i t s : Nat) (hq : q < 4) (hr : r < 4) (hc : c = 4 * q) (hi : i = c + r) (hs : s = c + (r + t) % 4) : i < 16 ∧ s < 16 ∧ i / 4 * 4 + (i + t) % 4 = s ∧ 4 * q + r = i ∧ 4 * q + (r + 1) = i + 1 := by omega
set_option maxHeartbeats 4000000 in
set_option maxRecDepth 100000 in
/-- Each column mixed. -/
theorem bmixed (l : List Nat) (hn : l.length = 16) (hl : Byt l) (w : World) :
    Calls Try.prog 38 #[.agg (bcells l)] w fun e w' => e = .returned (.agg (bcells (mixl l))) ∧ Below w.heap.size w w' := by
  obtain ⟨f, hf⟩ : ∃ f : Nat → Nat, f = fun i => mix4 (l.getD i 0) (l.getD (i / 4 * 4 + (i + 1) % 4) 0) (l.getD (i / 4 * 4 + (i + 2) % 4) 0) (l.getD (i / 4 * 4 + (i + 3) % 4) 0) := ⟨_, rfl⟩
  have FI := Lib.hid (fun i => congrFun hf i)
  have FM : mixl l = (List.range 16).map f := by rw [hf]; rfl
  have L16 := Lib.hid hn
  have LB := Lib.hid hl
  rw [FM]
  have hz : ∀ v : World, (zeroValue 59).run Try.prog v = .ok (.agg (bcells (List.replicate 16 0))) v := zero_16
  have N := ARow.new3 w 59 l (List.replicate 16 0) (List.replicate 16 0)
  have SZ : (bcells (List.replicate 16 0)).size = 16 := by rw [bcells_size, List.length_replicate]
  obtain ⟨Z, hZ⟩ : ∃ Z, Z = List.replicate 16 0 := ⟨_, rfl⟩
  rw [← hZ] at hz N SZ
  have FZ : Z = fil f 16 0 := by rw [fil_zero, hZ]
  have L0 := Lib.hid N.1
  have S0 := Lib.hid N.2.1
  have R0 : Hid (ARow (((w.alloc (.cells (bcells l) 59)).alloc (.cells (bcells Z) 59)).alloc (.cells (bcells Z) 59)) (w.heap.size + 2) 59 (fil f 16 (4 * 0))) := Lib.hid (by rw [Nat.mul_zero, ← FZ]; exact N.2.2.1)
  have B0 := Lib.hid N.2.2.2
  clear N hZ hf hn hl FZ FM
  go_enter Try.func38, Try.ntmps38
  go_wp2_with fail
  clear hz
  generalize ((w.alloc (.cells (bcells l) 59)).alloc (.cells (bcells Z) 59)).alloc (.cells (bcells Z) 59) = w1 at *
  go_loopw [4] (fun kv wr => ∃ q c : Nat, kv = .int .i64 (c : Int) ∧ q ≤ 4 ∧ Hid (c = 4 * q) ∧ Hid (ARow wr w.heap.size 59 l) ∧ Hid (ARow wr (w.heap.size + 1) 59 Z) ∧ Hid (ARow wr (w.heap.size + 2) 59 (fil f 16 (4 * q))) ∧ Hid (Below w.heap.size w wr)) (fun kv _ => 16 - (intOf kv).toNat)
  case atStart => exact ⟨0, 0, rfl, by omega, Lib.hid rfl, L0, S0, R0, B0⟩
  case round =>
    obtain ⟨q, c, rfl, hq, HC, HL, HS, HR, HB⟩ := hrel
    clear L0 S0 R0 B0
    generalize wr = wo at *
    by_cases hlt : q < 4
    · have hc : c < 16 := by have := HC.out; omega
      have hc' : (c : Int) < 16 := by omega
      clear hq
      go_wp2_with fail
      go_loopw [13] (fun kv wr => ∃ r : Nat, kv = .int .i64 (r : Int) ∧ r ≤ 4 ∧ Hid (ARow wr w.heap.size 59 l) ∧ Hid (ARow wr (w.heap.size + 1) 59 Z) ∧ Hid (ARow wr (w.heap.size + 2) 59 (fil f 16 (4 * q + r))) ∧ Hid (Below w.heap.size w wr)) (fun kv _ => 4 - (intOf kv).toNat)
      case atStart => exact ⟨0, rfl, by omega, HL, HS, HR, HB⟩
      case round =>
        obtain ⟨r, rfl, hr, KL, KS, KR, KB⟩ := hrel
        clear HL HS HR HB
        by_cases hlr : r < 4
        · obtain ⟨i, hi⟩ : ∃ i, i = c + r := ⟨_, rfl⟩
          obtain ⟨s1, hs1⟩ : ∃ s1, s1 = c + (r + 1) % 4 := ⟨_, rfl⟩
          obtain ⟨s2, hs2⟩ : ∃ s2, s2 = c + (r + 2) % 4 := ⟨_, rfl⟩
          obtain ⟨s3, hs3⟩ : ∃ s3, s3 = c + (r + 3) % 4 := ⟨_, rfl⟩
          obtain ⟨li, l1, m1, ie, ie2⟩ := s_at q c r i 1 s1 hlt hlr HC.out hi hs1
          obtain ⟨_, l2, m2, _, _⟩ := s_at q c r i 2 s2 hlt hlr HC.out hi hs2
          obtain ⟨_, l3, m3, _, _⟩ := s_at q c r i 3 s3 hlt hlr HC.out hi hs3
          have FJ := FI.out i
          rw [m1, m2, m3] at FJ
          have IE := Lib.hid ie
          have IE2 := Lib.hid ie2
          rw [IE.out] at KR
          have c1 := KL.out.cell s1 (by rw [L16.out]; exact l1)
          have c2 := KL.out.cell s2 (by rw [L16.out]; exact l2)
          have c3 := KL.out.cell s3 (by rw [L16.out]; exact l3)
          have LC := Lib.hid (fun W (h : ARow W w.heap.size 59 l) => h.cell i (by rw [L16.out]; exact li))
          have b0 := LB.out.get i
          have b1 := LB.out.get s1
          have b2 := LB.out.get s2
          have b3 := LB.out.get s3
          generalize l.getD i 0 = x0 at *
          generalize l.getD s1 0 = x1 at *
          generalize l.getD s2 0 = x2 at *
          generalize l.getD s3 0 = x3 at *
          have v0 := xor_lt b0 b1
          have MX := mix_dbl (c := x2) (d := x3) b0 b1
          rw [← FJ] at MX
          obtain ⟨y0, hy0⟩ : ∃ y0, y0 = x0 ^^^ x1 := ⟨_, rfl⟩
          have X0 : Hid (bits .xor .u8 (x0 : Int) (x1 : Int) = (y0 : Int)) := Lib.hid (by rw [Bits3.u8_xor b0 b1, hy0])
          rw [← hy0] at v0 MX
          have D := Lib.hid (double_no y0 v0)
          have vd := dbl_lt v0
          obtain ⟨y1, hy1⟩ : ∃ y1, y1 = dbl y0 := ⟨_, rfl⟩
          rw [← hy1] at D vd MX
          obtain ⟨y2, hy2⟩ : ∃ y2, y2 = y1 ^^^ x1 := ⟨_, rfl⟩
          have X1 : Hid (bits .xor .u8 (y1 : Int) (x1 : Int) = (y2 : Int)) := Lib.hid (by rw [Bits3.u8_xor vd b1, hy2])
          have v2 := xor_lt vd b1
          rw [← hy2] at v2 MX
          obtain ⟨y3, hy3⟩ : ∃ y3, y3 = y2 ^^^ x2 := ⟨_, rfl⟩
          have X2 : Hid (bits .xor .u8 (y2 : Int) (x2 : Int) = (y3 : Int)) := Lib.hid (by rw [Bits3.u8_xor v2 b2, hy3])
          have v3 := xor_lt v2 b2
          rw [← hy3] at v3 MX
          have X3 : Hid (bits .xor .u8 (y3 : Int) (x3 : Int) = ((f i : Nat) : Int)) := Lib.hid (by rw [Bits3.u8_xor v3 b3, MX])
          have a1 := a_at r 1 hlr (by decide)
          have a2 := a_at r 2 hlr (by decide)
          have a3 := a_at r 3 hlr (by decide)
          have d1 := d_at r 1
          have d2 := d_at r 2
          have d3 := d_at r 3
          have k1 := k_at c r 1 s1 hc hs1
          have k2 := k_at c r 2 s2 hc hs2
          have k3 := k_at c r 3 s3 hc hs3
          have ki := Lib.hid (i_at c r i hc hlr hi)
          rw [show ((1 : Nat) : Int) = 1 from rfl] at a1 d1 k1
          rw [show ((2 : Nat) : Int) = 2 from rfl] at a2 d2 k2
          rw [show ((3 : Nat) : Int) = 3 from rfl] at a3 d3 k3
          clear hi hs1 hs2 hs3 m1 m2 m3 ie ie2 FJ hy0 hy1 hy2 hy3 MX v0 vd v2 v3
          go_wp2_with fail
          go_quiet (fail)
          have GL := Lib.hid (KL.out.drewN nq)
          have GS := Lib.hid (KS.out.drewN nq)
          have GR := Lib.hid (KR.out.drewN nq)
          have GB := Lib.hid (below_drewN KB.out nq)
          generalize wr.drewN nq = wy at *
          clear c1 c2 c3 a1 a2 a3 d1 d2 d3 k1 k2 k3 KL KS KR KB
          have c0 := LC.out wy GL.out
          have ki := ki.out
          have X0 := X0.out
          have X1 := X1.out
          have X2 := X2.out
          have X3 := X3.out
          have cR := GR.out.cell i (by rw [fil_len]; exact li)
          have fR := GR.out.free i
          have LN : Hid (ARow (wy.setCell ⟨w.heap.size + 2, i, none⟩ (.int .u8 ((f i : Nat) : Int))) w.heap.size 59 l) := Lib.hid (GL.out.far (p := ⟨w.heap.size + 2, i, none⟩) (by simp) _)
          have SN : Hid (ARow (wy.setCell ⟨w.heap.size + 2, i, none⟩ (.int .u8 ((f i : Nat) : Int))) (w.heap.size + 1) 59 Z) := Lib.hid (GS.out.far (p := ⟨w.heap.size + 2, i, none⟩) (by simp) _)
          have RN : Hid (ARow (wy.setCell ⟨w.heap.size + 2, i, none⟩ (.int .u8 ((f i : Nat) : Int))) (w.heap.size + 2) 59 (fil f 16 (4 * q + (r + 1)))) := Lib.hid (by have := GR.out.put i (f i); rw [fil_set] at this; rw [IE2.out]; exact this)
          have BN := Lib.hid (GB.out.setCell (p := ⟨w.heap.size + 2, i, none⟩) (by simp) (.int .u8 ((f i : Nat) : Int)))
          generalize (fil f 16 i).getD i 0 = old at *
          generalize f i = fi at *
          clear GL GS GR GB LC IE IE2
          go_wp2_with fail
          refine (D.out _).mono ?_
          rintro e w' ⟨rfl, rfl⟩
          go_wp2_with fail
          go_roundw
          case rel => exact ⟨r + 1, by go_num, by omega, LN, SN, RN, BN⟩
          case measure => simp [intOf]; omega
        · obtain rfl : r = 4 := by omega
          have RN : Hid (ARow wr (w.heap.size + 2) 59 (fil f 16 (4 * (q + 1)))) := Lib.hid (by rw [show 4 * (q + 1) = 4 * q + 4 by omega]; exact KR.out)
          have HC2 : Hid (c + 4 = 4 * (q + 1)) := Lib.hid (by have := HC.out; omega)
          have MM : Hid (16 - (c + 4) < 16 - c) := Lib.hid (by omega)
          go_wp2_with fail
          go_roundw
          case rel => exact ⟨q + 1, c + 4, by go_num, by omega, HC2, KL, KS, RN, KB⟩
          case measure => have := MM.out; simp [intOf]; omega
    · obtain rfl : q = 4 := by omega
      obtain rfl : c = 16 := by have := HC.out; omega
      have RF : ARow wo (w.heap.size + 2) 59 ((List.range 16).map f) := by have := HR.out; rwa [show 4 * 4 = 16 from rfl, fil_full] at this
      have SF := HS.out
      have sz : (bcells ((List.range 16).map f)).size = 16 := by simp [bcells]
      have one := bcells_one ((List.range 16).map f)
      obtain ⟨cR, hcR⟩ : ∃ cR, cR = bcells ((List.range 16).map f) := ⟨_, rfl⟩
      have CE := Lib.hid hcR
      have BF := Lib.hid HB.out
      clear HR HL HS HB hlt hq FI L16 HC
      unfold ARow at RF SF
      rw [← hcR] at RF sz one
      clear hcR
      generalize bcells Z = cZ at *
      go_wp2_with (first
        | (refine wpList_load_row rfl _ _ rfl (w.heap.size + 2) rfl 59 cR (0, 0) _ RF (Try.underlying59) rfl (by rw [sz]; kernel_rfl) ?_)
        | (refine wpList_store_row rfl _ _ _ rfl (w.heap.size + 1) cR rfl rfl 59 _ SF (by rw [sz]; kernel_rfl) (by rw [sz, SZ]) one ?_))
      exact bodyPost_ret (results_cell_row rfl _ _ (w.heap.size + 1) 59 cR (0, 0) _ rfl (setRow_heap _ _ _ _ _ _ SF) Try.underlying59 rfl (by rw [sz]; kernel_rfl)) rfl ⟨by rw [CE.out], below_setRow BF.out (by omega)⟩

end Go.Proofs.Ythjbcdjphokjbaa.Aes5
