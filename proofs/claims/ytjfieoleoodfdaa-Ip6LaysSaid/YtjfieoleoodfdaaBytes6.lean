/- The contract of Bytes of the code. -/
import Derived.Test.YtjfieoleoodfdaaHdr6
set_option linter.unusedVariables false
namespace Go.Proofs.Ytjfieoleoodfdaa.Bytes6
open Go.RowKit Go.Proofs.Ytjfieoleoodfdaa.Sums Go.Proofs.Ytjfieoleoodfdaa.Mem Go.Proofs.Ytjfieoleoodfdaa.P6 Go.Proofs.Ytjfieoleoodfdaa.Blk Go.Proofs.Ytjfieoleoodfdaa.Regs Go.Proofs.Ytjfieoleoodfdaa.Small6 Go.Proofs.Ytjfieoleoodfdaa.Behind6 Go.Proofs.Ytjfieoleoodfdaa.Kinds6 Go.Proofs.Ytjfieoleoodfdaa.Loads6 Go.Proofs.Ytjfieoleoodfdaa.Exts Go.Proofs.Ytjfieoleoodfdaa.Opts Go.Proofs.Ytjfieoleoodfdaa.Dec6 Go.Proofs.Ytjfieoleoodfdaa.Hdr6 Go.Proofs.Ytjfieoleoodfdaa.Check6

theorem kindOf_snoc (x : Int × ByteArray) (nx : Int) : ∀ r : P6.Exts, kindOf (r ++ [x]) nx = kindOf r x.1
  | [] => rfl
  | _ :: _ => rfl
theorem encs_snoc (x : Int × ByteArray) (nx : Int) : ∀ r : P6.Exts, encs (r ++ [x]) nx = encs r x.1 ++ encX x nx
  | [] => by simp [encs, kindOf]
  | y :: r => by rw [List.cons_append, encs, encs, encs_snoc x nx r, kindOf_snoc, List.append_assoc]
/-- The first k headers' bytes, with the kind that follows them. -/
def pre (xs : P6.Exts) (nx : Int) (k : Nat) : List Int := encs (xs.take k) (kindOf (xs.drop k) nx)
theorem pre_next {xs : P6.Exts} {k : Nat} {q : Int} {d : ByteArray} (h : xs[k]? = some (q, d)) (nx : Int) : pre xs nx (k + 1) = pre xs nx k ++ encX (q, d) (kindOf (xs.drop (k + 1)) nx) := by
  unfold pre
  rw [List.take_add_one, h, kind_at h nx]
  exact encs_snoc (q, d) _ _
theorem pre_all {xs : P6.Exts} (nx : Int) {k : Nat} (h : xs.length ≤ k) : pre xs nx k = encs xs nx := by
  unfold pre
  rw [List.take_of_length_le h, kind_end h]

theorem fits_at {l : P6.Exts} (h : allFit l true = true) {k : Nat} {q : Int} {d : ByteArray} (e : l[k]? = some (q, d)) : fits (q, d) (k == 0) = true := by
  cases hf : fits (q, d) (k == 0)
  · rw [allFit_no e hf] at h; cases h
  · rfl
theorem kind_drop {l : P6.Exts} {nx : Int} (h : allFit l true = true) (n0 : 0 ≤ nx) (n1 : nx ≤ 255) (k : Nat) : 0 ≤ kindOf (l.drop k) nx ∧ kindOf (l.drop k) nx ≤ 255 := by
  rcases Nat.lt_or_ge k l.length with hk | hk
  · obtain ⟨q, d, e⟩ : ∃ q d, l[k]? = some (q, d) := ⟨_, _, List.getElem?_eq_getElem hk⟩
    rw [kind_at e]
    have := btw_true (fits_spec (fits_at h e)).1
    simp only at this
    omega
  · rw [kind_end hk]; exact ⟨n0, n1⟩
theorem small_of {l : P6.Exts} (h : allFit l true = true) : Small l := fun x hx => by
  obtain ⟨k, hk⟩ := List.getElem?_of_mem hx
  have := (fits_spec (fits_at (q := x.1) (d := x.2) h hk)).2.2
  simp only at this
  omega

theorem bytes_err (p : Pkt) (E : Option Addr) (m ce : Nat) (A : Option Addr) (n c : Nat) (w : World) (hr : Row w (.slice E m ce) p.exts) (hz : Small p.exts) (hm : m ≤ 65536) (hn : n ≤ 1048576) (hk : p.chk n ≠ 0) :
    Calls Try.prog 9 #[.agg #[.int .i64 p.cls, .int .i64 p.lab, .int .i64 p.hop, .string p.src, .string p.dst, .slice E m ce, .int .i64 p.next, .slice A n c]] w fun e w' => e = .returned (.tuple #[.slice none 0 0, .int .i64 (p.chk n)]) ∧ Below w.heap.size w w' := by
  have B0 := Lib.hid ((Below.refl w.heap.size w).alloc (Nat.le_refl _) (.cells #[.int .i64 p.cls, .int .i64 p.lab, .int .i64 p.hop, .string p.src, .string p.dst, .slice E m ce, .int .i64 p.next, .slice A n c] 25))
  have CK := Lib.hid (check_code p E m ce A n c _ (hr.below B0.out) hz hm hn)
  have hk' : (p.chk n != 0) = true := by rw [bne_iff_ne]; exact hk
  clear hr hz
  go_enter Try.func9, Try.ntmps9
  go_wp2_with fail
  refine CK.out.mono ?_
  rintro e w1 ⟨rfl, hb⟩
  have B1 := Lib.hid (B0.out.trans (hb.mono B0.out.size))
  clear hb
  go_wp2_with fail
  go_ret2
  exact ⟨rfl, B1.out⟩

/-- What holds at the loop's head. -/
def Bl (p : Pkt) (E : Option Addr) (m ce : Nat) (A : Option Addr) (n c : Nat) (w : World) (base S : Nat) (s i : Value) (wr : World) : Prop :=
  ∃ (k : Nat) (v : Value), i = .int .i64 (k : Int) ∧ s = v ∧ k ≤ m ∧ Hid (Owns wr base v (40 + behind (p.exts.take k)) (p.head S ++ pre p.exts p.next k)) ∧ Hid (Blk wr w.heap.size 25 #[.int .i64 p.cls, .int .i64 p.lab, .int .i64 p.hop, .string p.src, .string p.dst, .slice E m ce, .int .i64 p.next, .slice A n c]) ∧ Hid (Below w.heap.size w wr) ∧ base ≤ wr.heap.size

set_option maxHeartbeats 4000000 in
set_option maxRecDepth 100000 in
theorem bytes_ok (p : Pkt) (E : Option Addr) (m ce : Nat) (A : Option Addr) (n c : Nat) (l : List Int) (w : World) (hr : Row w (.slice E m ce) p.exts) (h : Holds w w.heap.size A n c l) (hm : m ≤ 65536) (hv : Valid p) (hS : n + behind p.exts ≤ 65535) :
    Calls Try.prog 9 #[.agg #[.int .i64 p.cls, .int .i64 p.lab, .int .i64 p.hop, .string p.src, .string p.dst, .slice E m ce, .int .i64 p.next, .slice A n c]] w fun e w' => ∃ v, e = .returned (.tuple #[v, .int .i64 0]) ∧ Owns w' w.heap.size v (40 + (n + behind p.exts)) (p.bytes l) ∧ Below w.heap.size w w' := by
  have hz := small_of hv.e
  have hlen := h.1
  have L := Lib.hid hr.len
  have B0 := Lib.hid ((Below.refl w.heap.size w).alloc (Nat.le_refl _) (.cells #[.int .i64 p.cls, .int .i64 p.lab, .int .i64 p.hop, .string p.src, .string p.dst, .slice E m ce, .int .i64 p.next, .slice A n c] 25))
  have P0 := Lib.hid (Blk.new w 25 #[.int .i64 p.cls, .int .i64 p.lab, .int .i64 p.hop, .string p.src, .string p.dst, .slice E m ce, .int .i64 p.next, .slice A n c])
  have CK := Lib.hid (check_code p E m ce A n c _ (hr.below B0.out) hz hm (by omega))
  rw [chk_ok hv.ok hS] at CK
  have HD := Lib.hid (fun W (bel : Below w.heap.size w W) => header_any p E m ce A n c W (hr.below bel) hz hm (by omega) hv hS)
  have KA := Lib.hid (fun W i (hi : i ≤ 65537) (bel : Below w.heap.size w W) => kindAt_any p E m ce A n c W i (hr.below bel) hm hi)
  have KD := Lib.hid (fun k => kind_drop hv.e hv.n.1 hv.n.2 k)
  have FI := Lib.hid hv.e
  have BY : Hid (p.bytes l = p.head (n + behind p.exts) ++ encs p.exts p.next ++ l) := Lib.hid (by rw [Pkt.bytes, hlen, List.append_assoc])
  have R0 := Lib.hid hr
  have HL := Lib.hid h
  have hn : n ≤ 65535 := by omega
  have bl := behind_take_le p.exts
  have BT := Lib.hid bl
  have hbS : behind p.exts ≤ 65535 := by omega
  obtain ⟨S, hSS⟩ : ∃ S, S = n + behind p.exts := ⟨_, rfl⟩
  have SS := Lib.hid hSS
  rw [← hSS] at HD BY hS ⊢
  clear hr hz hlen h hSS bl
  go_enter Try.func9, Try.ntmps9
  go_wp2_with fail
  refine CK.out.mono ?_
  rintro e w1 ⟨rfl, hb⟩
  have B1 := Lib.hid (B0.out.trans (hb.mono B0.out.size))
  have P1 := Lib.hid (P0.out.below hb P0.out.lt)
  clear hb
  go_wp2_with (first
    | (refine Loads.wpList_load_w rfl 25 (.tmp 1) rfl w.heap.size rfl 25 #[.int .i64 p.cls, .int .i64 p.lab, .int .i64 p.hop, .string p.src, .string p.dst, .slice E m ce, .int .i64 p.next, .slice A n c] (0, 0) _ P1.out (Try.underlying25) rfl (by kernel_rfl) ?_))
  refine (HD.out _ B1.out).mono ?_
  rintro e w2 ⟨v2, rfl, o2, hb⟩
  have B2 := Lib.hid (B1.out.trans (hb.mono B1.out.size))
  have P2 := Lib.hid (P1.out.below hb P1.out.lt)
  have s1 := B1.out.size
  have lw1 := P1.out.lt
  have s2 := hb.size
  have O2 := Lib.hid o2
  have x5 := P2.out.cell 5
  clear hb o2
  go_wp2_with fail
  clear x5
  go_loopw [5, 18] (fun s i wr => Bl p E m ce A n c w w1.heap.size S s i wr) (fun _ i _ => m - (intOf i).toNat)
  case atStart => exact ⟨0, _, rfl, rfl, by omega, Lib.hid (by have := O2.out; simpa [behind, pre, encs] using this), P2, B2, s2⟩
  case round =>
    obtain ⟨k, v, rfl, hs, hk, OV, PB, BB, hbase⟩ := hrel
    replace hs := hs.symm
    subst hs
    have btk := BT.out k
    by_cases hk2 : k = m
    · have hlt : decide (k < m) = false := by simp [hk2]
      have full : p.exts.take k = p.exts := List.take_of_length_le (by rw [L.out]; omega)
      have OF : Hid (Owns wr w1.heap.size v (40 + behind p.exts) (p.head S ++ encs p.exts p.next)) := Lib.hid (by
        have := OV.out
        rwa [full, pre_all _ (by rw [L.out]; omega)] at this)
      have x7 := PB.out.cell 7
      have HA := Lib.hid (HL.out.below BB.out)
      clear hk2 full OV
      go_wp2_with (at_builtin
                   refine wpList_append_bytes rfl (.tmp 47) (.tmp 49) rfl w1.heap.size v _ _ rfl OF.out w.heap.size A n c l rfl HA.out (by omega) hbase ?_
                   intro v9 w9 o9 g9 _)
      go_ret2
      refine ⟨_, rfl, ?_, BB.out.grown g9 BB.out.size fun g hg => by have := (OF.out.lt g hg).1; omega⟩
      rw [BY.out]
      have e40 : 40 + behind p.exts + n = 40 + S := by have := SS.out; omega
      rw [e40] at o9
      exact o9.mono s1
    · have hlt : decide (k < m) = true := by rw [decide_eq_true_eq]; omega
      obtain ⟨a, q, d, rfl, hq, hab, c1, c2, c3⟩ := (R0.out.below BB.out).at_ (k := k) (by omega)
      have hi : k < m := by omega
      have FT := fits_spec (fits_at FI.out hq)
      simp only at FT
      have NX := Lib.hid (pre_next hq p.next)
      have TB := Lib.hid (behind_take hq)
      have btk1 := BT.out (k + 1)
      rw [TB.out] at btk1
      obtain ⟨nk, hnk⟩ : ∃ nk, nk = kindOf (p.exts.drop (k + 1)) p.next := ⟨_, rfl⟩
      have kd := KD.out (k + 1)
      rw [← hnk] at NX kd
      have KK : Hid (∀ W, Below w.heap.size w W → Calls Try.prog 21 #[.agg #[.int .i64 p.cls, .int .i64 p.lab, .int .i64 p.hop, .string p.src, .string p.dst, .slice (some a) m ce, .int .i64 p.next, .slice A n c], .int .i64 ((k : Int) + 1)] W fun e w' => e = .returned (.int .i64 nk) ∧ Below W.heap.size W w') := Lib.hid (fun W bel => by
        have := KA.out W (k + 1) (by omega) bel
        rw [← hnk] at this
        rwa [show ((k + 1 : Nat) : Int) = (k : Int) + 1 by omega] at this)
      have X1 := Lib.hid (Blk.new wr 43 #[.int .i64 q, .string d])
      have P1' := Lib.hid (PB.out.alloc (.cells #[.int .i64 q, .string d] 43))
      have BB1 := Lib.hid (BB.out.alloc BB.out.size (.cells #[.int .i64 q, .string d] 43))
      have OV1 := Lib.hid (OV.out.alloc (.cells #[.int .i64 q, .string d] 43))
      have nkw : IntKind.u8.wrap nk = nk := by rw [IntKind.wrap_u8]; omega
      have hsz : sz (q, d) = opn q + d.size := rfl
      have dsm : d.size ≤ 2046 := by omega
      have opb := opn_le q
      have ox : some wr.heap.size ≠ v.ownBlock := fun q => by have := (OV.out.lt _ q.symm).2; omega
      have opx : some w.heap.size ≠ v.ownBlock := fun q => by have := (OV.out.lt _ q.symm).1; omega
      have wx := PB.out.lt
      clear hq hk2 hnk PB BB OV
      go_wp2_with (first
        | (refine wpList_load_pair rfl _ rfl a k q d rfl c1 c2 ?_)
        | (refine Loads.wpList_load_w rfl 25 (.tmp 1) rfl w.heap.size rfl 25 #[.int .i64 p.cls, .int .i64 p.lab, .int .i64 p.hop, .string p.src, .string p.dst, .slice (some a) m ce, .int .i64 p.next, .slice A n c] (0, 0) _ P1'.out (Try.underlying25) rfl (by kernel_rfl) ?_))
      refine (KK.out _ BB1.out).mono ?_
      rintro e w3 ⟨rfl, hb⟩
      have X3 := Lib.hid (X1.out.below hb X1.out.lt)
      have P3 := Lib.hid (P1'.out.below hb P1'.out.lt)
      have BB3 := Lib.hid (BB1.out.trans (hb.mono BB1.out.size))
      have OV3 := Lib.hid (OV1.out.below hb (Nat.le_refl _))
      have s3 : w1.heap.size ≤ w3.heap.size := by have := hb.size; simp at this; omega
      have zz : ∀ y ∈ [nk], 0 ≤ y ∧ y ≤ 255 := fun y hy => by simp at hy; omega
      have LN := Lib.hid (Owns.lit w3 0 (Nat.zero_le _) [nk] #[.int .u8 nk] rfl (by simp [maxLen]) zz)
      have B4a := Lib.hid (BB3.out.alloc BB3.out.size (.cells #[.int .u8 nk] 5))
      have P4a := Lib.hid (P3.out.alloc (.cells #[.int .u8 nk] 5))
      have X4a := Lib.hid (X3.out.alloc (.cells #[.int .u8 nk] 5))
      clear X1 P1' BB1 OV1 hb zz
      by_cases q4 : q = 44
      · have q4b : (q != 44) = false := by rw [bne_eq_false_iff_eq]; exact q4
        have o1 : opn q = 1 := by unfold opn; rw [if_pos q4]
        have LE : Hid (p.head S ++ pre p.exts p.next k ++ [nk] ++ nums d = p.head S ++ pre p.exts p.next (k + 1)) := Lib.hid (by rw [NX.out]; unfold encX; rw [if_pos q4]; simp)
        go_wp2_with (first
          | (at_builtin
             refine wpList_append_bytes rfl (.tmp 23) (.tmp 29) rfl w1.heap.size v _ _ rfl (OV3.out.alloc _) _ (some ⟨w3.heap.size, 0, none⟩) 1 1 [nk] rfl (by simpa using LN.out.holds) (by omega) (by simp; omega) ?_
             intro v4 w4 o4 g4 a4
             have x40 := (X4a.out.grown g4 ox).cell 0
             have x41 := (X4a.out.grown g4 ox).cell 1
             have s4 := g4.size)
          | (at_builtin
             refine wpList_append_text rfl (.tmp 42) (.tmp 44) rfl w1.heap.size v4 _ _ rfl o4 d rfl (by omega) (by simp at s4; omega) ?_
             intro v6 w6 o6 g6))
        have B6 := Lib.hid ((B4a.out.grown g4 B4a.out.size (fun g hg => by have := (OV3.out.lt g hg).1; omega)).grown g6 (by have := B4a.out.size; omega) (fun g hg => by have := (o4.lt g hg).1; omega))
        have P6 := Lib.hid ((P4a.out.grown g4 opx).grown g6 (fun q => by have := (o4.lt _ q.symm).1; omega))
        rw [LE.out, show 40 + behind (p.exts.take k) + 1 + d.size = 40 + behind (p.exts.take (k + 1)) by rw [TB.out, hsz]; omega] at o6
        have O6 := Lib.hid o6
        have s6 : w1.heap.size ≤ w6.heap.size := by have := g6.size; simp at s4; omega
        clear o6 g6 g4 o4 x40 x41
        go_roundw
        case rel => exact ⟨k + 1, _, by go_num, rfl, by omega, O6, P6, B6, s6⟩
        case measure => simp [intOf]; omega
      · have q4b : (q != 44) = true := by rw [bne_iff_ne]; exact q4
        have o2 : opn q = 2 := by unfold opn; rw [if_neg q4]
        have FT2 : d.size % 8 = 6 ∧ d.size ≤ 2046 := by
          rcases FT.2.2 with x | x
          · exact absurd x.1 q4
          · exact x.2
        have LE : Hid (p.head S ++ pre p.exts p.next k ++ [nk] ++ [((d.size : Int) + 2) / 8 - 1] ++ nums d = p.head S ++ pre p.exts p.next (k + 1)) := Lib.hid (by rw [NX.out]; unfold encX; rw [if_neg q4]; simp)
        have SZ : Hid (∀ W, Calls Try.prog 22 #[.agg #[.int .i64 q, .string d]] W fun e w' => e = .returned (.int .i64 ((d.size : Int) + 2)) ∧ Below W.heap.size W w') := Lib.hid (fun W => by
          have := size_any q d W (by omega)
          rwa [show ((sz (q, d) : Nat) : Int) = (d.size : Int) + 2 by rw [hsz]; omega] at this)
        obtain ⟨z, hz⟩ : ∃ z, z = ((d.size : Int) + 2) / 8 - 1 := ⟨_, rfl⟩
        have zb : 0 ≤ z ∧ z ≤ 255 := by omega
        have e8 : IntKind.u8.wrap (((d.size : Int) + 2) / 8 - 1) = z := by rw [← hz, IntKind.wrap_u8]; omega
        rw [← hz] at LE
        clear hz
        go_wp2_with (first
          | (at_builtin
             refine wpList_append_bytes rfl (.tmp 23) (.tmp 29) rfl w1.heap.size v _ _ rfl (OV3.out.alloc _) _ (some ⟨w3.heap.size, 0, none⟩) 1 1 [nk] rfl (by simpa using LN.out.holds) (by omega) (by simp; omega) ?_
             intro v4 w4 o4 g4 a4
             have X4 := Lib.hid (X4a.out.grown g4 ox)
             have x40 := X4.out.cell 0
             have s4 := g4.size)
          | (refine Loads.wpList_load_w rfl 43 (.tmp 7) rfl wr.heap.size rfl 43 #[.int .i64 q, .string d] (0, 0) _ X4.out (Try.underlying43) rfl (by kernel_rfl) ?_))
        refine (SZ.out _).mono ?_
        rintro e w5 ⟨rfl, hb⟩
        have O4 := Lib.hid o4
        have B5 := Lib.hid ((B4a.out.grown g4 B4a.out.size (fun g hg => by have := (OV3.out.lt g hg).1; omega)).trans (hb.mono (by have := B4a.out.size; omega)))
        have P5 := Lib.hid ((P4a.out.grown g4 opx).below hb (P4a.out.grown g4 opx).lt)
        have X5 := Lib.hid (X4.out.below hb X4.out.lt)
        have O5 := Lib.hid (o4.below hb (Nat.le_refl _))
        have s5 : w1.heap.size ≤ w5.heap.size := by have := hb.size; simp at s4; omega
        have ox4 : some wr.heap.size ≠ v4.ownBlock := fun q => by
          rcases a4 with e | e
          · rw [e] at q; exact ox q
          · rw [e] at q
            injection q with q
            have := X3.out.lt
            simp at q
            omega
        have op4 : some w.heap.size ≠ v4.ownBlock := fun q => by have := (O4.out.lt _ q.symm).1; omega
        have LZ := Lib.hid (Owns.lit w5 0 (Nat.zero_le _) [z] #[.int .u8 z] rfl (by simp [maxLen]) (fun y hy => by simp at hy; omega))
        clear o4 g4 hb a4 x40 X4 O4
        go_wp2_with (first
          | (at_builtin
             refine wpList_append_bytes rfl (.tmp 34) (.tmp 40) rfl w1.heap.size v4 _ _ rfl (O5.out.alloc _) _ (some ⟨w5.heap.size, 0, none⟩) 1 1 [z] rfl (by simpa using LZ.out.holds) (by omega) (by simp; omega) ?_
             intro v7 w7 o7 g7 _
             have x71 := ((X5.out.alloc (.cells #[.int .u8 z] 5)).grown g7 ox4).cell 1
             have s7 := g7.size)
          | (at_builtin
             refine wpList_append_text rfl (.tmp 42) (.tmp 44) rfl w1.heap.size v7 _ _ rfl o7 d rfl (by omega) (by simp at s7; omega) ?_
             intro v6 w6 o6 g6))
        have B6 := Lib.hid (((B5.out.alloc B5.out.size (.cells #[.int .u8 z] 5)).grown g7 (by have := B5.out.size; simp; omega) (fun g hg => by have := (O5.out.lt g hg).1; omega)).grown g6 (by have := B5.out.size; simp at s7; omega) (fun g hg => by have := (o7.lt g hg).1; omega))
        have P6 := Lib.hid (((P5.out.alloc (.cells #[.int .u8 z] 5)).grown g7 op4).grown g6 (fun q => by have := (o7.lt _ q.symm).1; omega))
        rw [LE.out, show 40 + behind (p.exts.take k) + 1 + 1 + d.size = 40 + behind (p.exts.take (k + 1)) by rw [TB.out, hsz]; omega] at o6
        have O6 := Lib.hid o6
        have s6 : w1.heap.size ≤ w6.heap.size := by have := g6.size; simp at s7; omega
        clear o6 g6 g7 o7 x71
        go_roundw
        case rel => exact ⟨k + 1, _, by go_num, rfl, by omega, O6, P6, B6, s6⟩
        case measure => simp [intOf]; omega
end Go.Proofs.Ytjfieoleoodfdaa.Bytes6
