/- The contract of Check of the document. -/
import Derived.Test.YtjfieoleoodfdaaCheck6
set_option linter.unusedVariables false
namespace Go.Proofs.Ytjfieoleoodfdaa.CheckRef6
open Go.RowKit Go.Proofs.Ytjfieoleoodfdaa.Sums Go.Proofs.Ytjfieoleoodfdaa.Mem Go.Proofs.Ytjfieoleoodfdaa.P6 Go.Proofs.Ytjfieoleoodfdaa.Blk Go.Proofs.Ytjfieoleoodfdaa.Exts Go.Proofs.Ytjfieoleoodfdaa.Loads6 Go.Proofs.Ytjfieoleoodfdaa.Small6 Go.Proofs.Ytjfieoleoodfdaa.Behind6 Go.Proofs.Ytjfieoleoodfdaa.Kinds6 Go.Proofs.Ytjfieoleoodfdaa.Check6

def Ck (p : Pkt) (n : Nat) (w : World) (e : Ending) (w' : World) : Prop := e = .returned (.int .i64 (p.chk n)) ∧ Below w.heap.size w w'

theorem ck_cls (p : Pkt) (E : Option Addr) (m ce : Nat) (A : Option Addr) (n c : Nat) (w : World) (h1 : wi p.cls 255 = false) :
    Calls Try.prog 10 #[.agg #[.int .i64 p.cls, .int .i64 p.lab, .int .i64 p.hop, .string p.src, .string p.dst, .slice E m ce, .int .i64 p.next, .slice A n c]] w (Ck p n w) := by
  have K : Hid (p.chk n = 1) := Lib.hid (chk_one (by simp [Pkt.ok, h1]))
  have B0 := Lib.hid ((Below.refl w.heap.size w).alloc (Nat.le_refl _) (.cells #[.int .i64 p.cls, .int .i64 p.lab, .int .i64 p.hop, .string p.src, .string p.dst, .slice E m ce, .int .i64 p.next, .slice A n c] 25))
  unfold Ck
  rw [K.out]
  go_enter Try.func10, Try.ntmps10
  go_wp2_with (first
    | (go_at_call 23; refine (in_any _ _ _).mono ?_; rintro e w' ⟨rfl, rfl⟩)
    | (go_at_call 14; refine (between_ref _ _).mono ?_; rintro e w' ⟨rfl, rfl⟩))
  go_ret
  exact ⟨rfl, B0.out⟩

theorem ck_hop (p : Pkt) (E : Option Addr) (m ce : Nat) (A : Option Addr) (n c : Nat) (w : World) (h1 : wi p.cls 255 = true) (h3 : wi p.hop 255 = false) :
    Calls Try.prog 10 #[.agg #[.int .i64 p.cls, .int .i64 p.lab, .int .i64 p.hop, .string p.src, .string p.dst, .slice E m ce, .int .i64 p.next, .slice A n c]] w (Ck p n w) := by
  have K : Hid (p.chk n = 1) := Lib.hid (chk_one (by simp [Pkt.ok, h1, h3]))
  have B0 := Lib.hid ((Below.refl w.heap.size w).alloc (Nat.le_refl _) (.cells #[.int .i64 p.cls, .int .i64 p.lab, .int .i64 p.hop, .string p.src, .string p.dst, .slice E m ce, .int .i64 p.next, .slice A n c] 25))
  unfold Ck
  rw [K.out]
  go_enter Try.func10, Try.ntmps10
  go_wp2_with (first
    | (go_at_call 23; refine (in_any _ _ _).mono ?_; rintro e w' ⟨rfl, rfl⟩)
    | (go_at_call 14; refine (between_ref _ _).mono ?_; rintro e w' ⟨rfl, rfl⟩))
  go_ret
  exact ⟨rfl, B0.out⟩

theorem ck_nxt (p : Pkt) (E : Option Addr) (m ce : Nat) (A : Option Addr) (n c : Nat) (w : World) (h1 : wi p.cls 255 = true) (h3 : wi p.hop 255 = true) (h4 : wi p.next 255 = false) :
    Calls Try.prog 10 #[.agg #[.int .i64 p.cls, .int .i64 p.lab, .int .i64 p.hop, .string p.src, .string p.dst, .slice E m ce, .int .i64 p.next, .slice A n c]] w (Ck p n w) := by
  have K : Hid (p.chk n = 1) := Lib.hid (chk_one (by simp [Pkt.ok, h1, h3, h4]))
  have B0 := Lib.hid ((Below.refl w.heap.size w).alloc (Nat.le_refl _) (.cells #[.int .i64 p.cls, .int .i64 p.lab, .int .i64 p.hop, .string p.src, .string p.dst, .slice E m ce, .int .i64 p.next, .slice A n c] 25))
  unfold Ck
  rw [K.out]
  go_enter Try.func10, Try.ntmps10
  go_wp2_with (first
    | (go_at_call 23; refine (in_any _ _ _).mono ?_; rintro e w' ⟨rfl, rfl⟩)
    | (go_at_call 14; refine (between_ref _ _).mono ?_; rintro e w' ⟨rfl, rfl⟩))
  go_ret
  exact ⟨rfl, B0.out⟩

theorem ck_lab (p : Pkt) (E : Option Addr) (m ce : Nat) (A : Option Addr) (n c : Nat) (w : World) (h1 : wi p.cls 255 = true) (h3 : wi p.hop 255 = true) (h4 : wi p.next 255 = true) (h2 : wi p.lab 1048575 = false) :
    Calls Try.prog 10 #[.agg #[.int .i64 p.cls, .int .i64 p.lab, .int .i64 p.hop, .string p.src, .string p.dst, .slice E m ce, .int .i64 p.next, .slice A n c]] w (Ck p n w) := by
  have K : Hid (p.chk n = 1) := Lib.hid (chk_one (by simp [Pkt.ok, h1, h3, h4, h2]))
  have B0 := Lib.hid ((Below.refl w.heap.size w).alloc (Nat.le_refl _) (.cells #[.int .i64 p.cls, .int .i64 p.lab, .int .i64 p.hop, .string p.src, .string p.dst, .slice E m ce, .int .i64 p.next, .slice A n c] 25))
  unfold Ck
  rw [K.out]
  go_enter Try.func10, Try.ntmps10
  go_wp2_with (first
    | (go_at_call 23; refine (in_any _ _ _).mono ?_; rintro e w' ⟨rfl, rfl⟩)
    | (go_at_call 14; refine (between_ref _ _).mono ?_; rintro e w' ⟨rfl, rfl⟩))
  go_ret
  exact ⟨rfl, B0.out⟩

theorem ck_src (p : Pkt) (E : Option Addr) (m ce : Nat) (A : Option Addr) (n c : Nat) (w : World) (h1 : wi p.cls 255 = true) (h3 : wi p.hop 255 = true) (h4 : wi p.next 255 = true) (h2 : wi p.lab 1048575 = true) (h6 : p.src.size ≠ 16) :
    Calls Try.prog 10 #[.agg #[.int .i64 p.cls, .int .i64 p.lab, .int .i64 p.hop, .string p.src, .string p.dst, .slice E m ce, .int .i64 p.next, .slice A n c]] w (Ck p n w) := by
  have K : Hid (p.chk n = 1) := Lib.hid (chk_one (by simp [Pkt.ok, h1, h3, h4, h2, h6]))
  have B0 := Lib.hid ((Below.refl w.heap.size w).alloc (Nat.le_refl _) (.cells #[.int .i64 p.cls, .int .i64 p.lab, .int .i64 p.hop, .string p.src, .string p.dst, .slice E m ce, .int .i64 p.next, .slice A n c] 25))
  have h6b : ((p.src.size : Int) != 16) = true := by rw [bne_iff_ne]; omega
  unfold Ck
  rw [K.out]
  go_enter Try.func10, Try.ntmps10
  go_wp2_with (first
    | (go_at_call 23; refine (in_any _ _ _).mono ?_; rintro e w' ⟨rfl, rfl⟩)
    | (go_at_call 14; refine (between_ref _ _).mono ?_; rintro e w' ⟨rfl, rfl⟩))
  go_ret
  exact ⟨rfl, B0.out⟩

theorem ck_dst (p : Pkt) (E : Option Addr) (m ce : Nat) (A : Option Addr) (n c : Nat) (w : World) (h1 : wi p.cls 255 = true) (h3 : wi p.hop 255 = true) (h4 : wi p.next 255 = true) (h2 : wi p.lab 1048575 = true) (h6 : p.src.size = 16) (h7 : p.dst.size ≠ 16) :
    Calls Try.prog 10 #[.agg #[.int .i64 p.cls, .int .i64 p.lab, .int .i64 p.hop, .string p.src, .string p.dst, .slice E m ce, .int .i64 p.next, .slice A n c]] w (Ck p n w) := by
  have K : Hid (p.chk n = 1) := Lib.hid (chk_one (by simp [Pkt.ok, h1, h3, h4, h2, h6, h7]))
  have B0 := Lib.hid ((Below.refl w.heap.size w).alloc (Nat.le_refl _) (.cells #[.int .i64 p.cls, .int .i64 p.lab, .int .i64 p.hop, .string p.src, .string p.dst, .slice E m ce, .int .i64 p.next, .slice A n c] 25))
  have h6b : ((p.src.size : Int) != 16) = false := by rw [bne_eq_false_iff_eq]; omega
  have h7b : ((p.dst.size : Int) != 16) = true := by rw [bne_iff_ne]; omega
  unfold Ck
  rw [K.out]
  go_enter Try.func10, Try.ntmps10
  go_wp2_with (first
    | (go_at_call 23; refine (in_any _ _ _).mono ?_; rintro e w' ⟨rfl, rfl⟩)
    | (go_at_call 14; refine (between_ref _ _).mono ?_; rintro e w' ⟨rfl, rfl⟩))
  go_ret
  exact ⟨rfl, B0.out⟩

theorem ck_btw (p : Pkt) (E : Option Addr) (m ce : Nat) (A : Option Addr) (n c : Nat) (w : World) (h1 : wi p.cls 255 = true) (h3 : wi p.hop 255 = true) (h4 : wi p.next 255 = true) (h2 : wi p.lab 1048575 = true) (h6 : p.src.size = 16) (h7 : p.dst.size = 16) (h5 : btw p.next = true) :
    Calls Try.prog 10 #[.agg #[.int .i64 p.cls, .int .i64 p.lab, .int .i64 p.hop, .string p.src, .string p.dst, .slice E m ce, .int .i64 p.next, .slice A n c]] w (Ck p n w) := by
  have K : Hid (p.chk n = 1) := Lib.hid (chk_one (by simp [Pkt.ok, h1, h3, h4, h2, h6, h7, h5]))
  have B0 := Lib.hid ((Below.refl w.heap.size w).alloc (Nat.le_refl _) (.cells #[.int .i64 p.cls, .int .i64 p.lab, .int .i64 p.hop, .string p.src, .string p.dst, .slice E m ce, .int .i64 p.next, .slice A n c] 25))
  have h6b : ((p.src.size : Int) != 16) = false := by rw [bne_eq_false_iff_eq]; omega
  have h7b : ((p.dst.size : Int) != 16) = false := by rw [bne_eq_false_iff_eq]; omega
  unfold Ck
  rw [K.out]
  go_enter Try.func10, Try.ntmps10
  go_wp2_with (first
    | (go_at_call 23; refine (in_any _ _ _).mono ?_; rintro e w' ⟨rfl, rfl⟩)
    | (go_at_call 14; refine (between_ref _ _).mono ?_; rintro e w' ⟨rfl, rfl⟩))
  go_ret
  exact ⟨rfl, B0.out⟩


set_option maxHeartbeats 1000000 in
theorem ck_rest (p : Pkt) (E : Option Addr) (m ce : Nat) (A : Option Addr) (n c : Nat) (w : World) (h1 : wi p.cls 255 = true) (h2 : wi p.lab 1048575 = true) (h3 : wi p.hop 255 = true) (h4 : wi p.next 255 = true) (h5 : btw p.next = false) (h6 : p.src.size = 16) (h7 : p.dst.size = 16)
    (hr : Row w (.slice E m ce) p.exts) (hz : Small p.exts) (hm : m ≤ 65536) (hn : n ≤ 1048576) :
    Calls Try.prog 10 #[.agg #[.int .i64 p.cls, .int .i64 p.lab, .int .i64 p.hop, .string p.src, .string p.dst, .slice E m ce, .int .i64 p.next, .slice A n c]] w (Ck p n w) := by
  have h6b : ((p.src.size : Int) != 16) = false := by rw [bne_eq_false_iff_eq]; omega
  have h7b : ((p.dst.size : Int) != 16) = false := by rw [bne_eq_false_iff_eq]; omega
  have OKE : Hid (p.ok = allFit p.exts true) := Lib.hid (by simp [Pkt.ok, h1, h2, h3, h4, h5, h6, h7])
  have L := Lib.hid hr.len
  have B0 := Lib.hid ((Below.refl w.heap.size w).alloc (Nat.le_refl _) (.cells #[.int .i64 p.cls, .int .i64 p.lab, .int .i64 p.hop, .string p.src, .string p.dst, .slice E m ce, .int .i64 p.next, .slice A n c] 25))
  have K0 := Lib.hid (Blk.new w 25 #[.int .i64 p.cls, .int .i64 p.lab, .int .i64 p.hop, .string p.src, .string p.dst, .slice E m ce, .int .i64 p.next, .slice A n c])
  have R0 := Lib.hid (hr.below B0.out)
  have HZ := Lib.hid hz
  clear hr hz
  go_enter Try.func10, Try.ntmps10
  go_wp2_with (first
    | (go_at_call 23; refine (in_any _ _ _).mono ?_; rintro e w' ⟨rfl, rfl⟩)
    | (go_at_call 14; refine (between_ref _ _).mono ?_; rintro e w' ⟨rfl, rfl⟩))
  clear h1 h2 h3 h4 h5 h6b h7b h6 h7
  generalize w.alloc (.cells #[.int .i64 p.cls, .int .i64 p.lab, .int .i64 p.hop, .string p.src, .string p.dst, .slice E m ce, .int .i64 p.next, .slice A n c] 25) = w1 at *
  go_loopw [3] (fun i wr => ∃ k : Nat, i = .int .i64 (k : Int) ∧ k ≤ m ∧ Hid (allFit (p.exts.take k) true = true) ∧ Below w1.heap.size w1 wr) (fun i _ => m - (intOf i).toNat)
  case atStart => exact ⟨0, rfl, by omega, Lib.hid rfl, Below.refl _ _⟩
  case round =>
    obtain ⟨k, rfl, hk, hf, hb⟩ := hrel
    have x5 := (K0.out.below hb K0.out.lt).cell 5
    by_cases hk2 : k = m
    · have hlt : decide (k < m) = false := by simp [hk2]
      have full : p.exts.take k = p.exts := List.take_of_length_le (by rw [L.out]; omega)
      rw [full] at hf
      have OK := Lib.hid (OKE.out.trans hf.out)
      have HB := Lib.hid hb
      have BW := Lib.hid (fun W (hW : Below w1.heap.size w1 W) => size_ref p E m ce A n c W (R0.out.below hW) HZ.out hm hn)
      have P2 := Lib.hid (K0.out.below hb K0.out.lt)
      clear hk2 hb full hf
      by_cases big : 65535 < n + behind p.exts
      · have bg : decide ((65535 : Int) < ((n + behind p.exts : Nat) : Int)) = true := by rw [decide_eq_true_eq]; omega
        have CK := Lib.hid (chk_two OK.out big)
        generalize ((n + behind p.exts : Nat) : Int) = S at *
        go_wp2_with (first
          | (refine Loads.wpList_load_w rfl 25 (.tmp 1) rfl w.heap.size rfl 25 #[.int .i64 p.cls, .int .i64 p.lab, .int .i64 p.hop, .string p.src, .string p.dst, .slice E m ce, .int .i64 p.next, .slice A n c] (0, 0) _ P2.out (Try.underlying25) rfl (by kernel_rfl) ?_))
        refine (BW.out _ HB.out).mono ?_
        rintro e w2 ⟨rfl, hb2⟩
        have B2 := Lib.hid (B0.out.trans ((HB.out.trans (hb2.mono HB.out.size)).mono B0.out.size))
        clear hb2
        go_wp2_with fail
        go_ret
        exact ⟨by rw [CK.out]; rfl, B2.out⟩
      · have bg : decide ((65535 : Int) < ((n + behind p.exts : Nat) : Int)) = false := by rw [decide_eq_false_iff_not]; omega
        have CK := Lib.hid (chk_ok (n := n) OK.out (by omega))
        generalize ((n + behind p.exts : Nat) : Int) = S at *
        go_wp2_with (first
          | (refine Loads.wpList_load_w rfl 25 (.tmp 1) rfl w.heap.size rfl 25 #[.int .i64 p.cls, .int .i64 p.lab, .int .i64 p.hop, .string p.src, .string p.dst, .slice E m ce, .int .i64 p.next, .slice A n c] (0, 0) _ P2.out (Try.underlying25) rfl (by kernel_rfl) ?_))
        refine (BW.out _ HB.out).mono ?_
        rintro e w2 ⟨rfl, hb2⟩
        have B2 := Lib.hid (B0.out.trans ((HB.out.trans (hb2.mono HB.out.size)).mono B0.out.size))
        clear hb2
        go_wp2_with fail
        go_ret
        exact ⟨by rw [CK.out]; rfl, B2.out⟩
    · have hlt : decide (k < m) = true := by rw [decide_eq_true_eq]; omega
      obtain ⟨a, q, d, rfl, hq, hab, c1, c2, c3⟩ := (R0.out.below hb).at_ (k := k) (by omega)
      have hi : k < m := by omega
      have SZ := HZ.out.at_ hq
      have AT := Lib.hid (allFit_take hq)
      have AN := Lib.hid (fun hf => allFit_no hq hf)
      have HB := Lib.hid hb
      have WS := Lib.hid (fun W => ext_ref q d k W (by omega) (by omega))
      clear hb hk2 hq
      cases hW : fits (q, d) (k == 0)
      · have CK := Lib.hid (chk_one (n := n) (OKE.out.trans (AN.out hW)))
        rw [hW] at WS
        clear hW
        go_wp2_with (first
          | (refine wpList_load_pair rfl _ rfl a k q d rfl c1 c2 ?_))
        refine (WS.out _).mono ?_
        rintro e w2 ⟨rfl, hb2⟩
        have B2 := Lib.hid (B0.out.trans ((HB.out.trans (hb2.mono HB.out.size)).mono B0.out.size))
        clear hb2
        go_wp2_with fail
        go_ret
        exact ⟨by rw [CK.out]; rfl, B2.out⟩
      · have NX := Lib.hid (AT.out.trans (by rw [hf.out, hW]))
        rw [hW] at WS
        clear hW
        go_wp2_with (first
          | (refine wpList_load_pair rfl _ rfl a k q d rfl c1 c2 ?_))
        refine (WS.out _).mono ?_
        rintro e w2 ⟨rfl, hb2⟩
        have B2 := Lib.hid (HB.out.trans (hb2.mono HB.out.size))
        clear hb2
        go_wp2_with fail
        go_roundw
        case rel => exact ⟨k + 1, by go_num, by omega, NX, B2.out⟩
        case measure => simp [intOf]; omega

theorem check_ref (p : Pkt) (E : Option Addr) (m ce : Nat) (A : Option Addr) (n c : Nat) (w : World) (hr : Row w (.slice E m ce) p.exts) (hz : Small p.exts) (hm : m ≤ 65536) (hn : n ≤ 1048576) :
    Calls Try.prog 10 #[.agg #[.int .i64 p.cls, .int .i64 p.lab, .int .i64 p.hop, .string p.src, .string p.dst, .slice E m ce, .int .i64 p.next, .slice A n c]] w (Ck p n w) := by
  cases h1 : wi p.cls 255
  · exact ck_cls p E m ce A n c w h1
  cases h3 : wi p.hop 255
  · exact ck_hop p E m ce A n c w h1 h3
  cases h4 : wi p.next 255
  · exact ck_nxt p E m ce A n c w h1 h3 h4
  cases h2 : wi p.lab 1048575
  · exact ck_lab p E m ce A n c w h1 h3 h4 h2
  by_cases h6 : p.src.size = 16
  · by_cases h7 : p.dst.size = 16
    · cases h5 : btw p.next
      · exact ck_rest p E m ce A n c w h1 h2 h3 h4 h5 h6 h7 hr hz hm hn
      · exact ck_btw p E m ce A n c w h1 h3 h4 h2 h6 h7 h5
    · exact ck_dst p E m ce A n c w h1 h3 h4 h2 h6 h7
  · exact ck_src p E m ce A n c w h1 h3 h4 h2 h6
end Go.Proofs.Ytjfieoleoodfdaa.CheckRef6
