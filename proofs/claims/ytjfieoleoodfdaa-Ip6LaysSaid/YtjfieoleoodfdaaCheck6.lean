/- Contracts: examine, Check of the code. -/
import Derived.Test.YtjfieoleoodfdaaKinds6
set_option linter.unusedVariables false
namespace Go.Proofs.Ytjfieoleoodfdaa.Check6
open Go.RowKit Go.Proofs.Ytjfieoleoodfdaa.Sums Go.Proofs.Ytjfieoleoodfdaa.Mem Go.Proofs.Ytjfieoleoodfdaa.P6 Go.Proofs.Ytjfieoleoodfdaa.Blk Go.Proofs.Ytjfieoleoodfdaa.Exts Go.Proofs.Ytjfieoleoodfdaa.Loads6 Go.Proofs.Ytjfieoleoodfdaa.Small6 Go.Proofs.Ytjfieoleoodfdaa.Behind6 Go.Proofs.Ytjfieoleoodfdaa.Kinds6 Go.Proofs.Ytjfieoleoodfdaa.Errno

theorem allFit_append (x : Int × ByteArray) : ∀ (a : P6.Exts) (f : Bool), allFit (a ++ [x]) f = (allFit a f && fits x (f && a.length == 0))
  | [], f => by simp [allFit]
  | y :: r, f => by
    rw [List.cons_append, allFit, allFit, allFit_append x r false, Bool.and_assoc]
    simp
theorem allFit_take {l : P6.Exts} {k : Nat} {q : Int} {d : ByteArray} (h : l[k]? = some (q, d)) : allFit (l.take (k + 1)) true = (allFit (l.take k) true && fits (q, d) (k == 0)) := by
  have hk := (List.getElem?_eq_some_iff.1 h).1
  rw [List.take_add_one, h]
  show allFit (l.take k ++ [(q, d)]) true = _
  rw [allFit_append, List.length_take, Nat.min_eq_left (by omega), Bool.true_and]
theorem allFit_split (b : P6.Exts) : ∀ (a : P6.Exts) (f : Bool), allFit (a ++ b) f = (allFit a f && allFit b (f && a.length == 0))
  | [], f => by simp [allFit]
  | y :: r, f => by
    rw [List.cons_append, allFit, allFit, allFit_split b r false, Bool.and_assoc]
    simp
theorem allFit_no {l : P6.Exts} {k : Nat} {q : Int} {d : ByteArray} (h : l[k]? = some (q, d)) (hf : fits (q, d) (k == 0) = false) : allFit l true = false := by
  have := allFit_split (l.drop (k + 1)) (l.take (k + 1)) true
  rw [List.take_append_drop, allFit_take h, hf] at this
  simpa using this

/-- What examine tells. -/
def Ex (p : Pkt) (n : Nat) (w : World) (e : Ending) (w' : World) : Prop := ((∃ s k, e = .returned (.iface 64 (.agg #[.string s, .iface 28 (.int .i64 k)])) ∧ p.chk n = k ∧ (k = 1 ∨ k = 2 ∨ k = 4 ∨ k = 8)) ∨ (e = .returned .nilIface ∧ p.chk n = 0)) ∧ Below w.heap.size w w'

theorem ex_cls (p : Pkt) (E : Option Addr) (m ce : Nat) (A : Option Addr) (n c : Nat) (w : World) (h1 : wi p.cls 255 = false) :
    Calls Try.prog 27 #[.agg #[.int .i64 p.cls, .int .i64 p.lab, .int .i64 p.hop, .string p.src, .string p.dst, .slice E m ce, .int .i64 p.next, .slice A n c]] w (Ex p n w) := by
  have K : Hid (p.chk n = 1) := Lib.hid (chk_one (by simp [Pkt.ok, h1]))
  have B0 := Lib.hid ((Below.refl w.heap.size w).alloc (Nat.le_refl _) (.cells #[.int .i64 p.cls, .int .i64 p.lab, .int .i64 p.hop, .string p.src, .string p.dst, .slice E m ce, .int .i64 p.next, .slice A n c] 25))
  go_enter Try.func27, Try.ntmps27
  go_wp2_with (first
    | (go_at_call 36; refine (within_any _ _ _).mono ?_; rintro e w' ⟨rfl, rfl⟩)
    | (go_at_call 13; refine (between_code _ _).mono ?_; rintro e w' ⟨rfl, rfl⟩))
  go_ret
  exact ⟨.inl ⟨_, 1, rfl, K.out, .inl rfl⟩, B0.out⟩

theorem ex_lab (p : Pkt) (E : Option Addr) (m ce : Nat) (A : Option Addr) (n c : Nat) (w : World) (h1 : wi p.cls 255 = true) (h2 : wi p.lab 1048575 = false) :
    Calls Try.prog 27 #[.agg #[.int .i64 p.cls, .int .i64 p.lab, .int .i64 p.hop, .string p.src, .string p.dst, .slice E m ce, .int .i64 p.next, .slice A n c]] w (Ex p n w) := by
  have K : Hid (p.chk n = 1) := Lib.hid (chk_one (by simp [Pkt.ok, h1, h2]))
  have B0 := Lib.hid ((Below.refl w.heap.size w).alloc (Nat.le_refl _) (.cells #[.int .i64 p.cls, .int .i64 p.lab, .int .i64 p.hop, .string p.src, .string p.dst, .slice E m ce, .int .i64 p.next, .slice A n c] 25))
  go_enter Try.func27, Try.ntmps27
  go_wp2_with (first
    | (go_at_call 36; refine (within_any _ _ _).mono ?_; rintro e w' ⟨rfl, rfl⟩)
    | (go_at_call 13; refine (between_code _ _).mono ?_; rintro e w' ⟨rfl, rfl⟩))
  go_ret
  exact ⟨.inl ⟨_, 1, rfl, K.out, .inl rfl⟩, B0.out⟩

theorem ex_hop (p : Pkt) (E : Option Addr) (m ce : Nat) (A : Option Addr) (n c : Nat) (w : World) (h1 : wi p.cls 255 = true) (h2 : wi p.lab 1048575 = true) (h3 : wi p.hop 255 = false) :
    Calls Try.prog 27 #[.agg #[.int .i64 p.cls, .int .i64 p.lab, .int .i64 p.hop, .string p.src, .string p.dst, .slice E m ce, .int .i64 p.next, .slice A n c]] w (Ex p n w) := by
  have K : Hid (p.chk n = 1) := Lib.hid (chk_one (by simp [Pkt.ok, h1, h2, h3]))
  have B0 := Lib.hid ((Below.refl w.heap.size w).alloc (Nat.le_refl _) (.cells #[.int .i64 p.cls, .int .i64 p.lab, .int .i64 p.hop, .string p.src, .string p.dst, .slice E m ce, .int .i64 p.next, .slice A n c] 25))
  go_enter Try.func27, Try.ntmps27
  go_wp2_with (first
    | (go_at_call 36; refine (within_any _ _ _).mono ?_; rintro e w' ⟨rfl, rfl⟩)
    | (go_at_call 13; refine (between_code _ _).mono ?_; rintro e w' ⟨rfl, rfl⟩))
  go_ret
  exact ⟨.inl ⟨_, 1, rfl, K.out, .inl rfl⟩, B0.out⟩

theorem ex_nxt (p : Pkt) (E : Option Addr) (m ce : Nat) (A : Option Addr) (n c : Nat) (w : World) (h1 : wi p.cls 255 = true) (h2 : wi p.lab 1048575 = true) (h3 : wi p.hop 255 = true) (h4 : wi p.next 255 = false) :
    Calls Try.prog 27 #[.agg #[.int .i64 p.cls, .int .i64 p.lab, .int .i64 p.hop, .string p.src, .string p.dst, .slice E m ce, .int .i64 p.next, .slice A n c]] w (Ex p n w) := by
  have K : Hid (p.chk n = 1) := Lib.hid (chk_one (by simp [Pkt.ok, h1, h2, h3, h4]))
  have B0 := Lib.hid ((Below.refl w.heap.size w).alloc (Nat.le_refl _) (.cells #[.int .i64 p.cls, .int .i64 p.lab, .int .i64 p.hop, .string p.src, .string p.dst, .slice E m ce, .int .i64 p.next, .slice A n c] 25))
  go_enter Try.func27, Try.ntmps27
  go_wp2_with (first
    | (go_at_call 36; refine (within_any _ _ _).mono ?_; rintro e w' ⟨rfl, rfl⟩)
    | (go_at_call 13; refine (between_code _ _).mono ?_; rintro e w' ⟨rfl, rfl⟩))
  go_ret
  exact ⟨.inl ⟨_, 1, rfl, K.out, .inl rfl⟩, B0.out⟩

theorem ex_btw (p : Pkt) (E : Option Addr) (m ce : Nat) (A : Option Addr) (n c : Nat) (w : World) (h1 : wi p.cls 255 = true) (h2 : wi p.lab 1048575 = true) (h3 : wi p.hop 255 = true) (h4 : wi p.next 255 = true) (h5 : btw p.next = true) :
    Calls Try.prog 27 #[.agg #[.int .i64 p.cls, .int .i64 p.lab, .int .i64 p.hop, .string p.src, .string p.dst, .slice E m ce, .int .i64 p.next, .slice A n c]] w (Ex p n w) := by
  have K : Hid (p.chk n = 1) := Lib.hid (chk_one (by simp [Pkt.ok, h1, h2, h3, h4, h5]))
  have B0 := Lib.hid ((Below.refl w.heap.size w).alloc (Nat.le_refl _) (.cells #[.int .i64 p.cls, .int .i64 p.lab, .int .i64 p.hop, .string p.src, .string p.dst, .slice E m ce, .int .i64 p.next, .slice A n c] 25))
  go_enter Try.func27, Try.ntmps27
  go_wp2_with (first
    | (go_at_call 36; refine (within_any _ _ _).mono ?_; rintro e w' ⟨rfl, rfl⟩)
    | (go_at_call 13; refine (between_code _ _).mono ?_; rintro e w' ⟨rfl, rfl⟩))
  go_ret
  exact ⟨.inl ⟨_, 1, rfl, K.out, .inl rfl⟩, B0.out⟩

theorem ex_src (p : Pkt) (E : Option Addr) (m ce : Nat) (A : Option Addr) (n c : Nat) (w : World) (h1 : wi p.cls 255 = true) (h2 : wi p.lab 1048575 = true) (h3 : wi p.hop 255 = true) (h4 : wi p.next 255 = true) (h5 : btw p.next = false) (h6 : p.src.size ≠ 16) :
    Calls Try.prog 27 #[.agg #[.int .i64 p.cls, .int .i64 p.lab, .int .i64 p.hop, .string p.src, .string p.dst, .slice E m ce, .int .i64 p.next, .slice A n c]] w (Ex p n w) := by
  have K : Hid (p.chk n = 1) := Lib.hid (chk_one (by simp [Pkt.ok, h1, h2, h3, h4, h5, h6]))
  have B0 := Lib.hid ((Below.refl w.heap.size w).alloc (Nat.le_refl _) (.cells #[.int .i64 p.cls, .int .i64 p.lab, .int .i64 p.hop, .string p.src, .string p.dst, .slice E m ce, .int .i64 p.next, .slice A n c] 25))
  have h6b : ((p.src.size : Int) != 16) = true := by rw [bne_iff_ne]; omega
  go_enter Try.func27, Try.ntmps27
  go_wp2_with (first
    | (go_at_call 36; refine (within_any _ _ _).mono ?_; rintro e w' ⟨rfl, rfl⟩)
    | (go_at_call 13; refine (between_code _ _).mono ?_; rintro e w' ⟨rfl, rfl⟩))
  go_ret
  exact ⟨.inl ⟨_, 1, rfl, K.out, .inl rfl⟩, B0.out⟩

theorem ex_dst (p : Pkt) (E : Option Addr) (m ce : Nat) (A : Option Addr) (n c : Nat) (w : World) (h1 : wi p.cls 255 = true) (h2 : wi p.lab 1048575 = true) (h3 : wi p.hop 255 = true) (h4 : wi p.next 255 = true) (h5 : btw p.next = false) (h6 : p.src.size = 16) (h7 : p.dst.size ≠ 16) :
    Calls Try.prog 27 #[.agg #[.int .i64 p.cls, .int .i64 p.lab, .int .i64 p.hop, .string p.src, .string p.dst, .slice E m ce, .int .i64 p.next, .slice A n c]] w (Ex p n w) := by
  have K : Hid (p.chk n = 1) := Lib.hid (chk_one (by simp [Pkt.ok, h1, h2, h3, h4, h5, h6, h7]))
  have B0 := Lib.hid ((Below.refl w.heap.size w).alloc (Nat.le_refl _) (.cells #[.int .i64 p.cls, .int .i64 p.lab, .int .i64 p.hop, .string p.src, .string p.dst, .slice E m ce, .int .i64 p.next, .slice A n c] 25))
  have h6b : ((p.src.size : Int) != 16) = false := by rw [bne_eq_false_iff_eq]; omega
  have h7b : ((p.dst.size : Int) != 16) = true := by rw [bne_iff_ne]; omega
  go_enter Try.func27, Try.ntmps27
  go_wp2_with (first
    | (go_at_call 36; refine (within_any _ _ _).mono ?_; rintro e w' ⟨rfl, rfl⟩)
    | (go_at_call 13; refine (between_code _ _).mono ?_; rintro e w' ⟨rfl, rfl⟩))
  go_ret
  exact ⟨.inl ⟨_, 1, rfl, K.out, .inl rfl⟩, B0.out⟩


set_option maxHeartbeats 1000000 in
theorem ex_rest (p : Pkt) (E : Option Addr) (m ce : Nat) (A : Option Addr) (n c : Nat) (w : World) (h1 : wi p.cls 255 = true) (h2 : wi p.lab 1048575 = true) (h3 : wi p.hop 255 = true) (h4 : wi p.next 255 = true) (h5 : btw p.next = false) (h6 : p.src.size = 16) (h7 : p.dst.size = 16)
    (hr : Row w (.slice E m ce) p.exts) (hz : Small p.exts) (hm : m ≤ 65536) (hn : n ≤ 1048576) :
    Calls Try.prog 27 #[.agg #[.int .i64 p.cls, .int .i64 p.lab, .int .i64 p.hop, .string p.src, .string p.dst, .slice E m ce, .int .i64 p.next, .slice A n c]] w (Ex p n w) := by
  have h6b : ((p.src.size : Int) != 16) = false := by rw [bne_eq_false_iff_eq]; omega
  have h7b : ((p.dst.size : Int) != 16) = false := by rw [bne_eq_false_iff_eq]; omega
  have OKE : Hid (p.ok = allFit p.exts true) := Lib.hid (by simp [Pkt.ok, h1, h2, h3, h4, h5, h6, h7])
  have L := Lib.hid hr.len
  have B0 := Lib.hid ((Below.refl w.heap.size w).alloc (Nat.le_refl _) (.cells #[.int .i64 p.cls, .int .i64 p.lab, .int .i64 p.hop, .string p.src, .string p.dst, .slice E m ce, .int .i64 p.next, .slice A n c] 25))
  have K0 := Lib.hid (Blk.new w 25 #[.int .i64 p.cls, .int .i64 p.lab, .int .i64 p.hop, .string p.src, .string p.dst, .slice E m ce, .int .i64 p.next, .slice A n c])
  have R0 := Lib.hid (hr.below B0.out)
  have HZ := Lib.hid hz
  clear hr hz
  go_enter Try.func27, Try.ntmps27
  go_wp2_with (first
    | (go_at_call 36; refine (within_any _ _ _).mono ?_; rintro e w' ⟨rfl, rfl⟩)
    | (go_at_call 13; refine (between_code _ _).mono ?_; rintro e w' ⟨rfl, rfl⟩))
  clear h1 h2 h3 h4 h5 h6b h7b h6 h7
  generalize w.alloc (.cells #[.int .i64 p.cls, .int .i64 p.lab, .int .i64 p.hop, .string p.src, .string p.dst, .slice E m ce, .int .i64 p.next, .slice A n c] 25) = w1 at *
  go_loopw [59] (fun i wr => ∃ k : Nat, i = .int .i64 (k : Int) ∧ k ≤ m ∧ Hid (allFit (p.exts.take k) true = true) ∧ Below w1.heap.size w1 wr) (fun i _ => m - (intOf i).toNat)
  case atStart => exact ⟨0, rfl, by omega, Lib.hid rfl, Below.refl _ _⟩
  case round =>
    obtain ⟨k, rfl, hk, hf, hb⟩ := hrel
    by_cases hk2 : k = m
    · have hlt : decide (k < m) = false := by simp [hk2]
      have full : p.exts.take k = p.exts := List.take_of_length_le (by rw [L.out]; omega)
      rw [full] at hf
      have OK := Lib.hid (OKE.out.trans hf.out)
      have HB := Lib.hid hb
      have BW := Lib.hid (fun W (hW : Below w1.heap.size w1 W) => behind_code p E m ce A n c W (R0.out.below hW) HZ.out hm hn)
      have P2 := Lib.hid (K0.out.below hb K0.out.lt)
      clear hk2 hb full hf
      by_cases big : 65535 < n + behind p.exts
      · have bg : decide ((65535 : Int) < ((n + behind p.exts : Nat) : Int)) = true := by rw [decide_eq_true_eq]; omega
        have CK := Lib.hid (chk_two OK.out big)
        generalize ((n + behind p.exts : Nat) : Int) = S at *
        go_wp2_with (first
          | (refine Loads.wpList_load_w rfl _ _ rfl w.heap.size rfl 25 #[.int .i64 p.cls, .int .i64 p.lab, .int .i64 p.hop, .string p.src, .string p.dst, .slice E m ce, .int .i64 p.next, .slice A n c] (0, 0) _ P2.out (Try.underlying25) rfl (by kernel_rfl) ?_))
        refine (BW.out _ HB.out).mono ?_
        rintro e w2 ⟨rfl, hb2⟩
        have B2 := Lib.hid (B0.out.trans ((HB.out.trans (hb2.mono HB.out.size)).mono B0.out.size))
        clear hb2
        go_wp2_with fail
        go_ret
        exact ⟨.inl ⟨_, 2, rfl, CK.out, .inr (.inl rfl)⟩, B2.out⟩
      · have bg : decide ((65535 : Int) < ((n + behind p.exts : Nat) : Int)) = false := by rw [decide_eq_false_iff_not]; omega
        have CK := Lib.hid (chk_ok (n := n) OK.out (by omega))
        generalize ((n + behind p.exts : Nat) : Int) = S at *
        go_wp2_with (first
          | (refine Loads.wpList_load_w rfl _ _ rfl w.heap.size rfl 25 #[.int .i64 p.cls, .int .i64 p.lab, .int .i64 p.hop, .string p.src, .string p.dst, .slice E m ce, .int .i64 p.next, .slice A n c] (0, 0) _ P2.out (Try.underlying25) rfl (by kernel_rfl) ?_))
        refine (BW.out _ HB.out).mono ?_
        rintro e w2 ⟨rfl, hb2⟩
        have B2 := Lib.hid (B0.out.trans ((HB.out.trans (hb2.mono HB.out.size)).mono B0.out.size))
        clear hb2
        go_wp2_with fail
        go_ret
        exact ⟨.inr ⟨rfl, CK.out⟩, B2.out⟩
    · have hlt : decide (k < m) = true := by rw [decide_eq_true_eq]; omega
      obtain ⟨a, q, d, rfl, hq, hab, c1, c2, c3⟩ := (R0.out.below hb).at_ (k := k) (by omega)
      have hi : k < m := by omega
      have SZ := HZ.out.at_ hq
      have AT := Lib.hid (allFit_take hq)
      have AN := Lib.hid (fun hf => allFit_no hq hf)
      have FW := Lib.hid (fits_ws (q, d) k)
      have HB := Lib.hid hb
      have BB := Lib.hid (HB.out.alloc HB.out.size (.cells #[.int .i64 q, .string d] 43))
      have X2 := Lib.hid (Blk.new wr 43 #[.int .i64 q, .string d])
      have WS := Lib.hid (fun W => wellSized_any q d W (by omega))
      have MI := Lib.hid (fun W => misplaced_any q (k : Int) W)
      have BT := Lib.hid (fun W => between_code q W)
      have BF := Lib.hid (B0.out.trans (BB.out.mono B0.out.size))
      have GO : Hid (∀ W, Below w.heap.size w W → fits (q, d) (k == 0) = false → ∀ s, Ex p n w (.returned (.iface 64 (.agg #[.string s, .iface 28 (.int .i64 1)]))) W) := Lib.hid (fun W hW hF s => ⟨.inl ⟨s, 1, rfl, chk_one (OKE.out.trans (AN.out hF)), .inl rfl⟩, hW⟩)
      have hbs := HB.out.size
      clear hb hk2 hq
      cases hB : btw q
      · have FF := Lib.hid (FW.out.trans (by simp only [hB]; rfl))
        rw [hB] at BT
        clear hB
        go_wp2_with (first
          | (refine wpList_load_pair rfl _ rfl a k q d rfl c1 c2 ?_))
        refine (BT.out _).mono ?_
        rintro e w2 ⟨rfl, rfl⟩
        go_wp2_with fail
        go_ret
        exact GO.out _ BF.out FF.out _
      rw [hB] at BT
      cases hM : mis q (k : Int)
      · rw [hM] at MI
        cases hW : ws (q, d)
        · have FF := Lib.hid (FW.out.trans (by simp only [hB, hM, hW]; rfl))
          rw [hW] at WS
          clear hB hM hW
          go_wp2_with (first
            | (refine wpList_load_pair rfl _ rfl a k q d rfl c1 c2 ?_))
          refine (BT.out _).mono ?_
          rintro e w2 ⟨rfl, rfl⟩
          go_wp2_with fail
          refine (MI.out _).mono ?_
          rintro e w2 ⟨rfl, rfl⟩
          go_wp2_with fail
          refine (WS.out _).mono ?_
          rintro e w2 ⟨rfl, hb2⟩
          have B2 := Lib.hid (BF.out.trans (hb2.mono BF.out.size))
          clear hb2
          go_wp2_with fail
          go_ret
          exact GO.out _ B2.out FF.out _
        · have FF := Lib.hid (FW.out.trans (by simp only [hB, hM, hW]; rfl))
          have NX := Lib.hid (AT.out.trans (by rw [hf.out, FF.out]))
          rw [hW] at WS
          clear hB hM hW
          go_wp2_with (first
            | (refine wpList_load_pair rfl _ rfl a k q d rfl c1 c2 ?_))
          refine (BT.out _).mono ?_
          rintro e w2 ⟨rfl, rfl⟩
          go_wp2_with fail
          refine (MI.out _).mono ?_
          rintro e w2 ⟨rfl, rfl⟩
          go_wp2_with fail
          refine (WS.out _).mono ?_
          rintro e w2 ⟨rfl, hb2⟩
          have B2 := Lib.hid (BB.out.trans (hb2.mono BB.out.size))
          clear hb2
          go_wp2_with fail
          go_roundw
          case rel => exact ⟨k + 1, by go_num, by omega, NX, B2.out⟩
          case measure => simp [intOf]; omega
      · have FF := Lib.hid (FW.out.trans (by simp only [hB, hM]; rfl))
        rw [hM] at MI
        clear hB hM
        go_wp2_with (first
          | (refine wpList_load_pair rfl _ rfl a k q d rfl c1 c2 ?_))
        refine (BT.out _).mono ?_
        rintro e w2 ⟨rfl, rfl⟩
        go_wp2_with fail
        refine (MI.out _).mono ?_
        rintro e w2 ⟨rfl, rfl⟩
        go_wp2_with fail
        go_ret
        exact GO.out _ BF.out FF.out _

theorem examine_any (p : Pkt) (E : Option Addr) (m ce : Nat) (A : Option Addr) (n c : Nat) (w : World) (hr : Row w (.slice E m ce) p.exts) (hz : Small p.exts) (hm : m ≤ 65536) (hn : n ≤ 1048576) :
    Calls Try.prog 27 #[.agg #[.int .i64 p.cls, .int .i64 p.lab, .int .i64 p.hop, .string p.src, .string p.dst, .slice E m ce, .int .i64 p.next, .slice A n c]] w (Ex p n w) := by
  cases h1 : wi p.cls 255
  · exact ex_cls p E m ce A n c w h1
  cases h2 : wi p.lab 1048575
  · exact ex_lab p E m ce A n c w h1 h2
  cases h3 : wi p.hop 255
  · exact ex_hop p E m ce A n c w h1 h2 h3
  cases h4 : wi p.next 255
  · exact ex_nxt p E m ce A n c w h1 h2 h3 h4
  cases h5 : btw p.next
  · by_cases h6 : p.src.size = 16
    · by_cases h7 : p.dst.size = 16
      · exact ex_rest p E m ce A n c w h1 h2 h3 h4 h5 h6 h7 hr hz hm hn
      · exact ex_dst p E m ce A n c w h1 h2 h3 h4 h5 h6 h7
    · exact ex_src p E m ce A n c w h1 h2 h3 h4 h5 h6
  · exact ex_btw p E m ce A n c w h1 h2 h3 h4 h5

theorem check_code (p : Pkt) (E : Option Addr) (m ce : Nat) (A : Option Addr) (n c : Nat) (w : World) (hr : Row w (.slice E m ce) p.exts) (hz : Small p.exts) (hm : m ≤ 65536) (hn : n ≤ 1048576) :
    Calls Try.prog 11 #[.agg #[.int .i64 p.cls, .int .i64 p.lab, .int .i64 p.hop, .string p.src, .string p.dst, .slice E m ce, .int .i64 p.next, .slice A n c]] w fun e w' => e = .returned (.int .i64 (p.chk n)) ∧ Below w.heap.size w w' := by
  have B0 := Lib.hid ((Below.refl w.heap.size w).alloc (Nat.le_refl _) (.cells #[.int .i64 p.cls, .int .i64 p.lab, .int .i64 p.hop, .string p.src, .string p.dst, .slice E m ce, .int .i64 p.next, .slice A n c] 25))
  have X := Lib.hid (examine_any p E m ce A n c _ (hr.below B0.out) hz hm hn)
  clear hr hz
  go_enter Try.func11, Try.ntmps11
  go_wp2_with fail
  refine X.out.mono ?_
  rintro e w1 ⟨he, hb⟩
  have B1 := Lib.hid (B0.out.trans (hb.mono B0.out.size))
  clear hb
  rcases he with ⟨s, k, rfl, hk, hkk⟩ | ⟨rfl, hk⟩
  · have H := Lib.hid hk
    have EF := Lib.hid (errno_fault s k w1 hkk)
    clear hk hkk
    go_wp2_with fail
    refine EF.out.mono ?_
    rintro e w2 ⟨rfl, hb2⟩
    go_wp2_with fail
    go_ret
    exact ⟨by rw [H.out]; rfl, B1.out.trans (hb2.mono B1.out.size)⟩
  · have H := Lib.hid hk
    clear hk
    go_wp2_with fail
    refine (errno_nil w1).mono ?_
    rintro e w2 ⟨rfl, hb2⟩
    go_wp2_with fail
    go_ret
    exact ⟨by rw [H.out]; rfl, B1.out.trans (hb2.mono B1.out.size)⟩
end Go.Proofs.Ytjfieoleoodfdaa.Check6
