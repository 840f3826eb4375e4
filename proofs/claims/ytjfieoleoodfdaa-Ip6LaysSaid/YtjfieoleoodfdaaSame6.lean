/- Contracts of the document's Same and of the law's few. -/
import Derived.Test.YtjfieoleoodfdaaBytes6
set_option linter.unusedVariables false
namespace Go.Proofs.Ytjfieoleoodfdaa.Same6
open Go.RowKit Go.Proofs.Ytjfieoleoodfdaa.Sums Go.Proofs.Ytjfieoleoodfdaa.Mem Go.Proofs.Ytjfieoleoodfdaa.P6 Go.Proofs.Ytjfieoleoodfdaa.Blk Go.Proofs.Ytjfieoleoodfdaa.Small6 Go.Proofs.Ytjfieoleoodfdaa.Loads6 Go.Proofs.Ytjfieoleoodfdaa.Exts Go.Proofs.Ytjfieoleoodfdaa.Opts

theorem same_yes (p : Pkt) (E : Option Addr) (m ce : Nat) (A : Option Addr) (n c : Nat) (E2 : Option Addr) (m2 ce2 : Nat) (A2 : Option Addr) (n2 c2 : Nat) (B : Nat) (l : List Int) (w : World) (hr : Row w (.slice E m ce) p.exts) (hr2 : Row w (.slice E2 m2 ce2) p.exts) (h : Holds w B A n c l) (h2 : Holds w B A2 n2 c2 l) (hB : B ≤ w.heap.size) (hm : m ≤ 1048576) :
    Calls Try.prog 12 #[.agg #[.int .i64 p.cls, .int .i64 p.lab, .int .i64 p.hop, .string p.src, .string p.dst, .slice E m ce, .int .i64 p.next, .slice A n c], .agg #[.int .i64 p.cls, .int .i64 p.lab, .int .i64 p.hop, .string p.src, .string p.dst, .slice E2 m2 ce2, .int .i64 p.next, .slice A2 n2 c2]] w fun e w' => e = .returned (.bool true) ∧ Below w.heap.size w w' := by
  have B0 := Lib.hid (((Below.refl w.heap.size w).alloc (Nat.le_refl _) (.cells #[.int .i64 p.cls, .int .i64 p.lab, .int .i64 p.hop, .string p.src, .string p.dst, .slice E m ce, .int .i64 p.next, .slice A n c] 25)).alloc (by simp) (.cells #[.int .i64 p.cls, .int .i64 p.lab, .int .i64 p.hop, .string p.src, .string p.dst, .slice E2 m2 ce2, .int .i64 p.next, .slice A2 n2 c2] 25))
  have K1 := Lib.hid ((Blk.new w 25 #[.int .i64 p.cls, .int .i64 p.lab, .int .i64 p.hop, .string p.src, .string p.dst, .slice E m ce, .int .i64 p.next, .slice A n c]).alloc (.cells #[.int .i64 p.cls, .int .i64 p.lab, .int .i64 p.hop, .string p.src, .string p.dst, .slice E2 m2 ce2, .int .i64 p.next, .slice A2 n2 c2] 25))
  have K2 : Hid (Blk ((w.alloc (.cells #[.int .i64 p.cls, .int .i64 p.lab, .int .i64 p.hop, .string p.src, .string p.dst, .slice E m ce, .int .i64 p.next, .slice A n c] 25)).alloc (.cells #[.int .i64 p.cls, .int .i64 p.lab, .int .i64 p.hop, .string p.src, .string p.dst, .slice E2 m2 ce2, .int .i64 p.next, .slice A2 n2 c2] 25)) (w.heap.size + 1) 25 #[.int .i64 p.cls, .int .i64 p.lab, .int .i64 p.hop, .string p.src, .string p.dst, .slice E2 m2 ce2, .int .i64 p.next, .slice A2 n2 c2]) := Lib.hid (by simpa using Blk.new (w.alloc (.cells #[.int .i64 p.cls, .int .i64 p.lab, .int .i64 p.hop, .string p.src, .string p.dst, .slice E m ce, .int .i64 p.next, .slice A n c] 25)) 25 #[.int .i64 p.cls, .int .i64 p.lab, .int .i64 p.hop, .string p.src, .string p.dst, .slice E2 m2 ce2, .int .i64 p.next, .slice A2 n2 c2])
  have EX := Lib.hid (exts_any _ _ _ _ _ (hr.below B0.out) (hr2.below B0.out) (by rw [hr.len]; exact hm))
  have H1 := Lib.hid (h.below (B0.out.mono hB))
  have H2 := Lib.hid (h2.below (B0.out.mono hB))
  have hBs := hB
  clear hr hr2 h h2 hB
  go_enter Try.func12, Try.ntmps12
  go_wp2_with fail
  generalize (w.alloc (.cells #[.int .i64 p.cls, .int .i64 p.lab, .int .i64 p.hop, .string p.src, .string p.dst, .slice E m ce, .int .i64 p.next, .slice A n c] 25)).alloc (.cells #[.int .i64 p.cls, .int .i64 p.lab, .int .i64 p.hop, .string p.src, .string p.dst, .slice E2 m2 ce2, .int .i64 p.next, .slice A2 n2 c2] 25) = w1 at *
  refine EX.out.mono ?_
  rintro e w2 ⟨he, hb⟩
  obtain rfl : e = .returned (.bool true) := he.trans (by simp)
  have B2 := Lib.hid (B0.out.trans (hb.mono B0.out.size))
  have k1 := (K1.out.below hb K1.out.lt).cell 7
  have k2 := (K2.out.below hb K2.out.lt).cell 7
  have v1 := run_string_bytes (H1.out.below (hb.mono (Nat.le_trans hBs B0.out.size)))
  have v2 := run_string_bytes (H2.out.below (hb.mono (Nat.le_trans hBs B0.out.size)))
  clear hb EX he
  go_wp2_with fail
  go_ret
  exact ⟨rfl, B2.out⟩

/-- Is a packet small enough? -/
def frontB (p : Pkt) (m n : Nat) : Bool := decide (p.src.size + p.dst.size ≤ 300) && (decide (m ≤ 40) && ((decide (n ≤ 2000) || decide (63000 ≤ n)) && decide (n ≤ 66000)))
def thin : P6.Exts → Bool
  | [] => true
  | x :: r => decide (x.2.size ≤ 2100) && thin r
theorem thin_append : ∀ a b : P6.Exts, thin (a ++ b) = (thin a && thin b)
  | [], b => by simp [thin]
  | x :: r, b => by rw [List.cons_append, thin, thin, thin_append r b, Bool.and_assoc]
theorem thin_take {l : P6.Exts} {k : Nat} {q : Int} {d : ByteArray} (h : l[k]? = some (q, d)) : thin (l.take (k + 1)) = (thin (l.take k) && decide (d.size ≤ 2100)) := by
  rw [List.take_add_one, h, thin_append]
  simp [thin]
theorem thin_no {l : P6.Exts} {k : Nat} {q : Int} {d : ByteArray} (h : l[k]? = some (q, d)) (hd : 2100 < d.size) : thin l = false := by
  have := thin_append (l.take (k + 1)) (l.drop (k + 1))
  rw [List.take_append_drop, thin_take h] at this
  rw [this]
  have : decide (d.size ≤ 2100) = false := by rw [decide_eq_false_iff_not]; omega
  rw [this]; simp
theorem thin_small : ∀ {l : P6.Exts}, thin l = true → Small l
  | [], _ => fun _ h => by cases h
  | x :: r, h => fun y hy => by
    rw [thin, Bool.and_eq_true, decide_eq_true_eq] at h
    rcases List.mem_cons.1 hy with rfl | hy
    · have := h.1; omega
    · exact thin_small h.2 y hy
def fewB (p : Pkt) (n : Nat) : Bool := frontB p p.exts.length n && thin p.exts
theorem few_true {p : Pkt} {n : Nat} (h : fewB p n = true) : p.src.size + p.dst.size ≤ 300 ∧ p.exts.length ≤ 40 ∧ n ≤ 66000 ∧ Small p.exts := by
  unfold fewB frontB at h
  simp only [Bool.and_eq_true, Bool.or_eq_true, decide_eq_true_eq] at h
  exact ⟨h.1.1, h.1.2.1, h.1.2.2.2, thin_small h.2⟩
def Big (l : P6.Exts) : Prop := ∀ x ∈ l, x.2.size ≤ 140737488355328

/-- What few tells. -/
def Fw (p : Pkt) (n : Nat) (w : World) (e : Ending) (w' : World) : Prop := e = .returned (.bool (fewB p n)) ∧ Below w.heap.size w w'
set_option maxHeartbeats 1000000 in
theorem few_front (p : Pkt) (E : Option Addr) (m ce : Nat) (A : Option Addr) (n c : Nat) (w : World) (hL : p.exts.length = m) (hf : frontB p m n = false) (h1 : p.src.size ≤ 140737488355328) (h2 : p.dst.size ≤ 140737488355328) (h3 : m ≤ 140737488355328) (h4 : n ≤ 140737488355328) :
    Calls Try.prog 7 #[.agg #[.int .i64 p.cls, .int .i64 p.lab, .int .i64 p.hop, .string p.src, .string p.dst, .slice E m ce, .int .i64 p.next, .slice A n c]] w (Fw p n w) := by
  have FF : Hid (fewB p n = false) := Lib.hid (by unfold fewB; rw [hL, hf]; rfl)
  have B0 := Lib.hid ((Below.refl w.heap.size w).alloc (Nat.le_refl _) (.cells #[.int .i64 p.cls, .int .i64 p.lab, .int .i64 p.hop, .string p.src, .string p.dst, .slice E m ce, .int .i64 p.next, .slice A n c] 25))
  unfold Fw
  rw [FF.out]
  unfold frontB at hf
  clear hL
  by_cases q1 : p.src.size + p.dst.size ≤ 300
  · by_cases q2 : m ≤ 40
    · by_cases q3 : 2000 < n ∧ n < 63000
      · obtain ⟨q3, q4⟩ := q3
        clear hf
        go_enter Try.func7, Try.ntmps7
        go_wp2_with fail
        go_ret
        exact ⟨rfl, B0.out⟩
      · have q5 : 66000 < n := by
          simp [q1, q2] at hf
          omega
        clear hf q3
        go_enter Try.func7, Try.ntmps7
        go_wp2_with fail
        go_ret
        exact ⟨rfl, B0.out⟩
    · clear hf
      go_enter Try.func7, Try.ntmps7
      go_wp2_with fail
      go_ret
      exact ⟨rfl, B0.out⟩
  · clear hf
    go_enter Try.func7, Try.ntmps7
    go_wp2_with fail
    go_ret
    exact ⟨rfl, B0.out⟩

set_option maxHeartbeats 2000000 in
theorem few_rest (p : Pkt) (E : Option Addr) (m ce : Nat) (A : Option Addr) (n c : Nat) (w : World) (hr : Row w (.slice E m ce) p.exts) (hf : frontB p m n = true) (hz : Big p.exts) :
    Calls Try.prog 7 #[.agg #[.int .i64 p.cls, .int .i64 p.lab, .int .i64 p.hop, .string p.src, .string p.dst, .slice E m ce, .int .i64 p.next, .slice A n c]] w (Fw p n w) := by
  have L := Lib.hid hr.len
  have FF : Hid (fewB p n = thin p.exts) := Lib.hid (by unfold fewB; rw [L.out, hf]; rfl)
  have B0 := Lib.hid ((Below.refl w.heap.size w).alloc (Nat.le_refl _) (.cells #[.int .i64 p.cls, .int .i64 p.lab, .int .i64 p.hop, .string p.src, .string p.dst, .slice E m ce, .int .i64 p.next, .slice A n c] 25))
  have K0 := Lib.hid (Blk.new w 25 #[.int .i64 p.cls, .int .i64 p.lab, .int .i64 p.hop, .string p.src, .string p.dst, .slice E m ce, .int .i64 p.next, .slice A n c])
  have R0 := Lib.hid (hr.below B0.out)
  have HZ := Lib.hid hz
  unfold frontB at hf
  simp only [Bool.and_eq_true, Bool.or_eq_true, decide_eq_true_eq] at hf
  obtain ⟨f1, f2, f3, f4⟩ := hf
  unfold Fw
  rw [FF.out]
  clear hr hz
  rcases f3 with f3 | f3
  all_goals
    go_enter Try.func7, Try.ntmps7
    go_wp2_with fail
    generalize w.alloc (.cells #[.int .i64 p.cls, .int .i64 p.lab, .int .i64 p.hop, .string p.src, .string p.dst, .slice E m ce, .int .i64 p.next, .slice A n c] 25) = w1 at *
    go_loopw [3] (fun i wr => ∃ k : Nat, i = .int .i64 (k : Int) ∧ k ≤ m ∧ Hid (thin (p.exts.take k) = true) ∧ Below w1.heap.size w1 wr) (fun i _ => m - (intOf i).toNat)
    case atStart => exact ⟨0, rfl, by omega, Lib.hid rfl, Below.refl _ _⟩
    case round =>
      obtain ⟨k, rfl, hk, ht, hb⟩ := hrel
      have x5 := (K0.out.below hb K0.out.lt).cell 5
      by_cases hk2 : k = m
      · have hlt : decide (k < m) = false := by simp [hk2]
        have full : p.exts.take k = p.exts := List.take_of_length_le (by rw [L.out]; omega)
        rw [full] at ht
        have HB := Lib.hid hb
        clear hk2 hb full
        go_wp2_with fail
        go_ret
        exact ⟨by rw [ht.out]; rfl, B0.out.trans (HB.out.mono B0.out.size)⟩
      · have hlt : decide (k < m) = true := by rw [decide_eq_true_eq]; omega
        obtain ⟨a, q, d, rfl, hq, hab, c1, c2, c3⟩ := (R0.out.below hb).at_ (k := k) (by omega)
        have hi : k < m := by omega
        have SZ : d.size ≤ 140737488355328 := HZ.out _ (List.mem_of_getElem? hq)
        have TT := Lib.hid (thin_take hq)
        have TN := Lib.hid (fun hd => thin_no hq hd)
        have HB := Lib.hid hb
        clear hq hb hk2
        by_cases h21 : 2100 < d.size
        · have NO := Lib.hid (TN.out h21)
          clear TN
          go_wp2_with fail
          go_ret
          exact ⟨by rw [NO.out]; rfl, B0.out.trans (HB.out.mono B0.out.size)⟩
        · have NX : Hid (thin (p.exts.take (k + 1)) = true) := Lib.hid (by rw [TT.out, ht.out]; simp; omega)
          clear TN
          go_wp2_with fail
          go_roundw
          case rel => exact ⟨k + 1, by go_num, by omega, NX, HB.out⟩
          case measure => simp [intOf]; omega

theorem few_any (p : Pkt) (E : Option Addr) (m ce : Nat) (A : Option Addr) (n c : Nat) (w : World) (hr : Row w (.slice E m ce) p.exts) (hz : Big p.exts) (h1 : p.src.size ≤ 140737488355328) (h2 : p.dst.size ≤ 140737488355328) (h3 : m ≤ 140737488355328) (h4 : n ≤ 140737488355328) :
    Calls Try.prog 7 #[.agg #[.int .i64 p.cls, .int .i64 p.lab, .int .i64 p.hop, .string p.src, .string p.dst, .slice E m ce, .int .i64 p.next, .slice A n c]] w (Fw p n w) := by
  cases hf : frontB p m n with
  | false => exact few_front p E m ce A n c w hr.len hf h1 h2 h3 h4
  | true => exact few_rest p E m ce A n c w hr hf hz
end Go.Proofs.Ytjfieoleoodfdaa.Same6
