/- The contracts of the document's Stream and Turn, where they refuse; Stream, where it answers. -/
import Derived.Test.YtdnkbefpbehllaaDoorM18
import Derived.Test.YtdnkbefpbehllaaDoorM33
import Derived.Test.YtdnkbefpbehllaaDoorM16
import Derived.Test.YtdnkbefpbehllaaDoorM15
import Derived.Test.YtdnkbefpbehllaaDoorM32
import Derived.LoopTactic
set_option linter.unusedVariables false
namespace Go.Proofs.YtdnkbefpbehllaaDoor.CtrR
open Go.RowKit Go.PlainAid Go.Proofs.YtdnkbefpbehllaaDoor.Sums Go.Proofs.YtdnkbefpbehllaaDoor.Mem Go.Proofs.YtdnkbefpbehllaaDoor.Blk Go.Proofs.YtdnkbefpbehllaaDoor.Bits3 Go.Proofs.YtdnkbefpbehllaaDoor.Ints Go.Proofs.YtdnkbefpbehllaaDoor.CutA Go.Proofs.YtdnkbefpbehllaaDoor.AesF Go.Proofs.YtdnkbefpbehllaaDoor.CtrD Go.Proofs.YtdnkbefpbehllaaDoor.AesB Go.Proofs.YtdnkbefpbehllaaDoor.AesK Go.Proofs.YtdnkbefpbehllaaDoor.AesR2 Go.Proofs.YtdnkbefpbehllaaDoor.AesR3 Go.Proofs.YtdnkbefpbehllaaDoor.AesKy Go.Proofs.YtdnkbefpbehllaaDoor.AesBy Go.Proofs.YtdnkbefpbehllaaDoor.Ctr1

theorem cut_h (A : Option Addr) (n c h : Nat) (w : World) (h2 : h ≤ c) : (Instr.sliceAt 25 (.slice A n c) none (some (.int .i64 (h : Int))) none).run Tryd.prog w = .ok (.slice A h c) w := by
  have e := run_slice_h (P := Tryd.prog) (w := w) (t := 25) (a := A) (len := n) (cap := c) (ht := (by kernel_rfl)) .i64 (h : Int) (by omega) (by omega)
  rw [run_sliceAt_slice (P := Tryd.prog) (h := (by kernel_rfl)), e, byte_elem]
  have a0 : ∀ a : Addr, a.add 0 = a := fun a => by unfold Addr.add; simp
  simp [sliced, a0]

end Go.Proofs.YtdnkbefpbehllaaDoor.CtrR

/- The contract of the document's Turn, where it answers. -/
set_option linter.unusedVariables false
namespace Go.Proofs.YtdnkbefpbehllaaDoor.CtrT
open Go.RowKit Go.PlainAid Go.Proofs.YtdnkbefpbehllaaDoor.Sums Go.Proofs.YtdnkbefpbehllaaDoor.Mem Go.Proofs.YtdnkbefpbehllaaDoor.Blk Go.Proofs.YtdnkbefpbehllaaDoor.Bits3 Go.Proofs.YtdnkbefpbehllaaDoor.Ints Go.Proofs.YtdnkbefpbehllaaDoor.CutA Go.Proofs.YtdnkbefpbehllaaDoor.AesF Go.Proofs.YtdnkbefpbehllaaDoor.CtrD Go.Proofs.YtdnkbefpbehllaaDoor.AesB Go.Proofs.YtdnkbefpbehllaaDoor.AesK Go.Proofs.YtdnkbefpbehllaaDoor.AesR2 Go.Proofs.YtdnkbefpbehllaaDoor.AesR3 Go.Proofs.YtdnkbefpbehllaaDoor.Ctr1 Go.Proofs.YtdnkbefpbehllaaDoor.CtrR

end Go.Proofs.YtdnkbefpbehllaaDoor.CtrT

/- Counter, Stream and Turn, of the code and of the document: one contract each, whether they answer or refuse. -/
set_option linter.unusedVariables false
namespace Go.Proofs.YtdnkbefpbehllaaDoor.CtrU
open Go.RowKit Go.PlainAid Go.Proofs.YtdnkbefpbehllaaDoor.Sums Go.Proofs.YtdnkbefpbehllaaDoor.Mem Go.Proofs.YtdnkbefpbehllaaDoor.Blk Go.Proofs.YtdnkbefpbehllaaDoor.Bits3 Go.Proofs.YtdnkbefpbehllaaDoor.Ints Go.Proofs.YtdnkbefpbehllaaDoor.CutA Go.Proofs.YtdnkbefpbehllaaDoor.AesF Go.Proofs.YtdnkbefpbehllaaDoor.CtrD Go.Proofs.YtdnkbefpbehllaaDoor.AesB Go.Proofs.YtdnkbefpbehllaaDoor.AesK Go.Proofs.YtdnkbefpbehllaaDoor.AesR2 Go.Proofs.YtdnkbefpbehllaaDoor.AesR3 Go.Proofs.YtdnkbefpbehllaaDoor.Aes9 Go.Proofs.YtdnkbefpbehllaaDoor.Ctr1 Go.Proofs.YtdnkbefpbehllaaDoor.Ctr2 Go.Proofs.YtdnkbefpbehllaaDoor.Ctr4 Go.Proofs.YtdnkbefpbehllaaDoor.Ctr5 Go.Proofs.YtdnkbefpbehllaaDoor.CtrR Go.Proofs.YtdnkbefpbehllaaDoor.CtrT Go.Proofs.YtdnkbefpbehllaaDoor.CtrA

def cOut (sa iv : List Int) (n : Int) : List Int := if cbad sa.length iv.length n then [] else ints (cnt (nats sa) (nats iv) n.toNat)
def cErr (sa iv : List Int) (n : Int) : Int := if cbad sa.length iv.length n then 1 else 0
def sErr (ky sa iv : List Int) (n : Int) : Int := errS ky.length sa.length iv.length n
def sOut (ky sa iv : List Int) (n : Int) : List Int := if sErr ky sa iv n = 0 then ints (strm (keys (nats ky)) (nats sa) (nats iv) n.toNat) else []
def tOut (ky sa iv l : List Int) : List Int := if sErr ky sa iv (l.length : Int) = 0 then ints (trn (keys (nats ky)) (nats sa) (nats iv) (nats l)) else []
/-- An answer that lies in memory: bytes and an error. -/
def Ans (w : World) (X : List Int) (er : Int) (e : Ending) (w' : World) : Prop := ∃ A c, e = .returned (.tuple #[.slice A X.length c, .int .i64 er]) ∧ Holds w' w'.heap.size A X.length c X ∧ Below w.heap.size w w'
theorem Ans.nil {w w' : World} {er : Int} {e : Ending} (h : e = .returned (.tuple #[.slice none 0 0, .int .i64 er])) (hb : Below w.heap.size w w') : Ans w [] er e w' := ⟨none, 0, h, Holds.nil _ _ _, hb⟩
theorem ok_good {ky sa iv : List Int} {n : Int} (h : sErr ky sa iv n = 0) : (ky.length = 16 ∨ ky.length = 32) ∧ sa.length = 4 ∧ iv.length = 8 ∧ 0 ≤ n ∧ n ≤ 65536 := by
  unfold sErr errS at h
  split at h
  · rename_i q
    split at h
    · rename_i q2; exact ⟨q.1, q.2.1, q.2.2.1, q.2.2.2, q2⟩
    · cases h
  · cases h
section
variable (Ak : Option Addr) (kn ck : Nat) (ky : List Int) (As : Option Addr) (sn cs : Nat) (sa : List Int) (Av : Option Addr) (vn cv : Nat) (iv : List Int) (Ab : Option Addr) (bn cb : Nat) (l : List Int) (n : Int) (w : World) (B : Nat)

theorem counter_u (hs : Holds w B As sn cs sa) (hv : Holds w B Av vn cv iv) (hB : B ≤ w.heap.size) :
    Calls Tryd.prog 57 #[.slice As sn cs, .slice Av vn cv, .int .i64 n] w (Ans w (cOut sa iv n) (cErr sa iv n)) := by
  obtain rfl := hs.1
  obtain rfl := hv.1
  cases q : cbad sa.length iv.length n with
  | true =>
    have e1 : cOut sa iv n = [] := by simp [cOut, q]
    have e2 : cErr sa iv n = 1 := by simp [cErr, q]
    rw [e1, e2]
    refine (counter_bad As Av _ cs _ cv n w q).mono ?_
    rintro e w' ⟨h, rfl⟩
    exact Ans.nil h (Below.refl _ _)
  | false =>
    obtain ⟨h1, h2, h3, h4⟩ := cbad_false q
    have e1 : cOut sa iv n = ints (cnt (nats sa) (nats iv) n.toNat) := by simp [cOut, q]
    have e2 : cErr sa iv n = 0 := by simp [cErr, q]
    have el : (ints (cnt (nats sa) (nats iv) n.toNat)).length = 16 := by rw [Ctr1.ints_len, cnt_len (by rw [nats_len, h1]) (by rw [nats_len, h2])]
    rw [e1, e2]
    unfold Ans
    rw [el]
    rw [h1] at hs ⊢
    rw [h2] at hv ⊢
    have := counter_ok As Av cs cv sa iv n.toNat w B hs hv hB (by omega) (by omega)
    rw [Int.toNat_of_nonneg (by omega)] at this
    refine this.mono ?_
    rintro e w' ⟨A, c, he, hh, hb⟩
    exact ⟨A, c, he, hh, hb⟩
theorem stream_u (hk : Holds w B Ak kn ck ky) (hs : Holds w B As sn cs sa) (hv : Holds w B Av vn cv iv) (hB : B ≤ w.heap.size) (hkn : kn ≤ 140737488355328) :
    Calls Tryd.prog 39 #[.slice Ak kn ck, .slice As sn cs, .slice Av vn cv, .int .i64 n] w (Ans w (sOut ky sa iv n) (sErr ky sa iv n)) := by
  obtain rfl := hk.1
  obtain rfl := hs.1
  obtain rfl := hv.1
  by_cases q : sErr ky sa iv n = 0
  · obtain ⟨h1, h2, h3, h4, h5⟩ := ok_good q
    have e1 : sOut ky sa iv n = ints (strm (keys (nats ky)) (nats sa) (nats iv) n.toNat) := by simp [sOut, q]
    have el : (ints (strm (keys (nats ky)) (nats sa) (nats iv) n.toNat)).length = n.toNat := by rw [Ctr1.ints_len, strm_len]
    have KB := keys_byt (nats_byt hk.2.2.2.1)
    have SB := nats_byt hs.2.2.2.1
    have VB := nats_byt hv.2.2.2.1
    rw [e1, q]
    unfold Ans
    rw [el]
    rw [h2] at hs ⊢
    rw [h3] at hv ⊢
    have := stream_ok Ak _ ck ky As cs sa Av cv iv n.toNat w B hk hs hv hB h1 (by omega)
    rw [Int.toNat_of_nonneg h4] at this
    refine this.mono ?_
    rintro e w' ⟨g, he, _, hrow, hb⟩
    have := BRow.holds hrow (strm_byt KB SB VB _) (by rw [strm_len]; omega)
    rw [strm_len] at this
    exact ⟨_, _, he, this, hb⟩
  · have e1 : sOut ky sa iv n = [] := by simp [sOut, q]
    rw [e1]
    refine (stream_bad Ak _ ck ky As _ cs sa Av _ cv iv n w B hk hs hv hB hkn q).mono ?_
    rintro e w' ⟨h, hb⟩
    exact Ans.nil h hb
theorem turn_u (hk : Holds w B Ak kn ck ky) (hs : Holds w B As sn cs sa) (hv : Holds w B Av vn cv iv) (hl : Holds w B Ab bn cb l) (hB : B ≤ w.heap.size) (hkn : kn ≤ 140737488355328) :
    Calls Tryd.prog 33 #[.slice Ak kn ck, .slice As sn cs, .slice Av vn cv, .slice Ab bn cb] w (Ans w (tOut ky sa iv l) (sErr ky sa iv (l.length : Int))) := by
  obtain rfl := hk.1
  obtain rfl := hs.1
  obtain rfl := hv.1
  obtain rfl := hl.1
  by_cases q : sErr ky sa iv (l.length : Int) = 0
  · obtain ⟨h1, h2, h3, h4, h5⟩ := ok_good q
    have e1 : tOut ky sa iv l = ints (trn (keys (nats ky)) (nats sa) (nats iv) (nats l)) := by simp [tOut, q]
    have el : (ints (trn (keys (nats ky)) (nats sa) (nats iv) (nats l))).length = l.length := by rw [Ctr1.ints_len, trn_len, nats_len]
    have KB := keys_byt (nats_byt hk.2.2.2.1)
    have SB := nats_byt hs.2.2.2.1
    have VB := nats_byt hv.2.2.2.1
    have LB := nats_byt hl.2.2.2.1
    rw [e1, q]
    unfold Ans
    rw [el]
    rw [h2] at hs ⊢
    rw [h3] at hv ⊢
    refine (turn_ok Ak _ ck ky As cs sa Av cv iv Ab _ cb l w B hk hs hv hl hB h1 (by omega)).mono ?_
    rintro e w' ⟨g, he, _, hrow, hb⟩
    have := BRow.holds hrow (trn_byt KB SB VB LB) (by rw [trn_len, nats_len]; omega)
    rw [trn_len, nats_len] at this
    exact ⟨_, _, he, this, hb⟩
  · have e1 : tOut ky sa iv l = [] := by simp [tOut, q]
    rw [e1]
    refine (turn_bad Ak _ ck ky As _ cs sa Av _ cv iv Ab _ cb w B hk hs hv hB hkn q).mono ?_
    rintro e w' ⟨h, hb⟩
    exact Ans.nil h hb
end
theorem both_one (A : Option Addr) (n c : Nat) (l : List Int) (w : World) (B : Nat) (h : Holds w B A n c l) (hB : B ≤ w.heap.size) (hn : n ≤ 1048576) (g : Nat) (hg : w.heap.size = g) (cs : Array Value) (hc : cs = #[.slice A n c]) (t : TypeId) :
    Calls Tryd.prog 15 #[.slice (some ⟨g, 0, none⟩) 1 1] (w.alloc (.cells cs t)) fun e w' => ∃ A' c', e = .returned (.slice A' n c') ∧ Holds w' w'.heap.size A' n c' l ∧ Below w.heap.size w w' := by
  subst hc
  refine (Both.both_lit hB [⟨A, n, c, l⟩] _ t rfl (Both.mem1 h) g 1 hg rfl (by decide) (by show n + 0 ≤ 1048576; omega)).mono ?_
  rintro e w' ⟨A', c', he, hh, _, hb⟩
  have e1 : Both.total [(⟨A, n, c, l⟩ : Both.Row)] = n := rfl
  have e2 : Both.flat [(⟨A, n, c, l⟩ : Both.Row)] = l := by show l ++ [] = l; simp
  rw [e1] at he hh
  rw [e2] at hh
  exact ⟨A', c', he, hh, hb⟩
end Go.Proofs.YtdnkbefpbehllaaDoor.CtrU

