/- Counter, Stream and Turn, of the code and of the document: one contract each, whether they answer or refuse. -/
import Derived.Test.YthjbcdjphokjbaaCtrA
import Derived.Test.YthjbcdjphokjbaaCtrT
set_option linter.unusedVariables false
namespace Go.Proofs.Ythjbcdjphokjbaa.CtrU
open Go.RowKit Go.PlainAid Go.Proofs.Ythjbcdjphokjbaa.Sums Go.Proofs.Ythjbcdjphokjbaa.Mem Go.Proofs.Ythjbcdjphokjbaa.Blk Go.Proofs.Ythjbcdjphokjbaa.Bits3 Go.Proofs.Ythjbcdjphokjbaa.Ints Go.Proofs.Ythjbcdjphokjbaa.CutA Go.Proofs.Ythjbcdjphokjbaa.AesF Go.Proofs.Ythjbcdjphokjbaa.CtrD Go.Proofs.Ythjbcdjphokjbaa.AesB Go.Proofs.Ythjbcdjphokjbaa.AesK Go.Proofs.Ythjbcdjphokjbaa.AesR2 Go.Proofs.Ythjbcdjphokjbaa.AesR3 Go.Proofs.Ythjbcdjphokjbaa.Aes9 Go.Proofs.Ythjbcdjphokjbaa.Ctr1 Go.Proofs.Ythjbcdjphokjbaa.Ctr2 Go.Proofs.Ythjbcdjphokjbaa.Ctr4 Go.Proofs.Ythjbcdjphokjbaa.Ctr5 Go.Proofs.Ythjbcdjphokjbaa.CtrR Go.Proofs.Ythjbcdjphokjbaa.CtrT Go.Proofs.Ythjbcdjphokjbaa.CtrA

def cOut (sa iv : List Int) (n : Int) : List Int := if cbad sa.length iv.length n then [] else ints (cnt (nats sa) (nats iv) n.toNat)
def cErr (sa iv : List Int) (n : Int) : Int := if cbad sa.length iv.length n then 1 else 0
def sErr (ky sa iv : List Int) (n : Int) : Int := errS ky.length sa.length iv.length n
def sOut (ky sa iv : List Int) (n : Int) : List Int := if sErr ky sa iv n = 0 then ints (strm (keys (nats ky)) (nats sa) (nats iv) n.toNat) else []
def tOut (ky sa iv l : List Int) : List Int := if sErr ky sa iv (l.length : Int) = 0 then ints (trn (keys (nats ky)) (nats sa) (nats iv) (nats l)) else []
/-- An answer that lies in memory: bytes and an error. -/
def Ans (w : World) (X : List Int) (er : Int) (e : Ending) (w' : World) : Prop := ∃ A c, e = .returned (.tuple #[.slice A X.length c, .int .i64 er]) ∧ Holds w' w'.heap.size A X.length c X ∧ Below w.heap.size w w'
theorem Ans.nil {w w' : World} {er : Int} {e : Ending} (h : e = .returned (.tuple #[.slice none 0 0, .int .i64 er])) (hb : Below w.heap.size w w') : Ans w [] er e w' := ⟨none, 0, h, Holds.nil _ _ _, hb⟩
theorem ok_good {ky sa iv : List Int} {n : Int} (h : sErr ky sa iv n = 0) : (ky.length = 16 ∨ ky.length = 32) ∧ sa.length = 4 ∧ iv.length = 8 ∧ 0 ≤ n ∧ n ≤ 65536 := by
  unfold sErr errS at h
  split at h
  · rename_i q
    split at h
    · rename_i q2; exact ⟨q.1, q.2.1, q.2.2.1, q.2.2.2, q2⟩
    · cases h
  · cases h
section
variable (Ak : Option Addr) (kn ck : Nat) (ky : List Int) (As : Option Addr) (sn cs : Nat) (sa : List Int) (Av : Option Addr) (vn cv : Nat) (iv : List Int) (Ab : Option Addr) (bn cb : Nat) (l : List Int) (n : Int) (w : World) (B : Nat)

theorem counter_u (hs : Holds w B As sn cs sa) (hv : Holds w B Av vn cv iv) (hB : B ≤ w.heap.size) :
    Calls Try.prog 9 #[.slice As sn cs, .slice Av vn cv, .int .i64 n] w (Ans w (cOut sa iv n) (cErr sa iv n)) := by
  obtain rfl := hs.1
  obtain rfl := hv.1
  cases q : cbad sa.length iv.length n with
  | true =>
    have e1 : cOut sa iv n = [] := by simp [cOut, q]
    have e2 : cErr sa iv n = 1 := by simp [cErr, q]
    rw [e1, e2]
    refine (counter_bad As Av _ cs _ cv n w q).mono ?_
    rintro e w' ⟨h, rfl⟩
    exact Ans.nil h (Below.refl _ _)
  | false =>
    obtain ⟨h1, h2, h3, h4⟩ := cbad_false q
    have e1 : cOut sa iv n = ints (cnt (nats sa) (nats iv) n.toNat) := by simp [cOut, q]
    have e2 : cErr sa iv n = 0 := by simp [cErr, q]
    have el : (ints (cnt (nats sa) (nats iv) n.toNat)).length = 16 := by rw [Ctr1.ints_len, cnt_len (by rw [nats_len, h1]) (by rw [nats_len, h2])]
    rw [e1, e2]
    unfold Ans
    rw [el]
    rw [h1] at hs ⊢
    rw [h2] at hv ⊢
    have := counter_ok As Av cs cv sa iv n.toNat w B hs hv hB (by omega) (by omega)
    rw [Int.toNat_of_nonneg (by omega)] at this
    refine this.mono ?_
    rintro e w' ⟨A, c, he, hh, hb⟩
    exact ⟨A, c, he, hh, hb⟩
theorem counter_ru (hs : Holds w B As sn cs sa) (hv : Holds w B Av vn cv iv) (hB : B ≤ w.heap.size) :
    Calls Try.prog 10 #[.slice As sn cs, .slice Av vn cv, .int .i64 n] w (Ans w (cOut sa iv n) (cErr sa iv n)) := by
  obtain rfl := hs.1
  obtain rfl := hv.1
  cases q : cbad sa.length iv.length n with
  | true =>
    have e1 : cOut sa iv n = [] := by simp [cOut, q]
    have e2 : cErr sa iv n = 1 := by simp [cErr, q]
    rw [e1, e2]
    refine (counter_ref_bad As Av _ cs _ cv n w q).mono ?_
    rintro e w' ⟨h, rfl⟩
    exact Ans.nil h (Below.refl _ _)
  | false =>
    obtain ⟨h1, h2, h3, h4⟩ := cbad_false q
    have e1 : cOut sa iv n = ints (cnt (nats sa) (nats iv) n.toNat) := by simp [cOut, q]
    have e2 : cErr sa iv n = 0 := by simp [cErr, q]
    have el : (ints (cnt (nats sa) (nats iv) n.toNat)).length = 16 := by rw [Ctr1.ints_len, cnt_len (by rw [nats_len, h1]) (by rw [nats_len, h2])]
    rw [e1, e2]
    unfold Ans
    rw [el]
    rw [h1] at hs ⊢
    rw [h2] at hv ⊢
    have := counter_ref As Av cs cv sa iv n.toNat w B hs hv hB (by omega) (by omega)
    rw [Int.toNat_of_nonneg (by omega)] at this
    exact this
theorem stream_u (hk : Holds w B Ak kn ck ky) (hs : Holds w B As sn cs sa) (hv : Holds w B Av vn cv iv) (hB : B ≤ w.heap.size) (hkn : kn ≤ 140737488355328) :
    Calls Try.prog 11 #[.slice Ak kn ck, .slice As sn cs, .slice Av vn cv, .int .i64 n] w (Ans w (sOut ky sa iv n) (sErr ky sa iv n)) := by
  obtain rfl := hk.1
  obtain rfl := hs.1
  obtain rfl := hv.1
  by_cases q : sErr ky sa iv n = 0
  · obtain ⟨h1, h2, h3, h4, h5⟩ := ok_good q
    have e1 : sOut ky sa iv n = ints (strm (keys (nats ky)) (nats sa) (nats iv) n.toNat) := by simp [sOut, q]
    have el : (ints (strm (keys (nats ky)) (nats sa) (nats iv) n.toNat)).length = n.toNat := by rw [Ctr1.ints_len, strm_len]
    have KB := keys_byt (nats_byt hk.2.2.2.1)
    have SB := nats_byt hs.2.2.2.1
    have VB := nats_byt hv.2.2.2.1
    rw [e1, q]
    unfold Ans
    rw [el]
    rw [h2] at hs ⊢
    rw [h3] at hv ⊢
    have := stream_ok Ak _ ck ky As cs sa Av cv iv n.toNat w B hk hs hv hB h1 (by omega)
    rw [Int.toNat_of_nonneg h4] at this
    refine this.mono ?_
    rintro e w' ⟨g, he, _, hrow, hb⟩
    have := BRow.holds hrow (strm_byt KB SB VB _) (by rw [strm_len]; omega)
    rw [strm_len] at this
    exact ⟨_, _, he, this, hb⟩
  · have e1 : sOut ky sa iv n = [] := by simp [sOut, q]
    rw [e1]
    refine (stream_bad Ak _ ck ky As _ cs sa Av _ cv iv n w B hk hs hv hB hkn q).mono ?_
    rintro e w' ⟨h, hb⟩
    exact Ans.nil h hb
theorem stream_ru (hk : Holds w B Ak kn ck ky) (hs : Holds w B As sn cs sa) (hv : Holds w B Av vn cv iv) (hB : B ≤ w.heap.size) (hkn : kn ≤ 140737488355328) :
    Calls Try.prog 12 #[.slice Ak kn ck, .slice As sn cs, .slice Av vn cv, .int .i64 n] w (Ans w (sOut ky sa iv n) (sErr ky sa iv n)) := by
  obtain rfl := hk.1
  obtain rfl := hs.1
  obtain rfl := hv.1
  by_cases q : sErr ky sa iv n = 0
  · obtain ⟨h1, h2, h3, h4, h5⟩ := ok_good q
    have e1 : sOut ky sa iv n = ints (strm (keys (nats ky)) (nats sa) (nats iv) n.toNat) := by simp [sOut, q]
    have el : (ints (strm (keys (nats ky)) (nats sa) (nats iv) n.toNat)).length = n.toNat := by rw [Ctr1.ints_len, strm_len]
    rw [e1, q]
    unfold Ans
    rw [el]
    rw [h2] at hs ⊢
    rw [h3] at hv ⊢
    have := stream_ref Ak _ ck ky As cs sa Av cv iv n.toNat w B hk hs hv hB h1 (by omega)
    rw [Int.toNat_of_nonneg h4] at this
    exact this
  · have e1 : sOut ky sa iv n = [] := by simp [sOut, q]
    rw [e1]
    refine (stream_ref_bad Ak _ ck As _ cs Av _ cv n w hkn q).mono ?_
    rintro e w' ⟨h, rfl⟩
    exact Ans.nil h (Below.refl _ _)
theorem turn_u (hk : Holds w B Ak kn ck ky) (hs : Holds w B As sn cs sa) (hv : Holds w B Av vn cv iv) (hl : Holds w B Ab bn cb l) (hB : B ≤ w.heap.size) (hkn : kn ≤ 140737488355328) :
    Calls Try.prog 13 #[.slice Ak kn ck, .slice As sn cs, .slice Av vn cv, .slice Ab bn cb] w (Ans w (tOut ky sa iv l) (sErr ky sa iv (l.length : Int))) := by
  obtain rfl := hk.1
  obtain rfl := hs.1
  obtain rfl := hv.1
  obtain rfl := hl.1
  by_cases q : sErr ky sa iv (l.length : Int) = 0
  · obtain ⟨h1, h2, h3, h4, h5⟩ := ok_good q
    have e1 : tOut ky sa iv l = ints (trn (keys (nats ky)) (nats sa) (nats iv) (nats l)) := by simp [tOut, q]
    have el : (ints (trn (keys (nats ky)) (nats sa) (nats iv) (nats l))).length = l.length := by rw [Ctr1.ints_len, trn_len, nats_len]
    have KB := keys_byt (nats_byt hk.2.2.2.1)
    have SB := nats_byt hs.2.2.2.1
    have VB := nats_byt hv.2.2.2.1
    have LB := nats_byt hl.2.2.2.1
    rw [e1, q]
    unfold Ans
    rw [el]
    rw [h2] at hs ⊢
    rw [h3] at hv ⊢
    refine (turn_ok Ak _ ck ky As cs sa Av cv iv Ab _ cb l w B hk hs hv hl hB h1 (by omega)).mono ?_
    rintro e w' ⟨g, he, _, hrow, hb⟩
    have := BRow.holds hrow (trn_byt KB SB VB LB) (by rw [trn_len, nats_len]; omega)
    rw [trn_len, nats_len] at this
    exact ⟨_, _, he, this, hb⟩
  · have e1 : tOut ky sa iv l = [] := by simp [tOut, q]
    rw [e1]
    refine (turn_bad Ak _ ck ky As _ cs sa Av _ cv iv Ab _ cb w B hk hs hv hB hkn q).mono ?_
    rintro e w' ⟨h, hb⟩
    exact Ans.nil h hb
theorem turn_ru (hk : Holds w B Ak kn ck ky) (hs : Holds w B As sn cs sa) (hv : Holds w B Av vn cv iv) (hl : Holds w B Ab bn cb l) (hB : B ≤ w.heap.size) (hkn : kn ≤ 140737488355328) :
    Calls Try.prog 14 #[.slice Ak kn ck, .slice As sn cs, .slice Av vn cv, .slice Ab bn cb] w (Ans w (tOut ky sa iv l) (sErr ky sa iv (l.length : Int))) := by
  obtain rfl := hk.1
  obtain rfl := hs.1
  obtain rfl := hv.1
  obtain rfl := hl.1
  by_cases q : sErr ky sa iv (l.length : Int) = 0
  · obtain ⟨h1, h2, h3, h4, h5⟩ := ok_good q
    have e1 : tOut ky sa iv l = ints (trn (keys (nats ky)) (nats sa) (nats iv) (nats l)) := by simp [tOut, q]
    have el : (ints (trn (keys (nats ky)) (nats sa) (nats iv) (nats l))).length = l.length := by rw [Ctr1.ints_len, trn_len, nats_len]
    have KB := keys_byt (nats_byt hk.2.2.2.1)
    have SB := nats_byt hs.2.2.2.1
    have VB := nats_byt hv.2.2.2.1
    have LB := nats_byt hl.2.2.2.1
    rw [e1, q]
    unfold Ans
    rw [el]
    rw [h2] at hs ⊢
    rw [h3] at hv ⊢
    refine (turn_ref Ak _ ck ky As cs sa Av cv iv Ab _ cb l w B hk hs hv hl hB h1 (by omega)).mono ?_
    rintro e w' ⟨g, he, _, hrow, hb⟩
    have := BRow.holds hrow (trn_byt KB SB VB LB) (by rw [trn_len, nats_len]; omega)
    rw [trn_len, nats_len] at this
    exact ⟨_, _, he, this, hb⟩
  · have e1 : tOut ky sa iv l = [] := by simp [tOut, q]
    rw [e1]
    refine (turn_ref_bad Ak _ ck As _ cs Av _ cv Ab _ cb w hkn q).mono ?_
    rintro e w' ⟨h, rfl⟩
    exact Ans.nil h (Below.refl _ _)
theorem few_any (h1 : kn ≤ 140737488355328) (h2 : sn ≤ 140737488355328) (h3 : vn ≤ 140737488355328) :
    Calls Try.prog 7 #[.slice Ak kn ck, .slice As sn cs, .slice Av vn cv] w fun e w' => e = .returned (.bool (decide (kn + sn + vn ≤ 300))) ∧ w = w' := by
  have e1 : IntKind.i64.wrap ((kn : Int) + (sn : Int)) = (kn : Int) + (sn : Int) := IntWalk.i64_in _ (by omega)
  have e2 : IntKind.i64.wrap ((kn : Int) + (sn : Int) + (vn : Int)) = (kn : Int) + (sn : Int) + (vn : Int) := IntWalk.i64_in _ (by omega)
  by_cases q : kn + sn + vn ≤ 300
  · have g : decide ((kn : Int) + (sn : Int) + (vn : Int) ≤ 300) = true := decide_eq_true (by omega)
    rw [decide_eq_true q]
    clear q
    go_enter Try.func7, Try.ntmps7
    go_wp2_with fail
    go_ret
    exact ⟨rfl, rfl⟩
  · have g : decide ((kn : Int) + (sn : Int) + (vn : Int) ≤ 300) = false := decide_eq_false (by omega)
    rw [decide_eq_false q]
    clear q
    go_enter Try.func7, Try.ntmps7
    go_wp2_with fail
    go_ret
    exact ⟨rfl, rfl⟩
end
theorem both_one (A : Option Addr) (n c : Nat) (l : List Int) (w : World) (B : Nat) (h : Holds w B A n c l) (hB : B ≤ w.heap.size) (hn : n ≤ 1048576) (g : Nat) (hg : w.heap.size = g) (cs : Array Value) (hc : cs = #[.slice A n c]) (t : TypeId) :
    Calls Try.prog 8 #[.slice (some ⟨g, 0, none⟩) 1 1] (w.alloc (.cells cs t)) fun e w' => ∃ A' c', e = .returned (.slice A' n c') ∧ Holds w' w'.heap.size A' n c' l ∧ Below w.heap.size w w' := by
  subst hc
  refine (Both.both_lit hB [⟨A, n, c, l⟩] _ t rfl (Both.mem1 h) g 1 hg rfl (by decide) (by show n + 0 ≤ 1048576; omega)).mono ?_
  rintro e w' ⟨A', c', he, hh, _, hb⟩
  have e1 : Both.total [(⟨A, n, c, l⟩ : Both.Row)] = n := rfl
  have e2 : Both.flat [(⟨A, n, c, l⟩ : Both.Row)] = l := by show l ++ [] = l; simp
  rw [e1] at he hh
  rw [e2] at hh
  exact ⟨A', c', he, hh, hb⟩
end Go.Proofs.Ythjbcdjphokjbaa.CtrU
