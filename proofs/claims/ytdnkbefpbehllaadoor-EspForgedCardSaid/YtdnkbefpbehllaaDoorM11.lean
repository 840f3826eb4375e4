/- Codes as plain numbers: a key unlike a byte, the inner and the outer digest. No function is named. -/
import Derived.Test.YtdnkbefpbehllaaDoorM05
import Derived.Test.YtdnkbefpbehllaaDoorM07
import Derived.Test.YtdnkbefpbehllaaDoorM10
set_option linter.unusedVariables false
namespace Go.Proofs.YtdnkbefpbehllaaDoor.MacD
open Go.Proofs.YtdnkbefpbehllaaDoor.ShaD

/-- A key unlike 64 times a byte. -/
def withK (key : List Nat) (x : Nat) : List Nat := (List.range 64).map fun i => if i < key.length then x ^^^ key.getD i 0 else x
def kOf (key : List Nat) : List Nat := if 64 < key.length then digest key else key
def full (key b : List Nat) : List Nat := digest (withK (kOf key) 92 ++ digest (withK (kOf key) 54 ++ b))
def Byt (l : List Nat) : Prop := ∀ x ∈ l, x < 256
theorem final_len (b : List Nat) : (final b).length = 8 := by
  have : ∀ (n : Nat) (s m : List Nat), s.length = 8 → (bgo n s m).length = 8 := by
    intro n
    induction n with
    | zero => intro s m h; exact h
    | succ n ih => intro s m h; rw [bgo]; exact ih _ _ (round_len _ _)
  exact this _ _ _ (by decide)
theorem final_lt (b : List Nat) : W32 (final b) := by
  have : ∀ (n : Nat) (s m : List Nat), W32 s → W32 (bgo n s m) := by
    intro n
    induction n with
    | zero => intro s m h; exact h
    | succ n ih => intro s m h; rw [bgo]; exact ih _ _ (round_lt _ _)
  exact this _ _ _ (fun x hx => K_lt x (List.mem_of_mem_drop hx))
theorem four_byt {n : Nat} (h : n < M) : ∀ x ∈ four n, x < 256 := by
  intro x hx
  unfold M at h
  simp only [four, List.mem_cons, List.not_mem_nil, or_false] at hx
  omega
theorem digest_len (b : List Nat) : (digest b).length = 32 := by
  have h := final_len b
  unfold digest
  generalize final b = F at *
  match F, h with
  | [a, b, c, d, e, f, g, i], _ => rfl
theorem digest_byt (b : List Nat) : Byt (digest b) := by
  intro x hx
  obtain ⟨y, hy, hx⟩ := List.mem_flatMap.1 hx
  exact four_byt (final_lt b y hy) x hx
theorem withK_len (key : List Nat) (x : Nat) : (withK key x).length = 64 := by simp [withK]
theorem getD_byt {l : List Nat} (h : Byt l) (i : Nat) : l.getD i 0 < 256 := by
  rw [List.getD_eq_getElem?_getD]
  cases e : l[i]? with
  | none => decide
  | some z => exact h z (List.mem_of_getElem? e)
theorem xor_byt {a b : Nat} (h1 : a < 256) (h2 : b < 256) : a ^^^ b < 256 := Nat.xor_lt_two_pow (n := 8) h1 h2
theorem withK_byt {key : List Nat} {x : Nat} (h : Byt key) (hx : x < 256) : Byt (withK key x) := by
  intro y hy
  obtain ⟨i, _, rfl⟩ := List.mem_map.1 hy
  split
  · exact xor_byt hx (getD_byt h i)
  · exact hx
theorem kOf_byt {key : List Nat} (h : Byt key) : Byt (kOf key) := by
  unfold kOf
  split
  · exact digest_byt _
  · exact h
theorem full_len (key b : List Nat) : (full key b).length = 32 := digest_len _
theorem full_byt (key b : List Nat) : Byt (full key b) := digest_byt _
/-- Zeros behind a key turn nothing. -/
theorem withK_more (key : List Nat) (m x : Nat) : withK (key ++ List.replicate m 0) x = withK key x := by
  unfold withK
  apply List.map_congr_left
  intro i _
  rw [List.length_append, List.length_replicate]
  by_cases h1 : i < key.length
  · rw [if_pos h1, if_pos (by omega), List.getD_eq_getElem?_getD, List.getElem?_append_left h1, ← List.getD_eq_getElem?_getD]
  · rw [if_neg h1]
    by_cases h2 : i < key.length + m
    · rw [if_pos h2, List.getD_eq_getElem?_getD, List.getElem?_append_right (by omega), List.getElem?_replicate, if_pos (by omega)]
      simp
    · rw [if_neg h2]
theorem full_more {key : List Nat} {m : Nat} (h : key.length + m ≤ 64) (b : List Nat) : full (key ++ List.replicate m 0) b = full key b := by
  have e1 : kOf (key ++ List.replicate m 0) = key ++ List.replicate m 0 := by
    unfold kOf
    rw [if_neg (by rw [List.length_append, List.length_replicate]; omega)]
  have e2 : kOf key = key := by unfold kOf; rw [if_neg (by omega)]
  unfold full
  rw [e1, e2, withK_more, withK_more]
/-- A long key is as its digest. -/
theorem full_long {key : List Nat} (h : 64 < key.length) (b : List Nat) : full key b = full (digest key) b := by
  have e1 : kOf key = digest key := by unfold kOf; rw [if_pos h]
  have e2 : kOf (digest key) = digest key := by
    unfold kOf
    rw [if_neg (by rw [digest_len]; omega)]
  unfold full
  rw [e1, e2]
end Go.Proofs.YtdnkbefpbehllaaDoor.MacD

/- An association and what is sealed under it: plain facts. -/
set_option linter.unusedVariables false
namespace Go.Proofs.YtdnkbefpbehllaaDoor.EspD
open Go.Proofs.YtdnkbefpbehllaaDoor.Sums Go.Proofs.YtdnkbefpbehllaaDoor.Mem Go.Proofs.YtdnkbefpbehllaaDoor.Bits3 Go.Proofs.YtdnkbefpbehllaaDoor.AesB Go.Proofs.YtdnkbefpbehllaaDoor.AesK Go.Proofs.YtdnkbefpbehllaaDoor.PadR Go.Proofs.YtdnkbefpbehllaaDoor.PadO

/-- May it be? Is a number one of its? -/
def may (sp : Int) (ky sl mc : ByteArray) (wn : Int) : Bool :=
  decide (256 ≤ sp) && (decide (sp ≤ 4294967295) && ((decide (ky.size = 16) || decide (ky.size = 32)) && (decide (sl.size = 4) && (decide (mc.size = 32) && (decide (64 ≤ wn) && decide (wn ≤ 1024))))))
def num (es : Bool) (q : Nat) : Bool := decide (1 ≤ q) && (es || decide (q ≤ 4294967295))
theorem may_facts {sp wn : Int} {ky sl mc : ByteArray} (h : may sp ky sl mc wn = true) : 256 ≤ sp ∧ sp ≤ 4294967295 ∧ (ky.size = 16 ∨ ky.size = 32) ∧ sl.size = 4 ∧ mc.size = 32 ∧ 64 ≤ wn ∧ wn ≤ 1024 := by
  simpa [may, Bool.and_eq_true, decide_eq_true_eq] using h
def hiN (q : Nat) : Nat := q / 4294967296
def loN (q : Nat) : Nat := q % 4294967296
def ivL (q : Nat) : List Nat := CtrD.four (hiN q) ++ CtrD.four (loN q)
def upL (es : Bool) (q : Nat) : List Nat := if es then CtrD.four (hiN q) else []
/-- The tag of what stands ahead. -/
def tagL (mc : ByteArray) (es : Bool) (q : Nat) (b : List Nat) : List Nat := (MacD.full (nats (nums mc)) (b ++ upL es q)).take 16
/-- Bytes turned by the stream. -/
def turnL (ky sl : ByteArray) (iv b : List Nat) : List Nat := CtrD.trn (keys (nats (nums ky))) (nats (nums sl)) iv b
def frontL (sp : Int) (ky sl : ByteArray) (q : Nat) (d : List Int) (x : Int) : List Nat := CtrD.four sp.toNat ++ (CtrD.four (loN q) ++ (ivL q ++ turnL ky sl (ivL q) (nats (sealed d x))))
def sealL (sp : Int) (ky sl mc : ByteArray) (es : Bool) (wn : Int) (q : Nat) (d : List Int) (x : Int) : List Nat := frontL sp ky sl q d x ++ tagL mc es q (frontL sp ky sl q d x)
def sealE (sp : Int) (ky sl mc : ByteArray) (es : Bool) (wn : Int) (q : Nat) (n : Nat) (x : Int) : Nat :=
  if (may sp ky sl mc wn && num es q) = false ∨ x < 0 ∨ 255 < x then 1 else if 65535 < 32 + long n then 2 else 0
theorem four_len (n : Nat) : (CtrD.four n).length = 4 := rfl
theorem ivL_len (q : Nat) : (ivL q).length = 8 := by simp [ivL, four_len]
theorem ivL_byt (q : Nat) : Byt (ivL q) := Byt.app (CtrD.four_byt _) (CtrD.four_byt _)
theorem upL_len (es : Bool) (q : Nat) : (upL es q).length = if es then 4 else 0 := by unfold upL; cases es <;> rfl
theorem upL_byt (es : Bool) (q : Nat) : Byt (upL es q) := by
  unfold upL
  cases es
  · intro x h; cases h
  · exact CtrD.four_byt _
theorem tagL_len (mc : ByteArray) (es : Bool) (q : Nat) (b : List Nat) : (tagL mc es q b).length = 16 := by
  unfold tagL
  rw [List.length_take, MacD.full_len]
  rfl
theorem tagL_byt (mc : ByteArray) (es : Bool) (q : Nat) (b : List Nat) : Byt (tagL mc es q b) := fun x hx => MacD.full_byt _ _ x (List.mem_of_mem_take hx)
theorem turnL_len (ky sl : ByteArray) (iv b : List Nat) : (turnL ky sl iv b).length = b.length := CtrD.trn_len _ _ _ _
theorem sealed_len (l : List Int) (x : Int) : (sealed l x).length = long l.length := by
  have := cnt_long l.length
  simp [sealed, ups_len]
  omega
theorem nats_length (l : List Int) : (nats l).length = l.length := by simp [nats]
theorem frontL_len (sp : Int) (ky sl : ByteArray) (q : Nat) (d : List Int) (x : Int) : (frontL sp ky sl q d x).length = 16 + long d.length := by
  unfold frontL
  rw [List.length_append, List.length_append, List.length_append, four_len, four_len, ivL_len, turnL_len, nats_length, sealed_len]
  omega
theorem sealL_len (sp : Int) (ky sl mc : ByteArray) (es : Bool) (wn : Int) (q : Nat) (d : List Int) (x : Int) : (sealL sp ky sl mc es wn q d x).length = 32 + long d.length := by
  unfold sealL
  rw [List.length_append, frontL_len, tagL_len]
  omega
/-- Four bytes as a number. -/
def num4 (l : List Int) (k : Nat) : Int := 16777216 * l.getD k 0 + 65536 * l.getD (k + 1) 0 + 256 * l.getD (k + 2) 0 + l.getD (k + 3) 0
def lenI (n : Int) : Nat := if n < 0 then 0 else 32 + lengthI n
/-- What Open tells: of bytes l. -/
def endN (l : List Int) : Nat := l.length - 16
def plainL (ky sl : ByteArray) (l : List Int) : List Int := ints (turnL ky sl (nats ((l.drop 8).take 8)) (nats ((l.drop 16).take (endN l - 16))))
def formB (sp : Int) (q : Nat) (l : List Int) : Bool := decide (endN l % 4 = 0) && (decide (num4 l 0 = sp) && decide (num4 l 4 = (loN q : Int)))
def icvB (mc : ByteArray) (es : Bool) (q : Nat) (l : List Int) : Bool := decide (l.drop (endN l) = ints (tagL mc es q (nats (l.take (endN l)))))
def openE (sp : Int) (ky sl mc : ByteArray) (es : Bool) (wn : Int) (q : Nat) (l : List Int) : Nat :=
  if (may sp ky sl mc wn && num es q) = false then 1 else if l.length < 36 then 8 else if formB sp q l = false then 4 else if icvB mc es q l = false then 110 else if okO (plainL ky sl l) = false then 130 else 0
def openO (ky sl : ByteArray) (l : List Int) : List Int := (plainL ky sl l).take ((plainL ky sl l).length - 2 - told (plainL ky sl l))
def openY (ky sl : ByteArray) (l : List Int) : Int := (plainL ky sl l).getD ((plainL ky sl l).length - 1) 0
end Go.Proofs.YtdnkbefpbehllaaDoor.EspD

