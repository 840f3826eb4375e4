/- The document's examples hold. -/
import Derived.Test.YtbcfeecdmkcngaaDoorDig9
import Derived.Lib.SlBytesConst
set_option linter.unusedVariables false
namespace Go.Proofs.YtbcfeecdmkcngaaDoor.DigA
open Go.RowKit Go.PlainAid Go.Proofs.YtbcfeecdmkcngaaDoor.Sums Go.Proofs.YtbcfeecdmkcngaaDoor.Mem Go.Proofs.YtbcfeecdmkcngaaDoor.Blk Go.Proofs.YtbcfeecdmkcngaaDoor.Bits3 Go.Proofs.YtbcfeecdmkcngaaDoor.Ints Go.Proofs.YtbcfeecdmkcngaaDoor.Both Go.Proofs.YtbcfeecdmkcngaaDoor.ShaD Go.Proofs.YtbcfeecdmkcngaaDoor.ShaC Go.Proofs.YtbcfeecdmkcngaaDoor.Dig1 Go.Proofs.YtbcfeecdmkcngaaDoor.Dig9

theorem nums_str {l : List Int} (h : Bytes l) : nums (strOfNums l) = l := by
  simp only [strOfNums, nums, List.map_map]
  refine (List.map_congr_left fun z hz => ?_).trans (List.map_id l)
  have := h z hz
  simp only [Function.comp, id]
  rw [UInt8.toNat_ofNat_of_lt' (by simp [UInt8.size]; omega)]
  omega
theorem str_inj {a b : List Int} (ha : Bytes a) (hb : Bytes b) (h : strOfNums a = strOfNums b) : a = b := by rw [← nums_str ha, ← nums_str hb, h]
theorem abc_str : strOfNums (ints (digest (nats [97, 98, 99]))) = ⟨#[186, 120, 22, 191, 143, 1, 207, 234, 65, 65, 64, 222, 93, 174, 34, 35, 176, 3, 97, 163, 150, 23, 122, 156, 180, 16, 255, 97, 242, 0, 21, 173]⟩ := by
  rw [show nats [97, 98, 99] = [97, 98, 99] from rfl, abc]
  kernel_rfl
theorem Holds.laid (w : World) (l : List Nat) (cs : Array Value) (fz : Nat × Nat) (n g : Nat) (hc : cs = bcells l) (hb : ∀ x ∈ l, x < 256) (hn : l.length = n) (hg : w.heap.size = g) (hm : n ≤ 1048576) : Holds (w.alloc (.cells cs 5 fz)) (g + 1) (some ⟨g, 0, none⟩) n n (ints l) := by
  subst hc hn hg
  refine ⟨by simp [ints], Nat.le_refl _, by simp only [maxLen]; omega, fun z hz => ints_in hb z hz, fun _ => ⟨w.heap.size, 0, rfl, by omega, fun j z hz => ?_⟩⟩
  have hj : j < l.length := by
    rcases Nat.lt_or_ge j l.length with h' | h'
    · exact h'
    · rw [List.getElem?_eq_none (by simpa [ints] using h')] at hz; cases hz
  rw [Nat.zero_add, cell_of_row _ w.heap.size j _ 5 fz (heap_alloc_new w _), bcells_get l j hj, ← ints_getD, List.getD_eq_getElem?_getD, hz]
  rfl
theorem cvt (w : World) (C : Array Value) (n : Nat) : (convert 23 23 (.slice (some ⟨w.heap.size, 0, none⟩) n n)).run Tryd.prog (w.alloc (.cells C 5)) = .ok (.slice (some ⟨w.heap.size, 0, none⟩) n n) (w.alloc (.cells C 5 (C.size, C.size + 1))) :=
  Lib.run_convert_bytes_const w 23 5 C n n Tryd.underlying23 Tryd.underlying5
theorem parts_lit {W : World} {B : Nat} (hB : B ≤ W.heap.size) (rs : List Row) (cs : Array Value) (t : TypeId) (hc : cs.toList = rs.map fun r => Value.slice r.A r.n r.c) (h : ∀ r ∈ rs, Holds W B r.A r.n r.c r.l) (g : Nat) (hg : W.heap.size = g) :
    Parts (W.alloc (.cells cs t)) (g + 1) (some ⟨g, 0, none⟩) rs := by
  subst hg
  exact .inr ⟨_, rfl, All.lit hB rs cs t hc h⟩
theorem flat_len {rs : List Row} (h : ∀ r ∈ rs, r.l.length = r.n) : (flat rs).length = total rs := by
  induction rs with
  | nil => rfl
  | cons r rs ih =>
    have e1 : flat (r :: rs) = r.l ++ flat rs := rfl
    have e2 : total (r :: rs) = r.n + total rs := rfl
    rw [e1, e2, List.length_append, ih fun q hq => h q (by simp [hq]), h r (by simp)]

set_option maxHeartbeats 1000000 in
set_option maxRecDepth 100000 in
theorem awake_any (w : World) (hT : Tab w) : Calls Tryd.prog 12 #[] w fun e w' => e = .returned (.bool true) ∧ Below w.heap.size w w' := by
  have L3 : Holds (w.alloc (.cells #[.int .u8 97, .int .u8 98, .int .u8 99] 5 (3, 4))) (w.heap.size + 1) (some ⟨w.heap.size, 0, none⟩) 3 3 [97, 98, 99] := Holds.laid w [97, 98, 99] _ (3, 4) 3 _ rfl (by decide) rfl rfl (by decide)
  have cv0 := cvt w #[.int .u8 97, .int .u8 98, .int .u8 99] 3
  have s1 : (w.alloc (.cells #[.int .u8 97, .int .u8 98, .int .u8 99] 5 (3, 4))).heap.size = w.heap.size + 1 := by simp
  have B1 := (Below.refl w.heap.size w).alloc (Nat.le_refl _) (.cells #[.int .u8 97, .int .u8 98, .int .u8 99] 5 (3, 4))
  have P2 := parts_lit (W := w.alloc (.cells #[.int .u8 97, .int .u8 98, .int .u8 99] 5 (3, 4))) (B := w.heap.size + 1) (by rw [s1]; exact Nat.le_refl _) [⟨some ⟨w.heap.size, 0, none⟩, 3, 3, [97, 98, 99]⟩] #[.slice (some ⟨w.heap.size, 0, none⟩) 3 3] 23 rfl (mem1 L3) (w.heap.size + 1) s1
  have B2 := Lib.hid (B1.alloc (by rw [s1]; omega) (.cells #[.slice (some ⟨w.heap.size, 0, none⟩) 3 3] 23))
  have C := Lib.hid (of_no _ 1 1 [⟨some ⟨w.heap.size, 0, none⟩, 3, 3, [97, 98, 99]⟩] _ _ P2 rfl (by simp) (by decide) rfl (by show 3 + 0 ≤ 1048576; decide) (hT.up B2.out))
  have HT := Lib.hid hT
  clear L3 s1 B1 P2 hT
  go_enter Tryd.func12, Tryd.ntmps12
  go_wp2_with fail
  refine C.out.mono ?_
  rintro e w3 ⟨v3, rfl, o3, hb⟩
  obtain ⟨A3, c3, rfl, h3⟩ := o3.slice
  have cv := run_string_bytes h3
  rw [show flat [⟨some ⟨w.heap.size, 0, none⟩, 3, 3, [97, 98, 99]⟩] = [97, 98, 99] from rfl, abc_str] at cv
  have B3 := Lib.hid (B2.out.trans (hb.mono B2.out.size))
  have C0 := Lib.hid (constant_no 0 w3 (HT.out.up B3.out))
  have C64 := Lib.hid (constant_no 64 w3 (HT.out.up B3.out))
  rw [show kAt 0 = 1116352408 from rfl] at C0
  rw [show kAt 64 = 1779033703 from rfl] at C64
  clear o3 h3 hb C B2 cv0
  go_wp2_with fail
  refine C0.out.mono ?_
  rintro e w' ⟨rfl, rfl⟩
  go_wp2_with fail
  refine C64.out.mono ?_
  rintro e w' ⟨rfl, rfl⟩
  go_wp2_with fail
  go_ret
  exact ⟨rfl, B3.out⟩
end Go.Proofs.YtbcfeecdmkcngaaDoor.DigA
