/- The contract of the document's Both: rows of bytes, one behind the other, in memory of their own. -/
import Derived.Test.YtdnkbefpbehllaaGreatDoorM01
import Derived.Test.YtdnkbefpbehllaaGreatDoorM04
import Derived.LoopTactic
import Derived.OwnWalk
import Derived.Lib.SliceRun
namespace Go.Proofs.YtdnkbefpbehllaaGreatDoor.Both
open Go.RowKit Go.Proofs.YtdnkbefpbehllaaGreatDoor.Sums Go.Proofs.YtdnkbefpbehllaaGreatDoor.Mem

/-- A row among the arguments: its slice and its bytes. -/
structure Row where
  A : Option Addr
  n : Nat
  c : Nat
  l : List Int

def total : List Row → Nat
  | [] => 0
  | r :: rs => r.n + total rs
def flat : List Row → List Int
  | [] => []
  | r :: rs => r.l ++ flat rs

theorem take_more {rs : List Row} {k : Nat} {r : Row} (h : rs[k]? = some r) : rs.take (k + 1) = rs.take k ++ [r] := by
  obtain ⟨hk, e⟩ := List.getElem?_eq_some_iff.1 h
  rw [List.take_succ_eq_append_getElem hk, e]
theorem total_append (a b : List Row) : total (a ++ b) = total a + total b := by
  induction a with
  | nil => simp [total]
  | cons r a ih => simp [total, ih]; omega
theorem flat_append (a b : List Row) : flat (a ++ b) = flat a ++ flat b := by
  induction a with
  | nil => rfl
  | cons r a ih => simp [flat, ih]
theorem total_take {rs : List Row} {k : Nat} {r : Row} (h : rs[k]? = some r) : total (rs.take (k + 1)) = total (rs.take k) + r.n := by rw [take_more h, total_append]; rfl
theorem flat_take {rs : List Row} {k : Nat} {r : Row} (h : rs[k]? = some r) : flat (rs.take (k + 1)) = flat (rs.take k) ++ r.l := by rw [take_more h, flat_append]; simp [flat]
theorem total_le (rs : List Row) (k : Nat) : total (rs.take k) ≤ total rs := by
  have := total_append (rs.take k) (rs.drop k)
  rw [List.take_append_drop] at this
  omega

/-- The slice of slices at block b holds the rows. -/
def All (w : World) (B b : Nat) (rs : List Row) : Prop :=
  b < B ∧ ∀ k r, rs[k]? = some r → w.cell? ⟨b, k, none⟩ = some (.slice r.A r.n r.c) ∧ Holds w B r.A r.n r.c r.l

theorem both_any (b m c : Nat) (rs : List Row) (w : World) (h : All w w.heap.size b rs) (hm : rs.length = m) (h1 : m ≤ 1000) (h2 : total rs ≤ 1048576) :
    Calls Tryz.prog 7 #[.slice (some ⟨b, 0, none⟩) m c] w fun e w' => ∃ v, e = .returned v ∧ Owns w' w.heap.size v (total rs) (flat rs) ∧ Below w.heap.size w w' := by
  have hm' := Lib.hid hm
  clear hm
  go_enter Tryz.func7, Tryz.ntmps7
  go_wp2
  go_loopw [3, 4] (fun s i wr => ∃ (k : Nat) (v : Value), k ≤ m ∧ i = .int .i64 k ∧ s = v ∧ Owns wr w.heap.size v (total (rs.take k)) (flat (rs.take k)) ∧ Below w.heap.size w wr) (fun _ i _ => m - (intOf i).toNat)
  case atStart => exact ⟨0, _, by omega, rfl, rfl, Owns.nil _ _, Below.refl _ _⟩
  case round =>
    obtain ⟨k, v, hk, rfl, hs, ho, hb⟩ := hrel
    replace hs := hs.symm
    subst hs
    by_cases hlt : k < m
    · have hk' : k < rs.length := by rw [hm'.out]; exact hlt
      have hr := Lib.hid (List.getElem?_eq_getElem hk')
      generalize rs[k] = r at hr
      obtain ⟨hc, hh⟩ := h.2 k r hr.out
      have hc' := (hb.cell (p := ⟨b, k, none⟩) h.1).trans hc
      have hh' := hh.below hb
      have ht := Lib.hid (total_take hr.out)
      have hl := total_le rs (k + 1)
      have hl' : total (rs.take k) + r.n ≤ 1048576 := by have := ht.out; omega
      clear hc hl
      go_wp2_with (at_builtin
                   refine wpList_append_bytes rfl (.tmp 11) (.tmp 15) rfl w.heap.size v _ _ rfl ho w.heap.size r.A r.n r.c r.l rfl hh' hl' hb.size ?_
                   intro v1 w1 ho1 hg1 hat1)
      go_roundw
      case rel => exact ⟨k + 1, _, by omega, by go_num, rfl, by rw [ht.out, flat_take hr.out]; exact ho1, hb.grown hg1 hb.size fun g hg => (ho.lt g hg).1⟩
      case measure => simp [intOf]; omega
    · have e : rs.take k = rs := List.take_of_length_le (by rw [hm'.out]; omega)
      rw [e] at ho
      clear e
      go_wp2
      go_ret
      exact ⟨v, rfl, ho, hb⟩

/-- Rows in a new slice of slices. -/
theorem All.lit {w : World} {B : Nat} (hB : B ≤ w.heap.size) (rs : List Row) (cs : Array Value) (t : TypeId) (hc : cs.toList = rs.map fun r => Value.slice r.A r.n r.c) (h : ∀ r ∈ rs, Holds w B r.A r.n r.c r.l) :
    All (w.alloc (.cells cs t)) (w.heap.size + 1) w.heap.size rs := by
  refine ⟨by omega, fun k r hk => ⟨?_, ((h r (List.mem_of_getElem? hk)).below ((Below.refl _ w).alloc hB _)).more (by omega)⟩⟩
  rw [cell_of_row _ w.heap.size k _ t (0, 0) (heap_alloc_new w _), ← Array.getElem?_toList, hc, List.getElem?_map, hk]
  rfl

theorem both_lit {w : World} {B : Nat} (hB : B ≤ w.heap.size) (rs : List Row) (cs : Array Value) (t : TypeId) (hc : cs.toList = rs.map fun r => Value.slice r.A r.n r.c) (h : ∀ r ∈ rs, Holds w B r.A r.n r.c r.l)
    (g m : Nat) (hg : w.heap.size = g) (hm : rs.length = m) (h1 : m ≤ 1000) (h2 : total rs ≤ 1048576) :
    Calls Tryz.prog 7 #[.slice (some ⟨g, 0, none⟩) m m] (w.alloc (.cells cs t)) fun e w' =>
      ∃ A' c', e = .returned (.slice A' (total rs) c') ∧ Holds w' w'.heap.size A' (total rs) c' (flat rs) ∧ Owns w' w.heap.size (.slice A' (total rs) c') (total rs) (flat rs) ∧ Below w.heap.size w w' := by
  subst hg
  have a := All.lit hB rs cs t hc h
  refine (both_any w.heap.size m m rs _ (by simpa using a) hm h1 h2).mono fun e w' ⟨v, he, ho, hb⟩ => ?_
  obtain ⟨A', c', hv, hh⟩ := ho.slice
  subst hv
  exact ⟨A', c', he, hh, ho.mono (by simp), ((Below.refl _ w).alloc (Nat.le_refl _) _).trans (hb.mono (by simp))⟩

theorem mem1 {P : Row → Prop} {a : Row} (ha : P a) : ∀ r ∈ [a], P r := by
  intro r h
  simp at h
  subst h
  exact ha
theorem mem2 {P : Row → Prop} {a b : Row} (ha : P a) (hb : P b) : ∀ r ∈ [a, b], P r := by
  intro r h
  simp at h
  rcases h with rfl | rfl
  · exact ha
  · exact hb
theorem mem3 {P : Row → Prop} {a b c : Row} (ha : P a) (hb : P b) (hc : P c) : ∀ r ∈ [a, b, c], P r := by
  intro r h
  simp at h
  rcases h with rfl | rfl | rfl
  · exact ha
  · exact hb
  · exact hc

end Go.Proofs.YtdnkbefpbehllaaGreatDoor.Both

/- The document's words of layer 12: plain facts; the contracts of Length, Seal. -/
set_option linter.unusedVariables false
namespace Go.Proofs.YtdnkbefpbehllaaGreatDoor.PadR
open Go.RowKit Go.Proofs.YtdnkbefpbehllaaGreatDoor.Sums Go.Proofs.YtdnkbefpbehllaaGreatDoor.Mem Go.Proofs.YtdnkbefpbehllaaGreatDoor.Blk

/-- How long it is once sealed; how much stands between. -/
def long (n : Nat) : Nat := (n + 5) / 4 * 4
def cnt (n : Nat) : Nat := long n - n - 2
theorem cnt_lt (n : Nat) : cnt n < 4 := by unfold cnt long; omega
theorem cnt_long (n : Nat) : n + cnt n + 2 = long n := by unfold cnt long; omega
theorem cnt_stop {n k : Nat} (h : k ≤ cnt n) : ((n + k + 2) % 4 = 0) ↔ k = cnt n := by unfold cnt long at *; omega
/-- One, two, .. -/
def ups (k : Nat) : List Int := (List.range k).map fun i : Nat => ((i : Int) + 1)
theorem ups_len (k : Nat) : (ups k).length = k := by simp [ups]
theorem ups_next (k : Nat) : ups (k + 1) = ups k ++ [(k : Int) + 1] := by simp [ups, List.range_succ]
theorem ups_in {k : Nat} (h : k ≤ 255) : Bytes (ups k) := by
  intro z hz
  simp only [ups, List.mem_map, List.mem_range] at hz
  obtain ⟨i, hi, rfl⟩ := hz
  omega
def sealed (b : List Int) (next : Int) : List Int := b ++ ups (cnt b.length) ++ [(cnt b.length : Int), next]
def lengthI (n : Int) : Nat := if n < 0 then 0 else long n.toNat

theorem length_ref (n : Int) (hn : n ≤ 1000000) (w : World) : Calls Tryz.prog 18 #[.int .i64 n] w fun e w' => e = .returned (.int .i64 ((lengthI n : Nat) : Int)) ∧ w = w' := by
  by_cases h : n < 0
  · have E : Hid (lengthI n = 0) := Lib.hid (if_pos h)
    have g : decide (n < 0) = true := decide_eq_true h
    go_enter Tryz.func18, Tryz.ntmps18
    go_wp2_with fail
    go_ret
    exact ⟨by rw [E.out]; rfl, rfl⟩
  · obtain ⟨m, rfl⟩ : ∃ m : Nat, n = (m : Int) := ⟨n.toNat, by omega⟩
    have E : Hid (lengthI (m : Int) = m + 2 + cnt m) := Lib.hid (by
      unfold lengthI
      rw [if_neg h, Int.toNat_natCast]
      have := cnt_long m
      omega)
    have g : decide ((m : Int) < 0) = false := decide_eq_false h
    have CL := Lib.hid (cnt_lt m)
    obtain ⟨a, ha⟩ : ∃ a, a = m + 2 := ⟨_, rfl⟩
    have f1 : IntKind.i64.wrap ((m : Int) + 2) = (a : Int) := by rw [IntWalk.i64_in _ (by omega)]; omega
    have AE := Lib.hid ha
    clear ha h
    go_enter Tryz.func18, Tryz.ntmps18
    go_wp2_with fail
    clear f1 g
    go_loopw [0] (fun kv wr => ∃ k q : Nat, kv = .int .i64 (q : Int) ∧ Hid (q = m + 2 + k) ∧ Hid (k ≤ cnt m) ∧ Hid (wr = w)) (fun kv _ => m + 10 - (intOf kv).toNat)
    case atStart => exact ⟨0, a, by first | rfl | (have := AE.out; congr 1; omega), Lib.hid AE.out, Lib.hid (Nat.zero_le _), Lib.hid rfl⟩
    case round =>
      obtain ⟨k, q, rfl, HQ, HK, HW⟩ := hrel
      obtain rfl := HW.out
      have ZS : Hid (q % 4 = 0 ↔ k = cnt m) := Lib.hid (by rw [HQ.out, show m + 2 + k = m + k + 2 by omega]; exact cnt_stop HK.out)
      have qb : q ≤ 1000010 := by have := HQ.out; have := HK.out; have := CL.out; omega
      obtain ⟨r, hr⟩ : ∃ r, r = q % 4 := ⟨_, rfl⟩
      have em : (q : Int).tmod 4 = (r : Int) := by rw [Int.tmod_eq_emod_of_nonneg (by omega)]; omega
      rw [← hr] at ZS
      clear hr
      by_cases hz : k = cnt m
      · have g : ((r : Int) != 0) = false := by have := ZS.out.2 hz; subst this; rfl
        have F : Hid (q = lengthI (m : Int)) := Lib.hid (by rw [E.out, HQ.out, hz])
        clear ZS hz HQ HK E
        go_wp2_with fail
        go_ret
        exact ⟨by rw [← F.out]; rfl, rfl⟩
      · have g : ((r : Int) != 0) = true := by
          rw [bne_iff_ne]
          intro e
          exact hz (ZS.out.1 (by omega))
        have HK2 : Hid (k + 1 ≤ cnt m) := Lib.hid (by have := HK.out; omega)
        have HQ2 : Hid (q + 1 = m + 2 + (k + 1)) := Lib.hid (by have := HQ.out; omega)
        have MS : Hid (q < m + 6) := Lib.hid (by have := HQ.out; have := HK.out; have := CL.out; omega)
        clear ZS hz HQ HK E
        go_wp2_with fail
        go_roundw
        case rel => exact ⟨k + 1, q + 1, by go_num, HQ2, HK2, Lib.hid (by trivial)⟩
        case measure => have := MS.out; simp [intOf]; omega

theorem seal_arg (A : Option Addr) (n c : Nat) (x : Int) (w : World) (h : x < 0 ∨ 255 < x) : Calls Tryz.prog 28 #[.slice A n c, .int .i64 x] w fun e w' => e = .returned (.tuple #[.slice none 0 0, .int .i64 1]) ∧ w = w' := by
  go_enter Tryz.func28, Tryz.ntmps28
  rcases h with h | h
  · have g : decide (x < 0) = true := decide_eq_true h
    go_wp2_with fail
    go_ret2
    exact ⟨rfl, rfl⟩
  · have g : decide (x < 0) = false := decide_eq_false (by omega)
    have g2 : decide (255 < x) = true := decide_eq_true h
    go_wp2_with fail
    go_ret2
    exact ⟨rfl, rfl⟩
theorem seal_long (A : Option Addr) (n c : Nat) (x : Int) (w : World) (h0 : 0 ≤ x) (h1 : x ≤ 255) (hn : 65535 < n) (h3 : n ≤ 140737488355328) : Calls Tryz.prog 28 #[.slice A n c, .int .i64 x] w fun e w' => e = .returned (.tuple #[.slice none 0 0, .int .i64 2]) ∧ w = w' := by
  have g : decide (x < 0) = false := decide_eq_false (by omega)
  have g2 : decide (255 < x) = false := decide_eq_false (by omega)
  have g3 : decide ((65535 : Int) < (n : Int)) = true := decide_eq_true (by omega)
  go_enter Tryz.func28, Tryz.ntmps28
  go_wp2_with fail
  go_ret2
  exact ⟨rfl, rfl⟩

set_option maxHeartbeats 1000000 in
theorem seal_ok (A : Option Addr) (n c : Nat) (l : List Int) (x : Int) (w : World) (B : Nat) (h : Holds w B A n c l) (hB : B ≤ w.heap.size) (h0 : 0 ≤ x) (h1 : x ≤ 255) (hn : n ≤ 65535) :
    Calls Tryz.prog 28 #[.slice A n c, .int .i64 x] w fun e w' => ∃ v, e = .returned (.tuple #[v, .int .i64 0]) ∧ Owns w' w.heap.size v (long n) (sealed l x) ∧ Below w.heap.size w w' := by
  have H := Lib.hid h
  have g : decide (x < 0) = false := decide_eq_false (by omega)
  have g2 : decide (255 < x) = false := decide_eq_false (by omega)
  have g3 : decide ((65535 : Int) < (n : Int)) = false := decide_eq_false (by omega)
  have CL := Lib.hid (cnt_lt n)
  have LL := Lib.hid (cnt_long n)
  have SE : Hid (sealed l x = l ++ ups (cnt n) ++ [(cnt n : Int), x]) := Lib.hid (by unfold sealed; rw [h.1])
  clear h
  go_enter Tryz.func28, Tryz.ntmps28
  go_wp2_with fail
  refine (Both.both_lit (B := w.heap.size) (Nat.le_refl _) [⟨A, n, c, l⟩] _ _ rfl (Both.mem1 (H.out.more hB)) _ 1 rfl rfl (by decide) (by show n + 0 ≤ 1048576; omega)).mono ?_
  rintro e w1 ⟨A1, c1, rfl, _, o1, hb⟩
  have e1 : Both.flat [⟨A, n, c, l⟩] = l ++ ups 0 := by simp [Both.flat, ups]
  have e0 : Both.total [⟨A, n, c, l⟩] = n := rfl
  rw [e1, e0] at o1
  rw [e0]
  have O1 := Lib.hid o1
  have B1 := Lib.hid hb
  clear o1 hb e1 e0 H g g2 g3
  go_wp2_with fail
  go_loopw [6, 7] (fun ov kv wr => ∃ k q : Nat, kv = .int .i64 (k : Int) ∧ Hid (q = n + k) ∧ Hid (k ≤ cnt n) ∧ Hid (Owns wr w.heap.size ov q (l ++ ups k)) ∧ Hid (Below w.heap.size w wr)) (fun _ kv _ => 4 - (intOf kv).toNat)
  case atStart => exact ⟨0, n, rfl, Lib.hid rfl, Lib.hid (Nat.zero_le _), O1, B1⟩
  case round =>
    obtain ⟨k, q, rfl, HQ, HK, HO, HB⟩ := hrel
    clear O1 B1
    obtain ⟨Av, cv, rfl, _⟩ := HO.out.slice
    have ZS : Hid ((q + 2) % 4 = 0 ↔ k = cnt n) := Lib.hid (by rw [HQ.out]; exact cnt_stop HK.out)
    have qb : q ≤ 65540 := by have := HQ.out; have := HK.out; have := CL.out; omega
    have kb : k ≤ 3 := by have := HK.out; have := CL.out; omega
    obtain ⟨r, hr⟩ : ∃ r, r = (q + 2) % 4 := ⟨_, rfl⟩
    have f1 : IntKind.i64.wrap ((q : Int) + 2) = (q : Int) + 2 := IntWalk.i64_in _ (by omega)
    have em : ((q : Int) + 2).tmod 4 = (r : Int) := by rw [Int.tmod_eq_emod_of_nonneg (by omega)]; omega
    rw [← hr] at ZS
    clear hr
    have HBS := HB.out.size
    by_cases hz : k = cnt n
    · have g : ((r : Int) != 0) = false := by have := ZS.out.2 hz; subst this; rfl
      have u1 : IntKind.u8.wrap (k : Int) = (k : Int) := by rw [IntKind.wrap_u8]; omega
      have u2 : IntKind.u8.wrap x = x := by rw [IntKind.wrap_u8]; omega
      have SE2 : Hid (l ++ ups k ++ [(k : Int), x] = sealed l x) := Lib.hid (by rw [SE.out, hz])
      have QL : Hid (q + 2 = long n) := Lib.hid (by have := HQ.out; have := LL.out; rw [← hz] at this; omega)
      have zb : Bytes [(k : Int), x] := fun z hz => by simp at hz; omega
      generalize wr = wo at *
      clear ZS hz HQ HK SE
      go_wp2_with (at_builtin
                   refine wpList_append_bytes rfl (.tmp 32) (.tmp 37) rfl w.heap.size _ q _ rfl (HO.out.alloc _) _ _ 2 2 [(k : Int), x] rfl (Holds.lit wo [(k : Int), x] _ rfl (by simp [maxLen]) zb) (by omega) (by simp; omega) ?_
                   intro v1 w9 o9 g9 hat9)
      rw [SE2.out, QL.out] at o9
      have OX := Lib.hid o9
      have BX := Lib.hid ((HB.out.alloc HBS _).grown g9 (by simp; omega) fun g hg => (HO.out.lt g hg).1)
      clear o9 g9 hat9 HO HB HBS
      go_wp2_with fail
      go_ret2
      exact ⟨_, rfl, OX.out, BX.out⟩
    · have g : ((r : Int) != 0) = true := by
        rw [bne_iff_ne]
        intro e
        exact hz (ZS.out.1 (by omega))
      have f2 : IntKind.i64.wrap ((k : Int) + 1) = (k : Int) + 1 := IntWalk.i64_in _ (by omega)
      have u1 : IntKind.u8.wrap ((k : Int) + 1) = (k : Int) + 1 := by rw [IntKind.wrap_u8]; omega
      have HK2 : Hid (k + 1 ≤ cnt n) := Lib.hid (by have := HK.out; omega)
      have HQ2 : Hid (q + 1 = n + (k + 1)) := Lib.hid (by have := HQ.out; omega)
      have zb : Bytes [(k : Int) + 1] := fun z hz => by simp at hz; omega
      clear ZS hz HQ HK SE
      go_wp2_with (at_builtin
                   refine wpList_append_bytes rfl (.tmp 27) (.tmp 30) rfl w.heap.size _ q _ rfl (HO.out.alloc _) _ _ 1 1 [(k : Int) + 1] rfl (Holds.lit wr [(k : Int) + 1] _ rfl (by simp [maxLen]) zb) (by omega) (by simp; omega) ?_
                   intro v1 w9 o9 g9 hat9)
      have OX : Hid (Owns w9 w.heap.size v1 (q + 1) (l ++ ups (k + 1))) := Lib.hid (by rw [ups_next, ← List.append_assoc]; exact o9)
      have BX := Lib.hid ((HB.out.alloc HBS _).grown g9 (by simp; omega) fun g hg => (HO.out.lt g hg).1)
      clear o9 g9 hat9 HO HB HBS
      go_roundw
      case rel => exact ⟨k + 1, q + 1, by go_num, HQ2, HK2, OX, BX⟩
      case measure => simp [intOf]; omega
end Go.Proofs.YtdnkbefpbehllaaGreatDoor.PadR

/- The document's words of layer 12: the contract of Open. -/
set_option linter.unusedVariables false
namespace Go.Proofs.YtdnkbefpbehllaaGreatDoor.PadO
open Go.RowKit Go.Proofs.YtdnkbefpbehllaaGreatDoor.Sums Go.Proofs.YtdnkbefpbehllaaGreatDoor.Mem Go.Proofs.YtdnkbefpbehllaaGreatDoor.Blk Go.Proofs.YtdnkbefpbehllaaGreatDoor.Bits Go.Proofs.YtdnkbefpbehllaaGreatDoor.Ints Go.Proofs.YtdnkbefpbehllaaGreatDoor.Free Go.Proofs.YtdnkbefpbehllaaGreatDoor.Steps Go.Proofs.YtdnkbefpbehllaaGreatDoor.Ops Go.Proofs.YtdnkbefpbehllaaGreatDoor.PadR

/-- How much stands behind, as the row tells; is it in order? -/
def told (l : List Int) : Nat := (l.getD (l.length - 2) 0).toNat
def okO (l : List Int) : Bool := decide (told l + 2 ≤ l.length) && (List.range (told l)).all fun i => decide (l.getD (l.length - 2 - told l + i) 0 = (i : Int) + 1)

theorem byte_bd {l : List Int} (h : Bytes l) (i : Nat) : 0 ≤ l.getD i 0 ∧ l.getD i 0 ≤ 255 := by
  rw [List.getD_eq_getElem?_getD]
  cases e : l[i]? with
  | none => decide
  | some z => exact h z (List.mem_of_getElem? e)
theorem open_more (A : Option Addr) (n c : Nat) (w : World) (hn : n < 2) : Calls Tryz.prog 40 #[.slice A n c] w fun e w' => e = .returned (.tuple #[.slice none 0 0, .int .i64 0, .int .i64 8]) ∧ w = w' := by
  have g : decide ((n : Int) < 2) = true := decide_eq_true (by omega)
  go_enter Tryz.func40, Tryz.ntmps40
  go_wp2_with fail
  go_ret3
  exact ⟨rfl, rfl⟩

theorem byte_elem (w : World) : (sizeOf (Tryz.prog.elem 25)).run Tryz.prog w = .ok 1 w := by kernel_rfl
theorem cut_to (A : Option Addr) (n c k : Nat) (hk : k ≤ n) (hn : n ≤ c) : ∃ A1, (A1 = A) ∧ ∀ w, (Instr.sliceAt 25 (.slice A n c) none (some (.int .i64 (k : Int))) none).run Tryz.prog w = .ok (.slice A1 k c) w := by
  refine ⟨A, rfl, fun w => ?_⟩
  rw [run_sliceAt_slice (P := Tryz.prog) (h := (by kernel_rfl)), run_slice_h (P := Tryz.prog) (w := w) (t := 25) (a := A) (len := n) (cap := c) (ht := (by kernel_rfl)) .i64 (k : Int) (by omega) (by omega), byte_elem]
  simp only [Result.andThen_ok, sliced, Int.toNat_natCast, Nat.zero_mul, Nat.sub_zero]
  by_cases h : c = 0
  · rw [if_pos h]
  · rw [if_neg h]
    cases A with
    | none => rfl
    | some a => simp [Addr.add]
theorem b_sub (a b : Int) (x y : Operand) (w : World) (h0 : -9223372036854775808 ≤ a - b) (h1 : a - b ≤ 9223372036854775807) : (do eqGuard .sub 3 x y (.int .i64 a) (.int .i64 b); binOp .sub 3 (.int .i64 a) (.int .i64 b) : Sem Value).run Tryz.prog w = .ok (.int .i64 (a - b)) w := by
  have e : IntKind.i64.wrap (a - b) = a - b := IntWalk.i64_in _ (by omega)
  simp [go_sem, eqGuard, e]
theorem st_byte_atz {o : Oper} {a : Act} {w : World} {K : Act → World → Prop} {Q : Exit → Act → World → Prop} (x y : Operand) (ho : o.op = .indexAddr 25 x y)
    (b p n c i : Nat) (z : Int) (hx : a.eval x = .slice (some ⟨b, p, none⟩) n c) (hy : a.eval y = .int .i64 z) (hz : z = (i : Int)) (hi : i < n)
    (h : K (a.put o.dst (.pointer (some ⟨b, p + i, none⟩))) w) : Step Tryz.prog o a w K Q := by
  subst hz
  exact st_byte_at (w := w) (Q := Q) x y ho b p n c i hx hy hi h
theorem ent_both : Enters Tryz.prog 7 := enters_of Tryz.func7 (by kernel_rfl) rfl
theorem all_up {w w' : World} {g : Nat} {rs : List Both.Row} (h : Both.All w w.heap.size g rs) (hb : Below w.heap.size w w') : Both.All w' w'.heap.size g rs :=
  ⟨Nat.lt_of_lt_of_le h.1 hb.size, fun k r hr => ⟨(hb.cell (p := ⟨g, k, none⟩) h.1).trans (h.2 k r hr).1, ((h.2 k r hr).2.below hb).more hb.size⟩⟩
theorem run_rows_1 (w : World) (v : Value) : (Instr.buildSlice 40 1 #[(0, v)]).run Tryz.prog w = (Instr.buildSlice 40 1 #[(0, v)]).run Tryz.prog w := rfl
theorem st_rows_1 {o : Oper} {a : Act} {w : World} {K : Act → World → Prop} {Q : Exit → Act → World → Prop} (x1 : Operand) (ho : o.op = .buildSlice 40 1 #[(0, x1)]) (A : Option Addr) (n c : Nat) (h1 : a.eval x1 = .slice A n c)
    (hK : K (a.put o.dst (.slice (some ⟨w.heap.size, 0, none⟩) 1 1)) (w.alloc (.cells #[.slice A n c] 25))) : Step Tryz.prog o a w K Q := by
  constructor
  have hb : (Instr.buildSlice 40 1 #[(0, .slice A n c)]).run Tryz.prog w = .ok (.slice (some ⟨w.heap.size, 0, none⟩) 1 1) (w.alloc (.cells #[.slice A n c] 25)) := by kernel_rfl
  have hr : (execOp a.eval o).run Tryz.prog w = .ok (.value (.slice (some ⟨w.heap.size, 0, none⟩) 1 1)) (w.alloc (.cells #[.slice A n c] 25)) := by
    simp [execOp, ho, h1, hb, Result.andThen]
  unfold Oper.wp
  rw [hr]
  exact hK
theorem all_take {l : List Int} {m b : Nat} : (List.range m).all (fun i => decide (l.getD (b + i) 0 = (i : Int) + 1)) = true ↔ ∀ i, i < m → l.getD (b + i) 0 = (i : Int) + 1 := by
  simp [List.all_eq_true]

set_option maxHeartbeats 2000000 in
set_option maxRecDepth 100000 in
/-- A row of two bytes and more is opened, or told that it is out of order. -/
theorem open_ref (A : Option Addr) (n c : Nat) (l : List Int) (w : World) (B : Nat) (h : Holds w B A n c l) (hB : B ≤ w.heap.size) (hn : 2 ≤ n) (h3 : n ≤ 1000000) :
    Calls Tryz.prog 40 #[.slice A n c] w fun e w' => (okO l = false ∧ e = .returned (.tuple #[.slice none 0 0, .int .i64 0, .int .i64 130]) ∧ w = w') ∨
      (okO l = true ∧ ∃ v, e = .returned (.tuple #[v, .int .i64 (l.getD (n - 1) 0), .int .i64 0]) ∧ Owns w' w.heap.size v (n - 2 - told l) (l.take (n - 2 - told l)) ∧ Below w.heap.size w w') := by
  obtain ⟨b, p, rfl, hbx⟩ := h.2.2.2.2 (by omega)
  clear hbx
  have HK := Lib.hid h
  have hnc := h.2.1
  have LN := Lib.hid h.1
  have BY := Lib.hid (fun i => byte_bd h.2.2.2.1 i)
  obtain ⟨n2, hn2⟩ : ∃ n2, n2 = n - 2 := ⟨_, rfl⟩
  have f0 : (n : Int) - 2 = (n2 : Int) := by omega
  have f1 : IntKind.i64.wrap ((n : Int) - 2) = (n2 : Int) := by rw [IntWalk.i64_in _ (by omega)]; exact f0
  have c2 := cell_getD h n2 (by omega)
  obtain ⟨m, hm⟩ : ∃ m, m = told l := ⟨_, rfl⟩
  have TM : l.getD n2 0 = (m : Int) := by
    rw [hm, told, h.1, ← hn2]
    have := BY.out n2
    omega
  have mb : m ≤ 255 := by have := BY.out n2; omega
  rw [TM] at c2
  have OK : Hid (okO l = (decide (m + 2 ≤ n) && (List.range m).all fun i => decide (l.getD (n2 - m + i) 0 = (i : Int) + 1))) := Lib.hid (by unfold okO; rw [← hm, h.1, hn2])
  have TH := Lib.hid hm
  have N2 := Lib.hid hn2
  have g : decide ((n : Int) < 2) = false := decide_eq_false (by omega)
  have bn2 : n2 < n := by omega
  rw [← hm]
  clear h hm TM
  by_cases hf : m + 2 ≤ n
  · obtain ⟨f, hfr⟩ : ∃ f, f = n2 - m := ⟨_, rfl⟩
    have f2 : IntKind.i64.wrap ((n2 : Int) - (m : Int)) = (f : Int) := by rw [IntWalk.i64_in _ (by omega)]; omega
    have g2 : decide ((f : Int) < 0) = false := decide_eq_false (by omega)
    have FE : Hid (n - 2 - m = f) := Lib.hid (by omega)
    have FN : Hid (f + m = n2 ∧ n2 + 2 = n) := Lib.hid (by omega)
    rw [← hfr, decide_eq_true hf, Bool.true_and] at OK
    rw [FE.out]
    obtain ⟨n1, hn1⟩ : ∃ n1, n1 = n - 1 := ⟨_, rfl⟩
    rw [← hn1]
    have C1' := cell_getD HK.out n1 (by omega)
    have q1 : (n : Int) - 1 = (n1 : Int) := by omega
    have l1 : n1 < n := by omega
    have HT : Hid (Holds w B (some ⟨b, p, none⟩) f c (l.take f)) := Lib.hid (HK.out.upto (by omega))
    have fb : f ≤ 1000000 := by omega
    have fnn : f ≤ n := by omega
    obtain ⟨y, hy⟩ : ∃ y, y = l.getD n1 0 := ⟨_, rfl⟩
    obtain ⟨lf, hlf⟩ : ∃ lf, lf = l.take f := ⟨_, rfl⟩
    have lb : 0 ≤ y ∧ y ≤ 255 := by rw [hy]; exact BY.out n1
    rw [← hy] at C1' ⊢
    rw [← hlf] at HT ⊢
    have C1C := Lib.hid C1'
    have XC : Hid (∀ w' : World, Below w.drew.heap.size w.drew w' → w'.cell? ⟨b, p + n1, none⟩ = some (.int .u8 y) ∧ Holds w' B (some ⟨b, p, none⟩) f c lf ∧ B ≤ w'.heap.size ∧ w.heap.size ≤ w'.heap.size) := Lib.hid fun w' hw => by
      have hx := (below_drewN (Below.refl w.heap.size w) 1).trans hw
      have cx := cell_getD (HK.out.below (hx.mono hB)) n1 l1
      rw [← hy] at cx
      exact ⟨cx, HT.out.below (hx.mono hB), Nat.le_trans hB hx.size, hx.size⟩
    clear hn2 hfr hf f0 hn1 hy hlf C1' C1C
    go_enter Tryz.func40, Tryz.ntmps40
    go_wp2_with fail
    clear c2 f1 f2
    go_loopw [7] (fun kv wr => ∃ i : Nat, kv = .int .i64 (i : Int) ∧ i ≤ m ∧ Hid (∀ t, t < i → l.getD (f + t) 0 = (t : Int) + 1) ∧ Hid (wr = w)) (fun kv _ => m - (intOf kv).toNat)
    case atStart => exact ⟨0, rfl, by omega, Lib.hid (fun t ht => by omega), Lib.hid rfl⟩
    case round =>
      obtain ⟨i, rfl, hi, HA, HW⟩ := hrel
      obtain rfl := HW.out
      by_cases hlt : i < m
      · obtain ⟨s, hs⟩ : ∃ s, s = f + i := ⟨_, rfl⟩
        have fn := FN.out
        have q1 : IntKind.i64.wrap ((f : Int) + (i : Int)) = (s : Int) := by rw [IntWalk.i64_in _ (by omega)]; omega
        have cs := cell_getD HK.out s (by omega)
        have sb : s < n := by omega
        have yb := BY.out s
        have NX : Hid (l.getD s 0 = (i : Int) + 1 → ∀ t, t < i + 1 → l.getD (f + t) 0 = (t : Int) + 1) := Lib.hid fun e t ht => by
          by_cases q : t = i
          · subst q; rw [← hs]; exact e
          · exact HA.out t (by omega)
        have BAD : Hid (l.getD s 0 ≠ (i : Int) + 1 → okO l = false) := Lib.hid fun e => by
          rw [OK.out, List.all_eq_false]
          exact ⟨i, List.mem_range.2 hlt, by rw [← hs]; simpa using e⟩
        generalize l.getD s 0 = y at *
        obtain ⟨Y, rfl⟩ : ∃ Y : Nat, y = (Y : Int) := ⟨y.toNat, by omega⟩
        have u1 : IntKind.i64.wrap (Y : Int) = (Y : Int) := IntWalk.i64_in _ (by omega)
        have u2 : IntKind.i64.wrap ((i : Int) + 1) = (i : Int) + 1 := IntWalk.i64_in _ (by omega)
        clear fn hs HA
        by_cases e : (Y : Int) = (i : Int) + 1
        · have g5 : ((Y : Int) != (i : Int) + 1) = false := by simp [e]
          have HA2 := Lib.hid (NX.out e)
          clear NX BAD e
          go_wp2_with fail
          go_roundw
          case rel => exact ⟨i + 1, by go_num, by omega, HA2, Lib.hid (by trivial)⟩
          case measure => simp [intOf]; omega
        · have g5 : ((Y : Int) != (i : Int) + 1) = true := by rw [bne_iff_ne]; exact e
          have F := Lib.hid (BAD.out e)
          clear NX BAD e
          go_wp2_with fail
          go_ret3
          exact .inl ⟨F.out, rfl, rfl⟩
      · obtain rfl : i = m := by omega
        have OT : Hid (okO l = true) := Lib.hid (by rw [OK.out]; exact all_take.2 HA.out)
        obtain ⟨A1, eA, CT⟩ := cut_to (some ⟨b, p, none⟩) n c f fnn hnc
        subst eA
        have C1 := Lib.hid CT
        clear CT HA
        go_wp2_with fail
        refine wp_region_free [0, 1, 2, 3, 4, 5, 6, 7, 8, 9, 10, 11, 12] 13 [14] (fun w1 w2 => Below w1.heap.size w1 w2) (fun k' w' v => match k' with
          | 0 => v = .slice (some ⟨b, p, none⟩) n c
          | 1 => v = .int .i64 ((f : Int))
          | 2 => v = .slice (some ⟨b, p, none⟩) f c
          | 3 => ∃ g1, v = .slice (some ⟨g1, 0, none⟩) 1 1 ∧ Both.All w' w'.heap.size g1 [⟨some ⟨b, p, none⟩, f, c, lf⟩]
          | 4 => Owns w' wr.heap.size v f lf
          | 5 => v = .slice (some ⟨b, p, none⟩) n c
          | 6 => v = .slice (some ⟨b, p, none⟩) n c
          | 7 => v = .int .i64 ((n : Int))
          | 8 => v = .int .i64 ((n : Int) - 1)
          | 9 => v = .pointer (some ⟨b, p + n1, none⟩)
          | 10 => v = .int .u8 y
          | 11 => v = .int .i64 y
          | _ => Owns w' wr.heap.size v f lf) (by kernel_rfl) (by kernel_rfl) (Below.refl _ _) (fun _ _ _ h k => h.trans (k.mono h.size)) (fun k' w1 w2 v h => match k' with
          | 0 => fun x => x
          | 1 => fun x => x
          | 2 => fun x => x
          | 3 => fun ⟨g1, e, x⟩ => ⟨g1, e, all_up x h⟩
          | 4 => fun x => x.below h (Nat.le_refl _)
          | 5 => fun x => x
          | 6 => fun x => x
          | 7 => fun x => x
          | 8 => fun x => x
          | 9 => fun x => x
          | 10 => fun x => x
          | 11 => fun x => x
          | _ + 12 => fun x => x.below h (Nat.le_refl _)) (fun _ _ _ _ _ h => h) ?_ _ (by rfl) ?_
        · refine obs_cons (by rfl) (fun vals w' hgr hdep K hK => ?_) (obs_cons (by rfl) (fun vals w' hgr hdep K hK => ?_) (obs_cons (by rfl) (fun vals w' hgr hdep K hK => ?_) (obs_cons (by rfl) (fun vals w' hgr hdep K hK => ?_) (obs_cons (by rfl) (fun vals w' hgr hdep K hK => ?_) (obs_cons (by rfl) (fun vals w' hgr hdep K hK => ?_) (obs_cons (by rfl) (fun vals w' hgr hdep K hK => ?_) (obs_cons (by rfl) (fun vals w' hgr hdep K hK => ?_) (obs_cons (by rfl) (fun vals w' hgr hdep K hK => ?_) (obs_cons (by rfl) (fun vals w' hgr hdep K hK => ?_) (obs_cons (by rfl) (fun vals w' hgr hdep K hK => ?_) (obs_cons (by rfl) (fun vals w' hgr hdep K hK => ?_) (obs_cons (by rfl) (fun vals w' hgr hdep K hK => ?_) (obs_nil)))))))))))))
          · exact wp_move (.tmp 0) rfl _ (at_out _ (by kernel_rfl) rfl) (hK _ _ (Below.refl _ _) rfl)
          · exact wp_move (.tmp 6) rfl _ (at_out _ (by kernel_rfl) rfl) (hK _ _ (Below.refl _ _) rfl)
          · exact wp_slice (.tmp 40) rfl _ _ none (some (.int .i64 (f : Int))) none ((at_dst 0 (by kernel_rfl)).trans (hdep 0 (by simp) (by kernel_rfl))) rfl (congrArg some ((at_dst 1 (by kernel_rfl)).trans (hdep 1 (by simp) (by kernel_rfl)))) rfl (C1.out w') (hK _ _ (Below.refl _ _) rfl)
          · exact st_rows_1 (.tmp 42) rfl _ _ _ ((at_dst 2 (by kernel_rfl)).trans (hdep 2 (by simp) (by kernel_rfl))) (hK _ _ ((Below.refl _ _).alloc (Nat.le_refl _) _) ⟨_, rfl, by have := Both.All.lit (XC.out w' hgr).2.2.1 [⟨some ⟨b, p, none⟩, f, c, lf⟩] #[.slice (some ⟨b, p, none⟩) f c] 25 rfl (Both.mem1 (XC.out w' hgr).2.1); simpa using this⟩)
          · obtain ⟨g1, eg, al⟩ := hdep 3 (by simp) (by kernel_rfl)
            exact wp_call 7 [.tmp 43] _ rfl ent_both [.slice (some ⟨g1, 0, none⟩) 1 1] (congrArg (fun z => [z]) ((at_dst 3 (by kernel_rfl)).trans eg)) (fun v w'' => Owns w'' wr.heap.size v f lf ∧ Below w'.heap.size w' w'') ((Both.both_any g1 1 1 _ w' al rfl (by decide) (by show f + 0 ≤ 1048576; omega)).mono fun e w'' ⟨v, h1, h2, h3⟩ => ⟨v, h1, by simpa [Both.total, Both.flat] using h2.mono (XC.out w' hgr).2.2.2, h3⟩) (fun v w'' ⟨h1, h2⟩ => hK v _ h2 h1)
          · exact wp_move (.tmp 0) rfl _ (at_out _ (by kernel_rfl) rfl) (hK _ _ (Below.refl _ _) rfl)
          · exact wp_move (.tmp 0) rfl _ (at_out _ (by kernel_rfl) rfl) (hK _ _ (Below.refl _ _) rfl)
          · exact st_len_bytes (.tmp 46) rfl _ _ _ ((at_dst 6 (by kernel_rfl)).trans (hdep 6 (by simp) (by kernel_rfl))) (hK _ _ (Below.refl _ _) rfl)
          · exact wp_bin (.tmp 47) (.const (.int .i64 1)) rfl _ _ _ ((at_dst 7 (by kernel_rfl)).trans (hdep 7 (by simp) (by kernel_rfl))) rfl (b_sub _ _ _ _ _ (by omega) (by omega)) (hK _ _ (Below.refl _ _) rfl)
          · exact st_byte_atz (.tmp 45) (.tmp 48) rfl b p n c n1 _ ((at_dst 5 (by kernel_rfl)).trans (hdep 5 (by simp) (by kernel_rfl))) ((at_dst 8 (by kernel_rfl)).trans (hdep 8 (by simp) (by kernel_rfl))) q1 l1 (hK _ _ (Below.refl _ _) rfl)
          · exact wp_load1 (.tmp 49) rfl ⟨b, p + n1, none⟩ ((at_dst 9 (by kernel_rfl)).trans (hdep 9 (by simp) (by kernel_rfl))) Tryz.underlying5 rfl _ ((XC.out w' hgr).1) (hK _ _ (Below.refl _ _) rfl)
          · exact wp_conv (.tmp 50) rfl _ _ ((at_dst 10 (by kernel_rfl)).trans (hdep 10 (by simp) (by kernel_rfl))) (conv_int _ _ (by omega) (by omega)) (hK _ _ (Below.refl _ _) rfl)
          · exact st_assign (.tmp 44) _ rfl (at_dst 4 (by kernel_rfl)) (hK _ _ (Below.refl _ _) (hdep 4 (by simp) (by kernel_rfl)))
        · intro vals w' hgr hG
          have o4 : Owns w' wr.heap.size (vals 12) f lf := hG 12 (by simp)
          refine st_assign (.tmp 51) _ rfl ((at_dst 11 (by kernel_rfl)).trans (hG 11 (by simp))) ?_
          refine wpAnyH_next 14 _ rfl rfl (by kernel_rfl) (st_assign (.const (.int .i64 0)) _ rfl rfl ⟨trivial, wpAnyH_done (by kernel_rfl) ?_ _⟩)
          have OX := Lib.hid o4
          have BX := Lib.hid ((below_drewN (Below.refl wr.heap.size wr) 1).trans hgr)
          clear hG hgr o4 XC C1 HT HK
          simp only [fill, dstAt, List.getElem?_cons_zero, List.getElem?_cons_succ, Option.bind_some, Act.put, List.setIfInBounds_toArray, List.set_cons_zero, List.set_cons_succ]
          generalize vals 0 = z0, vals 1 = z1, vals 2 = z2, vals 3 = z3, vals 4 = z4, vals 5 = z5, vals 6 = z6, vals 7 = z7, vals 8 = z8, vals 9 = z9, vals 10 = z10, vals 11 = z11, vals 12 = z12 at *
          go_wp2_with fail
          go_ret3
          exact .inr ⟨OT.out, _, rfl, OX.out, BX.out⟩
  · have OF : Hid (okO l = false) := Lib.hid (by rw [OK.out, decide_eq_false hf, Bool.false_and])
    have f2 : IntKind.i64.wrap ((n2 : Int) - (m : Int)) = (n2 : Int) - (m : Int) := IntWalk.i64_in _ (by omega)
    have g2 : decide ((n2 : Int) - (m : Int) < 0) = true := decide_eq_true (by omega)
    have g3 : ((n2 : Int) - (m : Int) < 0) = True := eq_true (by omega)
    have g4 : ((n2 : Int) < (m : Int)) = True := eq_true (by omega)
    clear hf hn2 f0 OK
    go_enter Tryz.func40, Tryz.ntmps40
    go_wp2_with fail
    go_ret3
    exact .inl ⟨OF.out, rfl, rfl⟩
end Go.Proofs.YtdnkbefpbehllaaGreatDoor.PadO

