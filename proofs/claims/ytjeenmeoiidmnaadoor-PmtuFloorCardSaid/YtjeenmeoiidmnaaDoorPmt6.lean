/- The document's cache: Is, Least, place, Get. -/
import Derived.Test.YtjeenmeoiidmnaaDoorPmtD
import Derived.Test.YtjeenmeoiidmnaaDoorStore
import Derived.Test.YtjeenmeoiidmnaaDoorLoads
import Derived.Test.YtjeenmeoiidmnaaDoorPart
import Derived.Test.YtjeenmeoiidmnaaDoorCom
import Derived.LoopTactic
import Derived.Lib.MinMax
set_option linter.unusedVariables false
set_option maxRecDepth 100000
namespace Go.Proofs.YtjeenmeoiidmnaaDoor.Pmt6
open Go.RowKit Go.Proofs.YtjeenmeoiidmnaaDoor.Sums Go.Proofs.YtjeenmeoiidmnaaDoor.Mem Go.Proofs.YtjeenmeoiidmnaaDoor.Blk Go.Proofs.YtjeenmeoiidmnaaDoor.RowN Go.Proofs.YtjeenmeoiidmnaaDoor.RowA Go.Proofs.YtjeenmeoiidmnaaDoor.MapK Go.Proofs.YtjeenmeoiidmnaaDoor.MapT Go.Proofs.YtjeenmeoiidmnaaDoor.Obj Go.Proofs.YtjeenmeoiidmnaaDoor.PmtM Go.Proofs.YtjeenmeoiidmnaaDoor.PmtD

theorem is_r (d : ByteArray) (w : World) : Calls Tryd.prog 23 #[.string d] w fun e w' => e = .returned (.bool (least d).isSome) ∧ w = w' := by
  by_cases q : d.size = 4
  · have E : Hid (least d = some 576) := Lib.hid (if_pos q)
    have g : ((d.size : Int) == 4) = true := by rw [beq_iff_eq]; omega
    go_enter Tryd.func23, Tryd.ntmps23
    go_wp2_with fail
    go_ret
    exact ⟨by rw [E.out]; rfl, rfl⟩
  · have g : ((d.size : Int) == 4) = false := by rw [beq_eq_false_iff_ne]; omega
    by_cases q2 : d.size = 16
    · have E : Hid (least d = some 1280) := Lib.hid (by unfold least; rw [if_neg q, if_pos q2])
      have g2 : ((d.size : Int) == 16) = true := by rw [beq_iff_eq]; omega
      go_enter Tryd.func23, Tryd.ntmps23
      go_wp2_with fail
      go_ret
      exact ⟨by rw [E.out]; rfl, rfl⟩
    · have E : Hid (least d = none) := Lib.hid (by unfold least; rw [if_neg q, if_neg q2])
      have g2 : ((d.size : Int) == 16) = false := by rw [beq_eq_false_iff_ne]; omega
      go_enter Tryd.func23, Tryd.ntmps23
      go_wp2_with fail
      go_ret
      exact ⟨by rw [E.out]; rfl, rfl⟩
theorem least_r (d : ByteArray) (l : Int) (hl : least d = some l) (w : World) : Calls Tryd.prog 27 #[.string d] w fun e w' => e = .returned (.int .i64 l) ∧ w = w' := by
  by_cases q : d.size = 4
  · have E : l = 576 := by unfold least at hl; rw [if_pos q] at hl; exact (Option.some.inj hl).symm
    subst E
    have g : ((d.size : Int) == 4) = true := by rw [beq_iff_eq]; omega
    clear hl
    go_enter Tryd.func27, Tryd.ntmps27
    go_wp2_with fail
    go_ret
    exact ⟨rfl, rfl⟩
  · have g : ((d.size : Int) == 4) = false := by rw [beq_eq_false_iff_ne]; omega
    have E : l = 1280 := by
      unfold least at hl
      rw [if_neg q] at hl
      split at hl
      · exact (Option.some.inj hl).symm
      · cases hl
    subst E
    clear hl
    go_enter Tryd.func27, Tryd.ntmps27
    go_wp2_with fail
    go_ret
    exact ⟨rfl, rfl⟩
/-- Where an address stands; -1: nowhere. -/
def pl (d : ByteArray) (es : List Ent) : Int := match at_ d es 0 with
  | some q => (q.1 : Int)
  | none => -1
theorem at_first {d : ByteArray} : ∀ (es : List Ent) (i0 i : Nat) (q : Ent), es[i]? = some q → q.1 = d → (∀ (j : Nat) (z : Ent), j < i → es[j]? = some z → z.1 ≠ d) → at_ d es i0 = some (i0 + i, q.2)
  | [], _, _, _, h, _, _ => by simp at h
  | z :: r, i0, 0, q, h, hq, _ => by
    simp at h
    subst h
    unfold at_
    rw [if_pos hq.symm]
    rfl
  | z :: r, i0, i + 1, q, h, hq, hn => by
    have hz := hn 0 z (by omega) rfl
    have ih := at_first r (i0 + 1) i q (by simpa using h) hq fun j y hj hy => hn (j + 1) y (by omega) (by simpa using hy)
    unfold at_
    rw [if_neg fun e => hz e.symm, ih]
    simp
    omega
theorem at_none {d : ByteArray} : ∀ (es : List Ent) (i0 : Nat), (∀ (j : Nat) (z : Ent), es[j]? = some z → z.1 ≠ d) → at_ d es i0 = none
  | [], _, _ => rfl
  | z :: r, i0, h => by
    unfold at_
    rw [if_neg fun e => h 0 z rfl e.symm]
    exact at_none r (i0 + 1) fun j y hy => h (j + 1) y (by simpa using hy)
theorem toList_inj {a b : ByteArray} (h : a.toList = b.toList) : a = b := by
  rw [ByteArray.toList_eq, ByteArray.toList_eq] at h
  obtain ⟨x⟩ := a
  obtain ⟨y⟩ := b
  have e : x = y := Array.toList_inj.1 h
  rw [e]
set_option maxHeartbeats 2000000 in
theorem place_r (F : Nat → Prop) (x : Nat) (es : List Ent) (d : ByteArray) (w : World) (h : PrAt F w x es) : Calls Tryd.prog 24 #[.pointer (some ⟨x, 0, none⟩), .string d] w fun e w' => e = .returned (.int .i64 (pl d es)) ∧ w = w' := by
  obtain ⟨⟨A, c, hb, hr, -, -⟩, hg⟩ := h
  have c0 : w.cell? ⟨x, 0, none⟩ = some (.slice A es.length c) := hb.cell 0
  have L64 := hg.len
  obtain ⟨n, hn⟩ : ∃ n, es.length = n := ⟨_, rfl⟩
  have HN := Lib.hid hn
  have HR := Lib.hid hr
  rw [hn] at c0 L64
  clear hb hr hg hn
  go_enter Tryd.func24, Tryd.ntmps24
  go_wp2_with fail
  go_loopw [5] (fun iv wr => ∃ i : Nat, iv = .int .i64 (i : Int) ∧ i ≤ n ∧ Hid (∀ j z, j < i → es[j]? = some z → z.1 ≠ d) ∧ Hid (w = wr)) (fun iv _ => n - (intOf iv).toNat)
  case atStart => exact ⟨0, rfl, by omega, Lib.hid fun j z hj => absurd hj (by omega), Lib.hid rfl⟩
  case round =>
    obtain ⟨i, rfl, hi, HS, HW⟩ := hrel
    obtain rfl := HW.out
    by_cases hlt : i < n
    · obtain ⟨q, hq⟩ : ∃ q, es[i]? = some q := ⟨_, List.getElem?_eq_getElem (by rw [HN.out]; exact hlt)⟩
      obtain ⟨b, X, rfl, -, -, -⟩ := HR.out.row.some (by rw [HN.out]; omega)
      have cd : w.cell? ⟨b, i * 3, none⟩ = some (.string q.1) := HR.out.row.cell rfl (kFlat_at es i q hq 0 _ rfl)
      have HQ := Lib.hid hq
      clear hq
      by_cases e : q.1 = d
      · have g0 : (q.1.toList == d.toList) = true := by rw [e]; simp
        have EA : Hid (pl d es = (i : Int)) := Lib.hid (by unfold pl; rw [at_first es 0 i q HQ.out e HS.out]; simp)
        clear e HS
        go_wp2_with fail
        go_ret
        exact ⟨by rw [EA.out]; rfl, rfl⟩
      · have g0 : (q.1.toList == d.toList) = false := by
          rw [beq_eq_false_iff_ne]
          exact fun z => e (toList_inj z)
        have HS2 : Hid (∀ j z, j < i + 1 → es[j]? = some z → z.1 ≠ d) := Lib.hid fun j z hj hz => by
          rcases Nat.lt_or_ge j i with hl | hl
          · exact HS.out j z hl hz
          · obtain rfl : j = i := by omega
            rw [HQ.out] at hz
            cases hz
            exact e
        clear e HS HQ
        go_wp2_with fail
        go_roundw
        case rel => exact ⟨i + 1, by go_num, by omega, HS2, Lib.hid (by first | rfl | trivial)⟩
        case measure => simp [intOf]; omega
    · have EA : Hid (pl d es = -1) := Lib.hid (by
        unfold pl
        rw [at_none es 0 fun j z hz => HS.out j z (by have := (List.getElem?_eq_some_iff.1 hz).1; rw [HN.out] at this; omega) hz])
      clear HS
      go_wp2_with fail
      go_ret
      exact ⟨by rw [EA.out]; rfl, rfl⟩
theorem known_none {now : Int} {d : ByteArray} {es : List Ent} (h : at_ d es 0 = none) : known now d es = none := by
  unfold known MapK.get
  rw [h]
  rfl
theorem known_some {now : Int} {d : ByteArray} {es : List Ent} {i : Nat} {v : Int × Int} (h : at_ d es 0 = some (i, v)) : known now d es = if freshB now v = true then some v.1 else none := by
  unfold known MapK.get
  rw [h]
  rfl
theorem pl_none {d : ByteArray} {es : List Ent} (h : at_ d es 0 = none) : pl d es = -1 := by unfold pl; rw [h]
theorem pl_some {d : ByteArray} {es : List Ent} {i : Nat} {v : Int × Int} (h : at_ d es 0 = some (i, v)) : pl d es = (i : Int) := by unfold pl; rw [h]
set_option maxHeartbeats 2000000 in
theorem get_r (F : Nat → Prop) (x : Nat) (es : List Ent) (now : Int) (d : ByteArray) (n : Int) (w : World) (h : PrAt F w x es) (n1 : -3000000000 ≤ now) (n2 : now ≤ 3000000000) :
    Calls Tryd.prog 11 #[.pointer (some ⟨x, 0, none⟩), .int .i64 now, .string d, .int .i64 n] w fun e w' => e = .returned (.tuple #[.int .i64 (askA now d n es).1, .int .i64 (askA now d n es).2]) ∧ w = w' := by
  have IC := is_r d w
  have PC := place_r F x es d w h
  cases hl : least d with
  | none =>
    rw [hl] at IC
    have IC := Lib.hid IC
    have E : Hid (askA now d n es = (0, 1)) := Lib.hid (by unfold askA; rw [hl])
    clear hl PC h n1 n2
    go_enter Tryd.func11, Tryd.ntmps11
    go_wp2_with fail
    refine IC.out.mono ?_
    rintro e w1 ⟨rfl, rfl⟩
    go_wp2_with fail
    go_ret2
    exact ⟨by rw [E.out]; rfl, rfl⟩
  | some l =>
    rw [hl] at IC
    have IC := Lib.hid IC
    have E : Hid (askA now d n es = match known now d es with | some k => (min n k, 0) | none => (n, 0)) := Lib.hid (by unfold askA; rw [hl]; cases known now d es <;> rfl)
    clear hl
    obtain ⟨⟨A, c, hb, hr, -, -⟩, hg⟩ := h
    have c0 : w.cell? ⟨x, 0, none⟩ = some (.slice A es.length c) := hb.cell 0
    cases ha : at_ d es 0 with
    | none =>
      rw [pl_none ha] at PC
      rw [known_none ha] at E
      have PC := Lib.hid PC
      clear ha hb hr hg n1 n2
      go_enter Tryd.func11, Tryd.ntmps11
      go_wp2_with fail
      refine IC.out.mono ?_
      rintro e w1 ⟨rfl, rfl⟩
      go_wp2_with fail
      refine PC.out.mono ?_
      rintro e w1 ⟨rfl, rfl⟩
      go_wp2_with fail
      go_ret2
      exact ⟨by rw [E.out]; rfl, rfl⟩
    | some z =>
      obtain ⟨i, m, s⟩ := z
      rw [pl_some ha] at PC
      rw [known_some ha] at E
      have PC := Lib.hid PC
      have hi := (at_mem ha).2.2
      rw [Nat.sub_zero] at hi
      have ab : -2000000000 ≤ s ∧ s ≤ 2000000000 := hg.at_ _ (List.mem_of_getElem? hi)
      obtain ⟨k, hk⟩ : ∃ k, es.length = k := ⟨_, rfl⟩
      have ik : i < k := by rw [← hk]; exact (List.getElem?_eq_some_iff.1 hi).1
      have L64 := hg.len
      rw [hk] at c0 L64
      obtain ⟨b, X, rfl, -, -, -⟩ := hr.row.some (by omega)
      have cm : w.cell? ⟨b, i * 3 + 1, none⟩ = some (.int .i64 m) := hr.row.cell rfl (kFlat_at es i _ hi 1 _ rfl)
      have cs : w.cell? ⟨b, i * 3 + 2, none⟩ = some (.int .i64 s) := hr.row.cell rfl (kFlat_at es i _ hi 2 _ rfl)
      have f1 : IntKind.i64.wrap (now - s) = now - s := IntWalk.i64_in _ (by omega)
      obtain ⟨y, hy⟩ : ∃ y, freshB now (m, s) = y := ⟨_, rfl⟩
      have g1 : decide (now - s < 600) = y := hy
      rw [hy] at E
      clear ha hb hr hg n1 n2 ab hi hk hy
      go_enter Tryd.func11, Tryd.ntmps11
      go_wp2_with fail
      refine IC.out.mono ?_
      rintro e w1 ⟨rfl, rfl⟩
      go_wp2_with fail
      refine PC.out.mono ?_
      rintro e w1 ⟨rfl, rfl⟩
      cases y with
      | true =>
        go_wp2_with fail
        go_ret2
        exact ⟨by rw [E.out]; rfl, rfl⟩
      | false =>
        go_wp2_with fail
        go_ret2
        exact ⟨by rw [E.out]; rfl, rfl⟩
end Go.Proofs.YtjeenmeoiidmnaaDoor.Pmt6
