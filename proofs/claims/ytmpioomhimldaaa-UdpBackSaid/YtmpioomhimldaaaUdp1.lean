/- Contracts of the words of an encoding and of what is summed. -/
import Derived.Test.YtmpioomhimldaaaDat
import Derived.Test.YtmpioomhimldaaaBlk
import Derived.Test.YtmpioomhimldaaaBits
import Derived.Test.YtmpioomhimldaaaPseudo
import Derived.Deep.QuietTactic
set_option linter.unusedVariables false
namespace Go.Proofs.Ytmpioomhimldaaa.Udp
open Go.RowKit Go.Proofs.Ytmpioomhimldaaa.Sums Go.Proofs.Ytmpioomhimldaaa.Words Go.Proofs.Ytmpioomhimldaaa.Mem Go.Proofs.Ytmpioomhimldaaa.Dat Go.Proofs.Ytmpioomhimldaaa.Blk Go.Proofs.Ytmpioomhimldaaa.Bits Go.Proofs.Ytmpioomhimldaaa.InetSum

theorem cell_getD {w : World} {B b o n c : Nat} {l : List Int} (h : Holds w B (some ⟨b, o, none⟩) n c l) (i : Nat) (hi : i < n) : w.cell? ⟨b, o + i, none⟩ = some (.int .u8 (l.getD i 0)) := by
  have h0 := h.1
  obtain ⟨b', o', e, _, hc⟩ := h.2.2.2.2 (by omega)
  injection e with e
  injection e with e1 e2
  subst e1 e2
  rw [List.getD_eq_getElem?_getD, List.getElem?_eq_getElem (by omega)]
  exact hc i _ (List.getElem?_eq_getElem (by omega))

theorem word_any (s d : ByteArray) (A : Option Addr) (n c : Nat) (l : List Int) (w : World) (B : Nat) (h : Holds w B A n c l) (hB : B ≤ w.heap.size) (i : Nat) (hi : i + 1 < n) :
    Calls Try.prog 33 #[.agg #[.string s, .string d, .slice A n c], .int .i64 (i : Int)] w fun e w' => e = .returned (.int .i64 (w16 l i)) ∧ Below w.heap.size w w' := by
  obtain ⟨b, p, rfl, _⟩ := h.2.2.2.2 (by omega)
  have B0 := Lib.hid ((Below.refl w.heap.size w).alloc (Nat.le_refl _) (.cells #[.string s, .string d, .slice (some ⟨b, p, none⟩) n c] 46))
  have HA := h.below (B0.out.mono hB)
  have c0 := cell_getD HA i (by omega)
  have c1 : (w.alloc (.cells #[.string s, .string d, .slice (some ⟨b, p, none⟩) n c] 46)).cell? ⟨b, p + (i + 1), none⟩ = some (.int .u8 (l.getD (i + 1) 0)) := cell_getD HA (i + 1) hi
  have K0 := Blk.new w 46 #[.string s, .string d, .slice (some ⟨b, p, none⟩) n c]
  have k2 := K0.cell 2
  have y := getD_in h.2.2.2.1 i
  have z := getD_in h.2.2.2.1 (i + 1)
  have E : Hid (256 * l.getD i 0 + l.getD (i + 1) 0 = w16 l i) := Lib.hid rfl
  have hm := h.2.2.1
  have hn := h.2.1
  unfold maxLen at hm
  clear h HA K0
  generalize l.getD i 0 = y0 at *
  generalize l.getD (i + 1) 0 = z0 at *
  obtain ⟨i1, hi1⟩ : ∃ i1, i1 = i + 1 := ⟨_, rfl⟩
  rw [← hi1] at c1 hi
  have e0 : IntKind.i64.wrap ((i : Int) + 1) = (i1 : Int) := by rw [IntWalk.i64_in _ (by omega)]; omega
  have e1 : IntKind.i64.wrap (y0 * 256) = y0 * 256 := IntWalk.i64_in _ (by omega)
  have e2 : bits .or .i64 (y0 * 256) z0 = 256 * y0 + z0 := or_byte y.1 y.2 z.1 z.2
  have e3 : IntKind.i64.wrap y0 = y0 := IntWalk.i64_in _ (by omega)
  have e4 : IntKind.i64.wrap z0 = z0 := IntWalk.i64_in _ (by omega)
  have j0 : i < n := by omega
  obtain ⟨y1, y2⟩ := y
  obtain ⟨z1, z2⟩ := z
  clear hi1
  go_enter Try.func33, Try.ntmps33
  go_wp2_with fail
  go_quiet (fail)
  clear e0 e1 e2 e3 e4
  go_wp2_with fail
  go_ret
  exact ⟨by rw [E.out]; rfl, below_drewN B0.out nq⟩

theorem length_any (s d : ByteArray) (A : Option Addr) (n c : Nat) (l : List Int) (w : World) (B : Nat) (h : Holds w B A n c l) (hB : B ≤ w.heap.size) (hn : 8 ≤ n) :
    Calls Try.prog 31 #[.agg #[.string s, .string d, .slice A n c]] w fun e w' => e = .returned (.int .i64 (w16 l 4)) ∧ Below w.heap.size w w' := by
  have B0 := Lib.hid ((Below.refl w.heap.size w).alloc (Nat.le_refl _) (.cells #[.string s, .string d, .slice A n c] 46))
  have W := Lib.hid (word_any s d A n c l _ B (h.below (B0.out.mono hB)) (by simp; omega) 4 (by omega))
  clear h
  go_enter Try.func31, Try.ntmps31
  go_wp2_with fail
  refine W.out.mono ?_
  rintro e w1 ⟨rfl, hb⟩
  have B1 := Lib.hid (B0.out.trans (hb.mono B0.out.size))
  go_wp2_with fail
  go_ret
  exact ⟨rfl, B1.out⟩
end Go.Proofs.Ytmpioomhimldaaa.Udp
