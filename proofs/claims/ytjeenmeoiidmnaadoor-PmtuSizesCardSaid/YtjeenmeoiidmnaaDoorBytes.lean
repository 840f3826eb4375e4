/- Rows of bytes in memory: what a slice of bytes holds, kept over what is made later. -/
import Derived.Test.YtjeenmeoiidmnaaDoorSums
import Derived.WalkKit
import Derived.ProofKit
import Derived.IntWalk
import Derived.Below
import Derived.Lib.Hide
import Derived.Laws.OwnMore
import Derived.Deep.AppendLies
import Derived.Deep.Draws
namespace Go.Proofs.YtjeenmeoiidmnaaDoor.Mem
open Go.RowKit Go.Proofs.YtjeenmeoiidmnaaDoor.Sums

/-- The slice (A, n, c) holds the bytes l, in memory below block B. -/
def Holds (w : World) (B : Nat) (A : Option Addr) (n c : Nat) (l : List Int) : Prop :=
  l.length = n ∧ n ≤ c ∧ c ≤ maxLen ∧ Bytes l ∧
  (0 < n → ∃ b o, A = some ⟨b, o, none⟩ ∧ b < B ∧ ∀ j z, l[j]? = some z → w.cell? ⟨b, o + j, none⟩ = some (.int .u8 z))

theorem Holds.nil (w : World) (B : Nat) (A : Option Addr) : Holds w B A 0 0 [] :=
  ⟨rfl, Nat.le_refl _, Nat.zero_le _, fun _ h => (by cases h), fun h => absurd h (by omega)⟩

theorem Holds.keep {w w' : World} {B n c : Nat} {A : Option Addr} {l : List Int} (h : Holds w B A n c l)
    (k : ∀ b o, b < B → w'.cell? ⟨b, o, none⟩ = w.cell? ⟨b, o, none⟩) : Holds w' B A n c l :=
  ⟨h.1, h.2.1, h.2.2.1, h.2.2.2.1, fun hn => by
    obtain ⟨b, o, e, hb, hc⟩ := h.2.2.2.2 hn
    exact ⟨b, o, e, hb, fun j z hz => (k _ _ hb).trans (hc j z hz)⟩⟩

theorem Holds.more {w : World} {B B' n c : Nat} {A : Option Addr} {l : List Int} (h : Holds w B A n c l) (k : B ≤ B') : Holds w B' A n c l :=
  ⟨h.1, h.2.1, h.2.2.1, h.2.2.2.1, fun hn => by
    obtain ⟨b, o, e, hb, hc⟩ := h.2.2.2.2 hn
    exact ⟨b, o, e, by omega, hc⟩⟩

theorem Holds.below {w w' : World} {B n c : Nat} {A : Option Addr} {l : List Int} (h : Holds w B A n c l) (k : Below B w w') : Holds w' B A n c l :=
  h.keep fun b o hb => k.cell (p := ⟨b, o, none⟩) hb

/-- What stands ahead of place k. -/
theorem Holds.upto {w : World} {B n c k : Nat} {A : Option Addr} {l : List Int} (h : Holds w B A n c l) (hk : k ≤ n) : Holds w B A k c (l.take k) := by
  refine ⟨by rw [List.length_take, h.1]; omega, by have := h.2.1; omega, h.2.2.1, h.2.2.2.1.take k, fun hn => ?_⟩
  obtain ⟨b, o, e, hb, hc⟩ := h.2.2.2.2 (by omega)
  refine ⟨b, o, e, hb, fun j z hz => hc j z ?_⟩
  rw [List.getElem?_take] at hz
  split at hz
  · exact hz
  · cases hz

/-- What stands from place k on. -/
theorem Holds.from_ {w : World} {B n c k : Nat} {A : Option Addr} {l : List Int} (h : Holds w B A n c l) (hk : k < n) :
    ∃ b o, A = some ⟨b, o, none⟩ ∧ Holds w B (some ⟨b, o + k, none⟩) (n - k) (c - k) (l.drop k) := by
  obtain ⟨b, o, e, hb, hc⟩ := h.2.2.2.2 (by omega)
  refine ⟨b, o, e, by rw [List.length_drop, h.1], by have := h.2.1; omega, by have := h.2.2.1; omega, h.2.2.2.1.drop k, fun _ => ⟨b, o + k, rfl, hb, fun j z hz => ?_⟩⟩
  rw [Nat.add_assoc]
  exact hc _ z (by rw [← hz, List.getElem?_drop])

theorem add_plain (b o j : Nat) : (⟨b, o, none⟩ : Addr).add j = ⟨b, o + j, none⟩ := by
  unfold Addr.add
  by_cases h : j = 0 <;> simp [h]

/-- A row that the call owns holds its bytes. -/
theorem Holds.of_own {w : World} {base n c : Nat} {e : TypeId} {A : Option Addr} {l : List Int} (h : w.ownsRow base e 1 (.slice A n c) n (l.map fun z => .int .u8 z)) (hb : Bytes l) : Holds w w.heap.size A n c l := by
  have hl : l.length = n := by have := h.1; simpa using this
  have hl' : n ≤ c ∧ c ≤ maxLen := by
    rcases h.2 with ⟨hv, h0⟩ | ⟨g, cap, cur, hv, hlt, hh, hnc, hcap⟩
    · injection hv with h1 h2 h3
      subst h2 h3
      exact ⟨Nat.le_refl _, Nat.zero_le _⟩
    · injection hv with h1 h2 h3
      subst h3
      exact ⟨hnc, hcap.1⟩
  refine ⟨hl, hl'.1, hl'.2, hb, fun hn => ?_⟩
  obtain ⟨g, cap, hv, _, hlt⟩ := h.form hn
  have hA : A = some ⟨g, 0, none⟩ := by injection hv
  subst hA
  refine ⟨g, 0, rfl, hlt, fun j z hz => ?_⟩
  have := h.cells (g := g) rfl j (.int .u8 z) (by simp [hz])
  rw [add_plain] at this
  simpa using this

end Go.Proofs.YtjeenmeoiidmnaaDoor.Mem
