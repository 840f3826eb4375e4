/- A routing table: plain facts; how it lies in memory. -/
import Derived.Test.YtnabjhdamofpgaaAdrR
import Derived.Test.YtnabjhdamofpgaaM02
import Derived.Test.YtnabjhdamofpgaaPart
import Derived.Test.YtnabjhdamofpgaaEqR
import Derived.Test.YtnabjhdamofpgaaM03
import Derived.Test.YtnabjhdamofpgaaFreeO
set_option linter.unusedVariables false
namespace Go.Proofs.Ytnabjhdamofpgaa.TabD
open Go.RowKit Go.PlainAid Go.Proofs.Ytnabjhdamofpgaa.Sums Go.Proofs.Ytnabjhdamofpgaa.Mem Go.Proofs.Ytnabjhdamofpgaa.Blk Go.Proofs.Ytnabjhdamofpgaa.Grp Go.Proofs.Ytnabjhdamofpgaa.AdrD Go.Proofs.Ytnabjhdamofpgaa.AdrR Go.Proofs.Ytnabjhdamofpgaa.Steps Go.Proofs.Ytnabjhdamofpgaa.Com Go.Proofs.Ytnabjhdamofpgaa.RowN Go.Proofs.Ytnabjhdamofpgaa.RowA Go.Proofs.Ytnabjhdamofpgaa.ArgT

/-- Does a prefix stand ahead of another one? -/
def aheadB (a : ByteArray) (m : Int) (b : ByteArray) (n : Int) : Bool := decide (ordS a b < 0) || (decide (ordS a b = 0) && decide (m < n))
/-- A prefix of an address and a number; where it has none, it is empty. -/
def pfx (a : ByteArray) (n : Int) : ByteArray := if fitB a.size n then maskS a n.toNat else ⟨#[]⟩
def placeN (rs : List RouteR) (a : ByteArray) (n : Int) : Nat := (rs.takeWhile fun r => aheadB r.x0 r.x1 a n).length
def thereB (rs : List RouteR) (a : ByteArray) (n : Int) : Bool := match rs[placeN rs a n]? with | some r => decide (r.x0 = a) && decide (r.x1 = n) | none => false
theorem pfx_size (a : ByteArray) (n : Int) : (pfx a n).size ≤ 16 := by
  unfold pfx
  cases h : fitB a.size n with
  | false => exact Nat.zero_le _
  | true =>
    rw [if_pos rfl, mask_size]
    unfold fitB at h
    simp only [Bool.and_eq_true, Bool.or_eq_true, beq_iff_eq, decide_eq_true_eq] at h
    omega
theorem placeN_le (rs : List RouteR) (a : ByteArray) (n : Int) : placeN rs a n ≤ rs.length := by
  unfold placeN
  exact (List.takeWhile_sublist _).length_le
/-- The first one that is not ahead stands at its place. -/
theorem place_at {rs : List RouteR} {a : ByteArray} {n : Int} {i : Nat} (hb : ∀ k r, k < i → rs[k]? = some r → aheadB r.x0 r.x1 a n = true) (hi : ∀ r, rs[i]? = some r → aheadB r.x0 r.x1 a n = false) (hl : i ≤ rs.length) : placeN rs a n = i := by
  unfold placeN
  induction rs generalizing i with
  | nil => simp at hl; simp [hl]
  | cons r rs ih =>
    cases i with
    | zero =>
      have := hi r (by simp)
      rw [List.takeWhile_cons, this]
      rfl
    | succ i =>
      have h0 := hb 0 r (by omega) (by simp)
      rw [List.takeWhile_cons, h0, if_pos rfl, List.length_cons, ih (i := i) (fun k r' hk h => hb (k + 1) r' (by omega) (by simpa using h)) (fun r' h => hi r' (by simpa using h)) (by simp at hl; omega)]
abbrev RT : TypeId := 33
abbrev RA (r : RouteR) : Array Value := #[.string r.x0, .int .i64 r.x1, .string r.x2, .int .i64 r.x3]
theorem ra_cells (r : RouteR) : (RA r).toList = r.cells := rfl
theorem one_ra (r : RouteR) : ∀ v ∈ r.cells, v.oneCell' = true := by simp [RouteR.cells, Value.oneCell']
theorem len_ra (r : RouteR) : r.cells.length = 4 := rfl
theorem all_ra (r : RouteR) : (RA r).all (·.oneCell') = true := by simp [Value.oneCell']
theorem one_pf (a : ByteArray) (n : Int) : (#[.string a, .int .i64 n] : Array Value).all (·.oneCell') = true := by simp [Value.oneCell']
theorem flat_at : ∀ (rs : List RouteR) (i : Nat) (r : RouteR), rs[i]? = some r → ((rs.flatMap RouteR.cells).drop (i * 4)).take 4 = r.cells
  | a :: rs, 0, r, h => by
    obtain rfl : a = r := by simpa using h
    rw [Nat.zero_mul, List.drop_zero, List.flatMap_cons]
    exact List.take_left' (len_ra a)
  | a :: rs, i + 1, r, h => by
    rw [List.flatMap_cons, show (i + 1) * 4 = a.cells.length + i * 4 by rw [len_ra]; omega, List.drop_length_add_append]
    exact flat_at rs i r (by simpa using h)
theorem flat_len : ∀ rs : List RouteR, (rs.flatMap RouteR.cells).length = rs.length * 4
  | [] => rfl
  | a :: rs => by rw [List.flatMap_cons, List.length_append, flat_len rs, len_ra, List.length_cons]; omega
/-- A route's cells in the table's row. -/
theorem row_route {w : World} {b n c : Nat} {rs : List RouteR} (h : RowAt RT 4 w (some ⟨b, 0, none⟩) n c (rs.flatMap RouteR.cells)) {i : Nat} {r : RouteR} (hr : rs[i]? = some r) : Part.At w b (i * 4) r.cells := fun j v hj => by
  refine h.cell rfl ?_
  rw [← flat_at rs i r hr, List.getElem?_take] at hj
  split at hj
  · rwa [List.getElem?_drop] at hj
  · cases hj
/-- A route of a table: its texts are no longer than what a call takes. -/
def Ok (r : RouteR) : Prop := r.x0.size ≤ 16 ∧ r.x2.size ≤ 300
/-- A table lies at g: its routes, in blocks that are none of F. -/
structure TabAt (F : Nat → Prop) (w : World) (g : Nat) (rs : List RouteR) : Prop where
  ex : ∃ A c, Blk w g 29 #[.slice A rs.length c] ∧ RowX RT 4 w A rs.length c (rs.flatMap RouteR.cells) ∧ ¬ F g ∧ (∀ k, own A k → ¬ F k) ∧ ¬ own A g
  ok : ∀ r ∈ rs, Ok r
  few : rs.length ≤ 64
theorem TabAt.mono {F G : Nat → Prop} {w : World} {g : Nat} {rs : List RouteR} (h : TabAt F w g rs) (hg : ∀ k, k < w.heap.size → G k → F k) : TabAt G w g rs := by
  obtain ⟨⟨A, c, h1, h2, h3, h4, h5⟩, ok, few⟩ := h
  exact ⟨⟨A, c, h1, h2, fun z => h3 (hg _ h1.lt z), fun k hk z => h4 k hk (hg _ (h2.row.lt hk) z), h5⟩, ok, few⟩
theorem TabAt.below {F : Nat → Prop} {w w' : World} {g : Nat} {rs : List RouteR} (h : TabAt F w g rs) (hb : Below w.heap.size w w') : TabAt F w' g rs := by
  obtain ⟨⟨A, c, h1, h2, h3, h4, h5⟩, ok, few⟩ := h
  exact ⟨⟨A, c, h1.below hb h1.lt, h2.below hb, h3, h4, h5⟩, ok, few⟩
/-- What is new is foreign to it. -/
theorem TabAt.widen {F : Nat → Prop} {w w' : World} {g : Nat} {rs : List RouteR} (h : TabAt F w g rs) (hb : Below w.heap.size w w') : TabAt (fun k => F k ∨ w.heap.size ≤ k) w' g rs := by
  obtain ⟨⟨A, c, h1, h2, h3, h4, h5⟩, ok, few⟩ := h
  refine ⟨⟨A, c, h1.below hb h1.lt, h2.below hb, ?_, ?_, h5⟩, ok, few⟩
  · have := h1.lt
    rintro (z | z)
    · exact h3 z
    · omega
  · intro k hk
    have := h2.row.lt hk
    rintro (z | z)
    · exact h4 k hk z
    · omega
theorem TabAt.lt {F : Nat → Prop} {w : World} {g : Nat} {rs : List RouteR} (h : TabAt F w g rs) : g < w.heap.size := by
  obtain ⟨⟨A, c, h1, _⟩, _⟩ := h
  exact h1.lt
end Go.Proofs.Ytnabjhdamofpgaa.TabD
