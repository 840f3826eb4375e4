/- The window as the laws use it: made within the call; rows of u64 and of bools that were passed in. -/
import Derived.Test.YtcfphpcakigekaaRng4
set_option linter.unusedVariables false
namespace Go.Proofs.Ytcfphpcakigekaa.RngU
open Go.RowKit Go.Proofs.Ytcfphpcakigekaa.Sums Go.Proofs.Ytcfphpcakigekaa.Mem Go.Proofs.Ytcfphpcakigekaa.Blk Go.Proofs.Ytcfphpcakigekaa.Longs Go.Proofs.Ytcfphpcakigekaa.WinD Go.Proofs.Ytcfphpcakigekaa.WinA Go.Proofs.Ytcfphpcakigekaa.RngD Go.Proofs.Ytcfphpcakigekaa.Rng1 Go.Proofs.Ytcfphpcakigekaa.Rng2 Go.Proofs.Ytcfphpcakigekaa.Rng3 Go.Proofs.Ytcfphpcakigekaa.Rng4

theorem but_below {g gr B : Nat} {w0 w w' : World} (h : Below B w0 w) (hb : But g (some gr) w w') (h1 : B ≤ g) (h2 : B ≤ gr) (hB : B ≤ w.heap.size) : Below B w0 w' :=
  ⟨hb.os.trans h.os, hb.tape.trans h.tape, hb.output.trans h.output, Nat.le_trans h.size hb.size, fun k hk => (hb.block k (by omega) (by omega) (fun e => by injection e; omega)).trans (h.block k hk)⟩
/-- A window that the call made: it has taken L; nothing below was turned. -/
structure Run (B : Nat) (w0 w : World) (g gr S : Nat) (wd : Bool) (L : List Nat) : Prop where
  has : Has w g gr S wd L
  bel : Below B w0 w
  g0 : B ≤ g
  gr0 : B ≤ gr
  b0 : B ≤ w0.heap.size
section
variable {B : Nat} {w0 w w' : World} {g gr S : Nat} {wd : Bool} {L : List Nat}
theorem Run.size (h : Run B w0 w g gr S wd L) : B ≤ w.heap.size := Nat.le_trans h.b0 h.bel.size
theorem Run.up (h : Run B w0 w g gr S wd L) (hb : Below w.heap.size w w') : Run B w0 w' g gr S wd L := ⟨h.has.up hb, h.bel.trans (hb.mono h.size), h.g0, h.gr0, h.b0⟩
theorem Run.but {k q : Nat} (h : Run B w0 w g gr S wd L) (hb : But k (some q) w w') (hk : B ≤ k) (hq : B ≤ q) (h1 : g ≠ k) (h2 : gr ≠ k) (h3 : g ≠ q) (h4 : gr ≠ q) : Run B w0 w' g gr S wd L :=
  ⟨h.has.but hb h1 h2 (fun e => h3 (by injection e)) (fun e => h4 (by injection e)), but_below h.bel hb hk hq h.size, h.g0, h.gr0, h.b0⟩
theorem new_run (S : Nat) (wd : Bool) (hB : B ≤ w0.heap.size) (hb : Below B w0 w) (h1 : 64 ≤ S) (h2 : S ≤ 1024) : Calls Try.prog 8 #[.int .i64 (S : Int), .bool wd] w fun e w' => ∃ g gr, e = .returned (.tuple #[.pointer (some ⟨g, 0, none⟩), .int .i64 0]) ∧ Run B w0 w' g gr S wd [] ∧ w.heap.size ≤ g ∧ w.heap.size ≤ gr :=
  (new_has S wd w h1 h2).mono fun e w' ⟨a, b, c⟩ => ⟨_, _, a, ⟨b, hb.trans (c.mono (Nat.le_trans hB hb.size)), by have := hb.size; omega, by have := hb.size; omega, hB⟩, Nat.le_succ _, Nat.le_refl _⟩
theorem top_run (h : Run B w0 w g gr S wd L) : Calls Try.prog 16 #[.pointer (some ⟨g, 0, none⟩)] w fun e w' => e = .returned (.int .u64 ((top L : Nat) : Int)) ∧ w = w' := top_has h.has
theorem infer_run (h : Run B w0 w g gr S wd L) (low : Int) : Calls Try.prog 10 #[.pointer (some ⟨g, 0, none⟩), .int .i64 low] w fun e w' => e = .returned (.tuple #[.int .u64 (((inf S wd L low).1 : Nat) : Int), .int .i64 (((inf S wd L low).2 : Nat) : Int)]) ∧ Run B w0 w' g gr S wd L ∧ Below w.heap.size w w' :=
  (infer_has h.has low).mono fun e w' ⟨a, b⟩ => ⟨a, h.up b, b⟩
theorem check_run (h : Run B w0 w g gr S wd L) (n : Nat) (hn : n < Q64) : Calls Try.prog 12 #[.pointer (some ⟨g, 0, none⟩), .int .u64 (n : Int)] w fun e w' => e = .returned (.int .i64 ((chk S wd L n : Nat) : Int)) ∧ Run B w0 w' g gr S wd L ∧ Below w.heap.size w w' :=
  (check_has h.has n hn).mono fun e w' ⟨a, b⟩ => ⟨a, h.up b, b⟩
theorem accept_run (h : Run B w0 w g gr S wd L) (n : Nat) (hn : n < Q64) : Calls Try.prog 14 #[.pointer (some ⟨g, 0, none⟩), .int .u64 (n : Int)] w fun e w' => e = .returned (.int .i64 ((chk S wd L n : Nat) : Int)) ∧ Run B w0 w' g gr S wd (acc S wd L n) ∧ But g (some gr) w w' :=
  (accept_has h.has n hn).mono fun e w' ⟨a, b, c⟩ => ⟨a, ⟨c, but_below h.bel b h.g0 h.gr0 h.size, h.g0, h.gr0, h.b0⟩, b⟩
end

/-- A row of u64 that was passed in. -/
def QRow (w : World) (B : Nat) (A : Option Addr) (n c : Nat) (l : List Nat) : Prop :=
  l.length = n ∧ (∀ x ∈ l, x < Q64) ∧ (0 < n → ∃ b o, A = some ⟨b, o, none⟩ ∧ b < B ∧ ∀ j, j < n → w.cell? ⟨b, o + j, none⟩ = some (.int .u64 ((l.getD j 0 : Nat) : Int)))
theorem QRow.below {w w' : World} {B n c : Nat} {A : Option Addr} {l : List Nat} (h : QRow w B A n c l) (k : Below B w w') : QRow w' B A n c l :=
  ⟨h.1, h.2.1, fun hn => by
    obtain ⟨b, o, e, hb, hc⟩ := h.2.2 hn
    exact ⟨b, o, e, hb, fun j hj => (k.cell (p := ⟨b, o + j, none⟩) hb).trans (hc j hj)⟩⟩
theorem QRow.lt {w : World} {B n c : Nat} {A : Option Addr} {l : List Nat} (h : QRow w B A n c l) {j : Nat} (hj : j < n) : l.getD j 0 < Q64 := by
  rw [List.getD_eq_getElem?_getD, List.getElem?_eq_getElem (by rw [h.1]; exact hj)]
  exact h.2.1 _ (List.getElem_mem _)
/-- A row of bools that was passed in. -/
def TRow (w : World) (B : Nat) (A : Option Addr) (n c : Nat) (l : List Bool) : Prop :=
  l.length = n ∧ (0 < n → ∃ b o, A = some ⟨b, o, none⟩ ∧ b < B ∧ ∀ j, j < n → w.cell? ⟨b, o + j, none⟩ = some (.bool (l.getD j false)))
theorem TRow.below {w w' : World} {B n c : Nat} {A : Option Addr} {l : List Bool} (h : TRow w B A n c l) (k : Below B w w') : TRow w' B A n c l :=
  ⟨h.1, fun hn => by
    obtain ⟨b, o, e, hb, hc⟩ := h.2 hn
    exact ⟨b, o, e, hb, fun j hj => (k.cell (p := ⟨b, o + j, none⟩) hb).trans (hc j hj)⟩⟩
end Go.Proofs.Ytcfphpcakigekaa.RngU
