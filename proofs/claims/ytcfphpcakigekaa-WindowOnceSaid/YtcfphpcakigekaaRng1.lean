/- The code's window: how it lies; New, Top, place. -/
import Derived.Test.YtcfphpcakigekaaRngD
import Derived.Test.YtcfphpcakigekaaWinA
import Derived.Lib.SliceRun
import Derived.Laws.MakeOwn
import Derived.Deep.QuietTactic
set_option linter.unusedVariables false
namespace Go.Proofs.Ytcfphpcakigekaa.Rng1
open Go.RowKit Go.Proofs.Ytcfphpcakigekaa.Sums Go.Proofs.Ytcfphpcakigekaa.Mem Go.Proofs.Ytcfphpcakigekaa.Blk Go.Proofs.Ytcfphpcakigekaa.Longs Go.Proofs.Ytcfphpcakigekaa.WinD Go.Proofs.Ytcfphpcakigekaa.WinA Go.Proofs.Ytcfphpcakigekaa.RngD

def bools (r : List Bool) : Array Value := (r.map Value.bool).toArray
theorem bools_get {r : List Bool} {i : Nat} (h : i < r.length) : (bools r)[i]? = some (.bool (r.getD i false)) := by
  unfold bools
  rw [List.getElem?_toArray, List.getElem?_map, List.getD_eq_getElem?_getD, List.getElem?_eq_getElem h]
  rfl
theorem bools_set (r : List Bool) (i : Nat) (b : Bool) : (bools r).setIfInBounds i (.bool b) = bools (r.set i b) := by
  unfold bools
  simp [List.map_set]
theorem bool_info : (Try.prog.info? 4).map (fun i => (i.zero, i.size, i.bytes)) = some (some (.bool false), 1, 1) := by kernel_rfl
theorem made_q (n : Nat) : madeCells #[.bool false] n = bools (List.replicate n false) := by
  apply Array.toList_inj.1
  simp only [madeCells, bools, List.map_replicate]
  apply List.ext_getElem
  · simp
  · intro i h1 h2
    simp [Nat.mod_one]
theorem make_q (n : Nat) (hn : n ≤ 1048576) (w : World) :
    (Instr.makeSlice 39 (.int .i64 (n : Int)) (.int .i64 (n : Int))).run Try.prog w = .ok (.slice (some ⟨w.heap.size, 0, none⟩) n n) (w.alloc (.cells (bools (List.replicate n false)) 4)) := by
  obtain ⟨i, hi, hz, hsz, hby⟩ := info_parts bool_info
  have hr := run_make (P := Try.prog) w 39 4 i (.bool false) Try.underlying39 hi hz .i64 .i64 (n : Int) (n : Int) (by omega) (by omega) (by rw [hby]; omega) (by omega)
  rw [Int.toNat_natCast, hsz, Nat.mul_one] at hr
  rw [← made_q]
  exact hr

def ccells (T : Nat) (wd : Bool) (gr S : Nat) : Array Value := #[.bool wd, .int .u64 (T : Int), .slice (some ⟨gr, 0, none⟩) S S]
/-- A window lies at block g, its ring r at block gr. -/
structure Cw (w : World) (g gr S : Nat) (wd : Bool) (T : Nat) (r : List Bool) : Prop where
  blk : Blk w g 42 (ccells T wd gr S)
  ring : Blk w gr 4 (bools r)
  ne : gr ≠ g
  tq : T < Q64
  len : r.length = S
  lo : 64 ≤ S
  hi : S ≤ 1024
section
variable {w w' : World} {g gr S T : Nat} {wd : Bool} {r : List Bool}
theorem Cw.c0 (h : Cw w g gr S wd T r) : w.cell? ⟨g, 0, none⟩ = some (.bool wd) := Blk.cell h.blk 0
theorem Cw.c1 (h : Cw w g gr S wd T r) : w.cell? ⟨g, 1, none⟩ = some (.int .u64 (T : Int)) := Blk.cell h.blk 1
theorem Cw.c2 (h : Cw w g gr S wd T r) : w.cell? ⟨g, 2, none⟩ = some (.slice (some ⟨gr, 0, none⟩) S S) := Blk.cell h.blk 2
theorem Cw.at_ (h : Cw w g gr S wd T r) {i : Nat} (hi : i < S) : w.cell? ⟨gr, i, none⟩ = some (.bool (r.getD i false)) := (Blk.cell h.ring i).trans (bools_get (by rw [h.len]; exact hi))
theorem Cw.drewN (h : Cw w g gr S wd T r) (n : Nat) : Cw (w.drewN n) g gr S wd T r := ⟨h.blk, h.ring, h.ne, h.tq, h.len, h.lo, h.hi⟩
theorem Cw.up (h : Cw w g gr S wd T r) (hb : Below w.heap.size w w') : Cw w' g gr S wd T r := ⟨Blk.below h.blk hb (Blk.lt h.blk), Blk.below h.ring hb (Blk.lt h.ring), h.ne, h.tq, h.len, h.lo, h.hi⟩
/-- Only other blocks turned. -/
theorem Cw.but {k : Nat} {q : Option Nat} (h : Cw w g gr S wd T r) (hb : But k q w w') (h1 : g ≠ k) (h2 : gr ≠ k) (h3 : some g ≠ q) (h4 : some gr ≠ q) : Cw w' g gr S wd T r :=
  ⟨(hb.block g (Blk.lt h.blk) h1 h3).trans h.blk, (hb.block gr (Blk.lt h.ring) h2 h4).trans h.ring, h.ne, h.tq, h.len, h.lo, h.hi⟩
end

theorem top_nil (w : World) : Calls Try.prog 16 #[.pointer none] w fun e w' => e = .returned (.int .u64 0) ∧ w = w' := by
  go_enter Try.func16, Try.ntmps16
  go_wp2_with fail
  go_ret
  exact ⟨rfl, rfl⟩
theorem top_c (g gr S : Nat) (wd : Bool) (T : Nat) (r : List Bool) (w : World) (h : Cw w g gr S wd T r) : Calls Try.prog 16 #[.pointer (some ⟨g, 0, none⟩)] w fun e w' => e = .returned (.int .u64 (T : Int)) ∧ w = w' := by
  have c1 := h.c1
  clear h
  go_enter Try.func16, Try.ntmps16
  go_wp2_with fail
  go_ret
  exact ⟨rfl, rfl⟩

theorem place_c (g gr S : Nat) (wd : Bool) (T : Nat) (r : List Bool) (n : Nat) (w : World) (h : Cw w g gr S wd T r) (hn : n < Q64) : Calls Try.prog 21 #[.pointer (some ⟨g, 0, none⟩), .int .u64 (n : Int)] w fun e w' => e = .returned (.int .i64 ((n % S : Nat) : Int)) ∧ w = w' := by
  have c2 := h.c2
  have sb := h.hi
  have sl := h.lo
  unfold Q64 at hn
  have il := Nat.mod_lt n (show 0 < S by omega)
  obtain ⟨i, hi⟩ : ∃ i, i = n % S := ⟨_, rfl⟩
  rw [← hi] at il ⊢
  have f1 : IntKind.u64.wrap (S : Int) = (S : Int) := IntWalk.u64_in _ (by omega)
  have f2 : ((n : Int)).tmod (S : Int) = (i : Int) := by rw [Int.tmod_eq_emod_of_nonneg (by omega), hi]; rfl
  have f3 : IntKind.i64.wrap (i : Int) = (i : Int) := IntWalk.i64_in _ (by omega)
  have f4 : IntKind.u64.wrap (i : Int) = (i : Int) := IntWalk.u64_in _ (by omega)
  have z1 : ¬ ((S : Int) = 0) := by omega
  have z2 : ¬ (S = 0) := by omega
  clear h hi
  go_enter Try.func21, Try.ntmps21
  go_wp2_with fail
  go_ret
  exact ⟨rfl, rfl⟩

theorem new_bad (S : Int) (wd : Bool) (w : World) (h : S < 64 ∨ 1024 < S) : Calls Try.prog 8 #[.int .i64 S, .bool wd] w fun e w' => e = .returned (.tuple #[.pointer none, .int .i64 1]) ∧ w = w' := by
  go_enter Try.func8, Try.ntmps8
  rcases h with h | h
  · have g : decide (S < 64) = true := decide_eq_true h
    go_wp2_with fail
    go_ret2
    exact ⟨rfl, rfl⟩
  · have g : decide (S < 64) = false := decide_eq_false (by omega)
    have g2 : decide (1024 < S) = true := decide_eq_true h
    go_wp2_with fail
    go_ret2
    exact ⟨rfl, rfl⟩
theorem new_c (S : Nat) (wd : Bool) (w : World) (h1 : 64 ≤ S) (h2 : S ≤ 1024) : Calls Try.prog 8 #[.int .i64 (S : Int), .bool wd] w fun e w' => e = .returned (.tuple #[.pointer (some ⟨w.heap.size + 1, 0, none⟩), .int .i64 0]) ∧ Cw w' (w.heap.size + 1) w.heap.size S wd 0 (List.replicate S false) ∧ Below w.heap.size w w' := by
  have g1 : decide ((S : Int) < 64) = false := decide_eq_false (by omega)
  have g2 : decide ((1024 : Int) < (S : Int)) = false := decide_eq_false (by omega)
  have mk := make_q S (by omega) w
  have LN : Hid ((List.replicate S false).length = S) := Lib.hid (by simp)
  obtain ⟨Z, hZ⟩ : ∃ Z, Z = List.replicate S false := ⟨_, rfl⟩
  rw [← hZ] at mk LN ⊢
  clear hZ
  have B0 := Lib.hid ((Below.refl w.heap.size w).alloc (Nat.le_refl _) (.cells (bools Z) 4))
  have HS : Hid ((w.alloc (.cells (bools Z) 4)).heap.size = w.heap.size + 1) := Lib.hid (by simp)
  have K0 := Lib.hid (Blk.new w 4 (bools Z))
  obtain ⟨W, hW⟩ : ∃ W, W = w.alloc (.cells (bools Z) 4) := ⟨_, rfl⟩
  rw [← hW] at mk B0 HS K0
  clear hW
  go_enter Try.func8, Try.ntmps8
  go_wp2_with fail
  go_ret2
  exact ⟨by first | rfl | (rw [HS.out]; rfl), ⟨by rw [← HS.out]; exact Blk.new W _ _, Blk.alloc K0.out _, by omega, by unfold Q64; omega, LN.out, h1, h2⟩, B0.out.alloc (by rw [HS.out]; omega) _⟩
end Go.Proofs.Ytcfphpcakigekaa.Rng1
