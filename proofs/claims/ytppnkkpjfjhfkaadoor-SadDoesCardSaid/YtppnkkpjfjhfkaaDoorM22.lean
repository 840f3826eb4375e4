/- The code's window: plain facts. A ring of bools, cleared in parts. -/
import Derived.Test.YtppnkkpjfjhfkaaDoorM04
import Derived.Test.YtppnkkpjfjhfkaaDoorM05
import Derived.Lib.SliceRun
import Derived.Laws.MakeOwn
import Derived.Deep.QuietTactic
set_option linter.unusedVariables false
namespace Go.Proofs.YtppnkkpjfjhfkaaDoor.RngD
open Go.Proofs.YtppnkkpjfjhfkaaDoor.WinD

def wipe : List Bool → Nat → Nat → List Bool
  | r, _, 0 => r
  | r, o, n + 1 => wipe (r.set o false) (o + 1) n
theorem wipe_len : ∀ (n : Nat) (r : List Bool) (o : Nat), (wipe r o n).length = r.length
  | 0, _, _ => rfl
  | n + 1, r, o => by rw [wipe, wipe_len n, List.length_set]
theorem set_get (r : List Bool) (o i : Nat) (b : Bool) (h : o < r.length) : (r.set o b).getD i false = if i = o then b else r.getD i false := by
  rw [List.getD_eq_getElem?_getD, List.getElem?_set, List.getD_eq_getElem?_getD]
  by_cases q : o = i
  · subst q; rw [if_pos rfl, if_pos rfl, if_pos h]; rfl
  · rw [if_neg q, if_neg (fun e => q e.symm)]
theorem set_off (r : List Bool) (o i : Nat) : (r.set o false).getD i false = if i = o then false else r.getD i false := by
  by_cases h : o < r.length
  · exact set_get r o i false h
  · rw [List.set_eq_of_length_le (by omega)]
    by_cases q : i = o
    · rw [if_pos q, List.getD_eq_getElem?_getD, List.getElem?_eq_none (by omega)]; rfl
    · rw [if_neg q]
theorem wipe_get : ∀ (n : Nat) (r : List Bool) (o i : Nat), (wipe r o n).getD i false = if o ≤ i ∧ i < o + n then false else r.getD i false
  | 0, r, o, i => by rw [wipe, if_neg (by omega)]
  | n + 1, r, o, i => by
    rw [wipe, wipe_get n, set_off]
    by_cases h1 : o + 1 ≤ i ∧ i < o + 1 + n
    · rw [if_pos h1, if_pos (by omega)]
    · rw [if_neg h1]
      by_cases h2 : i = o
      · rw [if_pos h2, if_pos (by omega)]
      · rw [if_neg h2, if_neg (by omega)]

/-- The ring when the top is moved from T to n. -/
def moved (S T n : Nat) (r : List Bool) : List Bool :=
  if S ≤ n - T then wipe r 0 S
  else if (T + 1) % S ≤ n % S then wipe r ((T + 1) % S) (n % S + 1 - (T + 1) % S)
  else wipe (wipe r ((T + 1) % S) (S - (T + 1) % S)) 0 (n % S + 1)
theorem moved_len (S T n : Nat) (r : List Bool) : (moved S T n r).length = r.length := by
  unfold moved
  split
  · exact wipe_len _ _ _
  · split
    · exact wipe_len _ _ _
    · rw [wipe_len, wipe_len]
theorem mod_sub {S n d : Nat} (hd : d < S) (hn : d ≤ n) : (n - d) % S = if d ≤ n % S then n % S - d else n % S + S - d := by
  have e := Nat.div_add_mod n S
  have hl := Nat.mod_lt n (show 0 < S by omega)
  generalize n % S = l at *
  generalize n / S = p at *
  by_cases h : d ≤ l
  · rw [if_pos h, show n - d = S * p + (l - d) by omega, Nat.mul_add_mod, Nat.mod_eq_of_lt (by omega)]
  · rw [if_neg h]
    obtain ⟨q, rfl⟩ : ∃ q, p = q + 1 := ⟨p - 1, by
      rcases Nat.eq_zero_or_pos p with z | z
      · subst z; rw [Nat.mul_zero] at e; omega
      · omega⟩
    rw [Nat.mul_add, Nat.mul_one] at e
    rw [show n - d = S * q + (l + S - d) by omega, Nat.mul_add_mod, Nat.mod_eq_of_lt (by omega)]
theorem mod_ne {S n a b : Nat} (ha : a ≤ n) (hb : b ≤ n) (h1 : n - a < S) (h2 : n - b < S) (hab : a ≠ b) : a % S ≠ b % S := by
  have e1 := mod_sub (n := n) h1 (by omega)
  have e2 := mod_sub (n := n) h2 (by omega)
  rw [show n - (n - a) = a by omega] at e1
  rw [show n - (n - b) = b by omega] at e2
  have l := Nat.mod_lt n (show 0 < S by omega)
  rw [e1, e2]
  split <;> split <;> omega
/-- What is new is cleared, what is old stays. -/
theorem moved_get {S T n m : Nat} (r : List Bool) (hT : T < n) (hm : m ≤ n) (hs : n - m < S) : (moved S T n r).getD (m % S) false = if T < m then false else r.getD (m % S) false := by
  have il := Nat.mod_lt m (show 0 < S by omega)
  unfold moved
  by_cases h1 : S ≤ n - T
  · rw [if_pos h1, wipe_get, if_pos (by omega), if_pos (by omega)]
  · have em := mod_sub (n := n) hs (by omega)
    have ef := mod_sub (n := n) (S := S) (d := n - T - 1) (by omega) (by omega)
    rw [show n - (n - m) = m by omega] at em
    rw [show n - (n - T - 1) = T + 1 by omega] at ef
    have l := Nat.mod_lt n (show 0 < S by omega)
    have fl := Nat.mod_lt (T + 1) (show 0 < S by omega)
    rw [if_neg h1]
    generalize n % S = ln at *
    generalize (T + 1) % S = f at *
    generalize m % S = i at *
    by_cases h2 : f ≤ ln
    · rw [if_pos h2, wipe_get]
      by_cases h3 : T < m
      · rw [if_pos h3, if_pos]
        split at em <;> split at ef <;> omega
      · rw [if_neg h3, if_neg]
        split at em <;> split at ef <;> omega
    · rw [if_neg h2, wipe_get, wipe_get]
      by_cases h3 : T < m
      · rw [if_pos h3]
        by_cases h4 : 0 ≤ i ∧ i < 0 + (ln + 1)
        · rw [if_pos h4]
        · rw [if_neg h4, if_pos]
          split at em <;> split at ef <;> omega
      · rw [if_neg h3, if_neg, if_neg]
        · split at em <;> split at ef <;> omega
        · split at em <;> split at ef <;> omega

/-- The ring tells of the accepted numbers L. -/
structure Inv (S : Nat) (L : List Nat) (r : List Bool) : Prop where
  len : r.length = S
  pos : 0 < S
  tell : ∀ n, n ≤ top L → top L - n < S → r.getD (n % S) false = was L n
theorem inv_new {S : Nat} (h : 0 < S) : Inv S [] (List.replicate S false) :=
  ⟨by simp, h, fun n _ _ => by
    rw [List.getD_eq_getElem?_getD, List.getElem?_replicate, if_pos (Nat.mod_lt _ h)]
    rfl⟩
def oldc (S T : Nat) (r : List Bool) (n : Nat) : Bool := !(decide (T < n)) && (decide (S ≤ T - n) || r.getD (n % S) false)
theorem old_eq {S : Nat} {L : List Nat} {r : List Bool} (h : Inv S L r) (n : Nat) : oldc S (top L) r n = old S L n := by
  have p := h.pos
  unfold oldc old left
  by_cases h1 : top L < n
  · have nw : was L n = false := by
      cases q : was L n
      · rfl
      · have := le_top (was_iff.1 q); omega
    rw [nw, decide_eq_true h1]
    by_cases h2 : S ≤ top L
    · rw [decide_eq_true h2, decide_eq_false (show ¬ n ≤ top L - S by omega)]; rfl
    · rw [decide_eq_false h2]; rfl
  · rw [decide_eq_false h1]
    by_cases h2 : S ≤ top L - n
    · rw [decide_eq_true h2, decide_eq_true (show S ≤ top L by omega), decide_eq_true (show n ≤ top L - S by omega)]; rfl
    · rw [decide_eq_false h2, h.tell n (by omega) (by omega)]
      by_cases h3 : S ≤ top L
      · rw [decide_eq_true h3, decide_eq_false (show ¬ n ≤ top L - S by omega)]; rfl
      · rw [decide_eq_false h3]; rfl
/-- The ring behind an accepted number. -/
def put (S T n : Nat) (r : List Bool) : List Bool := (if T < n then moved S T n r else r).set (n % S) true
theorem put_len (S T n : Nat) (r : List Bool) : (put S T n r).length = r.length := by
  unfold put
  rw [List.length_set]
  split
  · exact moved_len _ _ _ _
  · rfl
theorem was_snoc (L : List Nat) (n m : Nat) : was (L ++ [n]) m = (was L m || (n == m)) := by
  unfold was
  rw [List.any_append]
  simp
theorem inv_put {S n : Nat} {L : List Nat} {r : List Bool} (h : Inv S L r) (ho : old S L n = false) : Inv S (L ++ [n]) (put S (top L) n r) := by
  have p := h.pos
  have il := Nat.mod_lt n p
  refine ⟨by rw [put_len]; exact h.len, p, fun m hm hd => ?_⟩
  rw [top_snoc] at hm hd
  rw [was_snoc]
  unfold put
  rw [set_get _ _ _ _ (by split <;> (try rw [moved_len]) <;> rw [h.len] <;> exact il)]
  by_cases e : n = m
  · subst e
    rw [if_pos rfl]; simp
  · have nb : (n == m) = false := beq_eq_false_iff_ne.2 e
    rw [nb, Bool.or_false]
    have ne : m % S ≠ n % S := by
      by_cases h1 : top L < n
      · rw [Nat.max_eq_right (by omega)] at hm hd
        exact mod_ne hm (Nat.le_refl n) hd (by omega) (fun q => e q.symm)
      · rw [Nat.max_eq_left (by omega)] at hm hd
        have : top L - n < S := by
          rcases Nat.lt_or_ge (top L - n) S with q | q
          · exact q
          · exfalso
            unfold old left at ho
            rw [decide_eq_true (show S ≤ top L by omega), decide_eq_true (show n ≤ top L - S by omega)] at ho
            cases ho
        exact mod_ne hm (by omega) hd this (fun q => e q.symm)
    rw [if_neg ne]
    by_cases h1 : top L < n
    · rw [Nat.max_eq_right (by omega)] at hm hd
      rw [if_pos h1, moved_get r h1 hm hd]
      by_cases h2 : top L < m
      · rw [if_pos h2]
        cases q : was L m
        · rfl
        · have := le_top (was_iff.1 q); omega
      · rw [if_neg h2]
        exact h.tell m (by omega) (by omega)
    · rw [Nat.max_eq_left (by omega)] at hm hd
      rw [if_neg h1]
      exact h.tell m hm hd
end Go.Proofs.YtppnkkpjfjhfkaaDoor.RngD

/- The code's window: how it lies; New, Top, place. -/
set_option linter.unusedVariables false
namespace Go.Proofs.YtppnkkpjfjhfkaaDoor.Rng1
open Go.RowKit Go.Proofs.YtppnkkpjfjhfkaaDoor.Sums Go.Proofs.YtppnkkpjfjhfkaaDoor.Mem Go.Proofs.YtppnkkpjfjhfkaaDoor.Blk Go.Proofs.YtppnkkpjfjhfkaaDoor.Longs Go.Proofs.YtppnkkpjfjhfkaaDoor.WinD Go.Proofs.YtppnkkpjfjhfkaaDoor.WinA Go.Proofs.YtppnkkpjfjhfkaaDoor.RngD

def bools (r : List Bool) : Array Value := (r.map Value.bool).toArray
theorem bools_get {r : List Bool} {i : Nat} (h : i < r.length) : (bools r)[i]? = some (.bool (r.getD i false)) := by
  unfold bools
  rw [List.getElem?_toArray, List.getElem?_map, List.getD_eq_getElem?_getD, List.getElem?_eq_getElem h]
  rfl
theorem bools_set (r : List Bool) (i : Nat) (b : Bool) : (bools r).setIfInBounds i (.bool b) = bools (r.set i b) := by
  unfold bools
  simp [List.map_set]
theorem bool_info : (Tryd.prog.info? 4).map (fun i => (i.zero, i.size, i.bytes)) = some (some (.bool false), 1, 1) := by kernel_rfl
theorem made_q (n : Nat) : madeCells #[.bool false] n = bools (List.replicate n false) := by
  apply Array.toList_inj.1
  simp only [madeCells, bools, List.map_replicate]
  apply List.ext_getElem
  · simp
  · intro i h1 h2
    simp [Nat.mod_one]
theorem make_q (n : Nat) (hn : n ≤ 1048576) (w : World) :
    (Instr.makeSlice 98 (.int .i64 (n : Int)) (.int .i64 (n : Int))).run Tryd.prog w = .ok (.slice (some ⟨w.heap.size, 0, none⟩) n n) (w.alloc (.cells (bools (List.replicate n false)) 4)) := by
  obtain ⟨i, hi, hz, hsz, hby⟩ := info_parts bool_info
  have hr := run_make (P := Tryd.prog) w 98 4 i (.bool false) Tryd.underlying98 hi hz .i64 .i64 (n : Int) (n : Int) (by omega) (by omega) (by rw [hby]; omega) (by omega)
  rw [Int.toNat_natCast, hsz, Nat.mul_one] at hr
  rw [← made_q]
  exact hr

def ccells (T : Nat) (wd : Bool) (gr S : Nat) : Array Value := #[.bool wd, .int .u64 (T : Int), .slice (some ⟨gr, 0, none⟩) S S]
/-- A window lies at block g, its ring r at block gr. -/
structure Cw (w : World) (g gr S : Nat) (wd : Bool) (T : Nat) (r : List Bool) : Prop where
  blk : Blk w g 100 (ccells T wd gr S)
  ring : Blk w gr 4 (bools r)
  ne : gr ≠ g
  tq : T < Q64
  len : r.length = S
  lo : 64 ≤ S
  hi : S ≤ 1024
section
variable {w w' : World} {g gr S T : Nat} {wd : Bool} {r : List Bool}
theorem Cw.c0 (h : Cw w g gr S wd T r) : w.cell? ⟨g, 0, none⟩ = some (.bool wd) := Blk.cell h.blk 0
theorem Cw.c1 (h : Cw w g gr S wd T r) : w.cell? ⟨g, 1, none⟩ = some (.int .u64 (T : Int)) := Blk.cell h.blk 1
theorem Cw.c2 (h : Cw w g gr S wd T r) : w.cell? ⟨g, 2, none⟩ = some (.slice (some ⟨gr, 0, none⟩) S S) := Blk.cell h.blk 2
theorem Cw.at_ (h : Cw w g gr S wd T r) {i : Nat} (hi : i < S) : w.cell? ⟨gr, i, none⟩ = some (.bool (r.getD i false)) := (Blk.cell h.ring i).trans (bools_get (by rw [h.len]; exact hi))
theorem Cw.drewN (h : Cw w g gr S wd T r) (n : Nat) : Cw (w.drewN n) g gr S wd T r := ⟨h.blk, h.ring, h.ne, h.tq, h.len, h.lo, h.hi⟩
theorem Cw.up (h : Cw w g gr S wd T r) (hb : Below w.heap.size w w') : Cw w' g gr S wd T r := ⟨Blk.below h.blk hb (Blk.lt h.blk), Blk.below h.ring hb (Blk.lt h.ring), h.ne, h.tq, h.len, h.lo, h.hi⟩
/-- Only other blocks turned. -/
theorem Cw.but {k : Nat} {q : Option Nat} (h : Cw w g gr S wd T r) (hb : But k q w w') (h1 : g ≠ k) (h2 : gr ≠ k) (h3 : some g ≠ q) (h4 : some gr ≠ q) : Cw w' g gr S wd T r :=
  ⟨(hb.block g (Blk.lt h.blk) h1 h3).trans h.blk, (hb.block gr (Blk.lt h.ring) h2 h4).trans h.ring, h.ne, h.tq, h.len, h.lo, h.hi⟩
end

theorem place_c (g gr S : Nat) (wd : Bool) (T : Nat) (r : List Bool) (n : Nat) (w : World) (h : Cw w g gr S wd T r) (hn : n < Q64) : Calls Tryd.prog 56 #[.pointer (some ⟨g, 0, none⟩), .int .u64 (n : Int)] w fun e w' => e = .returned (.int .i64 ((n % S : Nat) : Int)) ∧ w = w' := by
  have c2 := h.c2
  have sb := h.hi
  have sl := h.lo
  unfold Q64 at hn
  have il := Nat.mod_lt n (show 0 < S by omega)
  obtain ⟨i, hi⟩ : ∃ i, i = n % S := ⟨_, rfl⟩
  rw [← hi] at il ⊢
  have f1 : IntKind.u64.wrap (S : Int) = (S : Int) := IntWalk.u64_in _ (by omega)
  have f2 : ((n : Int)).tmod (S : Int) = (i : Int) := by rw [Int.tmod_eq_emod_of_nonneg (by omega), hi]; rfl
  have f3 : IntKind.i64.wrap (i : Int) = (i : Int) := IntWalk.i64_in _ (by omega)
  have f4 : IntKind.u64.wrap (i : Int) = (i : Int) := IntWalk.u64_in _ (by omega)
  have z1 : ¬ ((S : Int) = 0) := by omega
  have z2 : ¬ (S = 0) := by omega
  clear h hi
  go_enter Tryd.func56, Tryd.ntmps56
  go_wp2_with fail
  go_ret
  exact ⟨rfl, rfl⟩

theorem new_bad (S : Int) (wd : Bool) (w : World) (h : S < 64 ∨ 1024 < S) : Calls Tryd.prog 52 #[.int .i64 S, .bool wd] w fun e w' => e = .returned (.tuple #[.pointer none, .int .i64 1]) ∧ w = w' := by
  go_enter Tryd.func52, Tryd.ntmps52
  rcases h with h | h
  · have g : decide (S < 64) = true := decide_eq_true h
    go_wp2_with fail
    go_ret2
    exact ⟨rfl, rfl⟩
  · have g : decide (S < 64) = false := decide_eq_false (by omega)
    have g2 : decide (1024 < S) = true := decide_eq_true h
    go_wp2_with fail
    go_ret2
    exact ⟨rfl, rfl⟩
theorem new_c (S : Nat) (wd : Bool) (w : World) (h1 : 64 ≤ S) (h2 : S ≤ 1024) : Calls Tryd.prog 52 #[.int .i64 (S : Int), .bool wd] w fun e w' => e = .returned (.tuple #[.pointer (some ⟨w.heap.size + 1, 0, none⟩), .int .i64 0]) ∧ Cw w' (w.heap.size + 1) w.heap.size S wd 0 (List.replicate S false) ∧ Below w.heap.size w w' := by
  have g1 : decide ((S : Int) < 64) = false := decide_eq_false (by omega)
  have g2 : decide ((1024 : Int) < (S : Int)) = false := decide_eq_false (by omega)
  have mk := make_q S (by omega) w
  have LN : Hid ((List.replicate S false).length = S) := Lib.hid (by simp)
  obtain ⟨Z, hZ⟩ : ∃ Z, Z = List.replicate S false := ⟨_, rfl⟩
  rw [← hZ] at mk LN ⊢
  clear hZ
  have B0 := Lib.hid ((Below.refl w.heap.size w).alloc (Nat.le_refl _) (.cells (bools Z) 4))
  have HS : Hid ((w.alloc (.cells (bools Z) 4)).heap.size = w.heap.size + 1) := Lib.hid (by simp)
  have K0 := Lib.hid (Blk.new w 4 (bools Z))
  obtain ⟨W, hW⟩ : ∃ W, W = w.alloc (.cells (bools Z) 4) := ⟨_, rfl⟩
  rw [← hW] at mk B0 HS K0
  clear hW
  go_enter Tryd.func52, Tryd.ntmps52
  go_wp2_with fail
  go_ret2
  exact ⟨by first | rfl | (rw [HS.out]; rfl), ⟨by rw [← HS.out]; exact Blk.new W _ _, Blk.alloc K0.out _, by omega, by unfold Q64; omega, LN.out, h1, h2⟩, B0.out.alloc (by rw [HS.out]; omega) _⟩
end Go.Proofs.YtppnkkpjfjhfkaaDoor.Rng1

