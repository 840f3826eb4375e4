/- Contracts of the document: Constants, Constant, State, Ints; rows of any ints. -/
import Derived.Test.YtmlihcillheeaaaDoorShaR1
set_option linter.unusedVariables false
namespace Go.Proofs.YtmlihcillheeaaaDoor.ShaC
open Go.RowKit Go.Proofs.YtmlihcillheeaaaDoor.Sums Go.Proofs.YtmlihcillheeaaaDoor.Mem Go.Proofs.YtmlihcillheeaaaDoor.Blk Go.Proofs.YtmlihcillheeaaaDoor.Bits3 Go.Proofs.YtmlihcillheeaaaDoor.Ints Go.Proofs.YtmlihcillheeaaaDoor.IntsO Go.Proofs.YtmlihcillheeaaaDoor.ShaD Go.Proofs.YtmlihcillheeaaaDoor.ShaR1

/-- The slice (A, n, c) holds these ints, in memory below block B. -/
def HoldsI (w : World) (B : Nat) (A : Option Addr) (n c : Nat) (l : List Int) : Prop :=
  l.length = n ∧ n ≤ 1048576 ∧ (∀ z ∈ l, -9223372036854775808 ≤ z ∧ z ≤ 9223372036854775807) ∧
  (0 < n → ∃ b o, A = some ⟨b, o, none⟩ ∧ b < B ∧ ∀ j, j < n → w.cell? ⟨b, o + j, none⟩ = some (.int .i64 (l.getD j 0)))
theorem HoldsI.keep {w w' : World} {B n c : Nat} {A : Option Addr} {l : List Int} (h : HoldsI w B A n c l)
    (k : ∀ b o, b < B → w'.cell? ⟨b, o, none⟩ = w.cell? ⟨b, o, none⟩) : HoldsI w' B A n c l :=
  ⟨h.1, h.2.1, h.2.2.1, fun hn => by
    obtain ⟨b, o, e, hb, hc⟩ := h.2.2.2 hn
    exact ⟨b, o, e, hb, fun j hj => (k _ _ hb).trans (hc j hj)⟩⟩
theorem HoldsI.more {w : World} {B B' n c : Nat} {A : Option Addr} {l : List Int} (h : HoldsI w B A n c l) (k : B ≤ B') : HoldsI w B' A n c l :=
  ⟨h.1, h.2.1, h.2.2.1, fun hn => by
    obtain ⟨b, o, e, hb, hc⟩ := h.2.2.2 hn
    exact ⟨b, o, e, by omega, hc⟩⟩
theorem HoldsI.below {w w' : World} {B n c : Nat} {A : Option Addr} {l : List Int} (h : HoldsI w B A n c l) (k : Below B w w') : HoldsI w' B A n c l :=
  h.keep fun b o hb => k.cell (p := ⟨b, o, none⟩) hb
theorem HoldsI.of_own {w : World} {base : Nat} {A : Option Addr} {c : Nat} {l : List Nat} (h : IOwn w base (.slice A l.length c) l) (hl : W32 l) (hm : l.length ≤ 1048576) : HoldsI w w.heap.size A l.length c (ints l) := by
  refine ⟨by simp [ints], hm, fun z hz => ?_, fun hn => ?_⟩
  · obtain ⟨x, hx, rfl⟩ := List.mem_map.1 hz
    have := hl x hx
    unfold M at this
    omega
  · obtain ⟨g, cap, e, hb, hg, _⟩ := h.form hn
    injection e with e1 _ _
    subst e1
    refine ⟨g, 0, rfl, hg, fun j hj => ?_⟩
    rw [Nat.zero_add, ints_getD]
    exact h.cell hj

/-- May these numbers be a state? -/
def okI (l : List Int) : Bool := l.all fun z => decide (0 ≤ z) && decide (z < 4294967296)
def stI (l : List Int) : Bool := okI l && decide (l.length = 8)

theorem lit_K : (#[.int .i64 1116352408, .int .i64 1899447441, .int .i64 3049323471, .int .i64 3921009573, .int .i64 961987163, .int .i64 1508970993, .int .i64 2453635748, .int .i64 2870763221, .int .i64 3624381080, .int .i64 310598401, .int .i64 607225278, .int .i64 1426881987, .int .i64 1925078388, .int .i64 2162078206, .int .i64 2614888103, .int .i64 3248222580, .int .i64 3835390401, .int .i64 4022224774, .int .i64 264347078, .int .i64 604807628, .int .i64 770255983, .int .i64 1249150122, .int .i64 1555081692, .int .i64 1996064986, .int .i64 2554220882, .int .i64 2821834349, .int .i64 2952996808, .int .i64 3210313671, .int .i64 3336571891, .int .i64 3584528711, .int .i64 113926993, .int .i64 338241895, .int .i64 666307205, .int .i64 773529912, .int .i64 1294757372, .int .i64 1396182291, .int .i64 1695183700, .int .i64 1986661051, .int .i64 2177026350, .int .i64 2456956037, .int .i64 2730485921, .int .i64 2820302411, .int .i64 3259730800, .int .i64 3345764771, .int .i64 3516065817, .int .i64 3600352804, .int .i64 4094571909, .int .i64 275423344, .int .i64 430227734, .int .i64 506948616, .int .i64 659060556, .int .i64 883997877, .int .i64 958139571, .int .i64 1322822218, .int .i64 1537002063, .int .i64 1747873779, .int .i64 1955562222, .int .i64 2024104815, .int .i64 2227730452, .int .i64 2361852424, .int .i64 2428436474, .int .i64 2756734187, .int .i64 3204031479, .int .i64 3329325298, .int .i64 1779033703, .int .i64 3144134277, .int .i64 1013904242, .int .i64 2773480762, .int .i64 1359893119, .int .i64 2600822924, .int .i64 528734635, .int .i64 1541459225] : Array Value) = icells K := by kernel_rfl
set_option maxHeartbeats 4000000 in
theorem constants_ref (w : World) : Calls Tryd.prog 23 #[] w fun e w' => e = .returned (.slice (some ⟨w.heap.size, 0, none⟩) 72 72) ∧ IRow w' w.heap.size K ∧ Below w.heap.size w w' := by
  have FIN : Hid (∀ KC, KC = icells K → IRow (w.alloc (.cells KC 3)) w.heap.size K ∧ Below w.heap.size w (w.alloc (.cells KC 3))) := Lib.hid fun KC e => (by rw [e]; exact ⟨IRow.new w K, (Below.refl _ w).alloc (Nat.le_refl _) _⟩)
  go_enter Tryd.func23, Tryd.ntmps23
  go_wp2_with fail
  go_ret
  exact ⟨rfl, FIN.out _ lit_K⟩

/-- A number by its place. -/
def kAt (i : Int) : Nat := if i < 0 ∨ 71 < i then 0 else K.getD i.toNat 0
theorem state_ref (A : Option Addr) (n c : Nat) (l : List Int) (w : World) (B : Nat) (h : HoldsI w B A n c l) : Calls Tryd.prog 27 #[.slice A n c] w fun e w' => e = .returned (.bool (stI l)) ∧ w = w' := by
  have HK := Lib.hid h
  have nb := h.2.1
  clear h
  go_enter Tryd.func27, Tryd.ntmps27
  go_wp2_with fail
  go_loopw [3] (fun kv wr => ∃ j : Nat, kv = .int .i64 (j : Int) ∧ j ≤ n ∧ Hid (okI (l.take j) = true) ∧ Hid (wr = w)) (fun kv _ => n - (intOf kv).toNat)
  case atStart => exact ⟨0, rfl, by omega, Lib.hid rfl, Lib.hid rfl⟩
  case round =>
    obtain ⟨j, rfl, hj, HO, HW⟩ := hrel
    obtain rfl := HW.out
    by_cases hlt : j < n
    · obtain ⟨b, o, rfl, _, hc⟩ := HK.out.2.2.2 (by omega)
      have c1 := hc j hlt
      have hz : l[j]? = some (l.getD j 0) := by rw [List.getD_eq_getElem?_getD, List.getElem?_eq_getElem (by rw [HK.out.1]; exact hlt)]; rfl
      have TK : Hid (okI (l.take (j + 1)) = (okI (l.take j) && (decide (0 ≤ l.getD j 0) && decide (l.getD j 0 < 4294967296)))) := Lib.hid (by
        rw [List.take_add_one, hz]
        simp [okI])
      have BAD : Hid ((decide (0 ≤ l.getD j 0) && decide (l.getD j 0 < 4294967296)) = false → stI l = false) := Lib.hid fun q => by
        have : okI l = false := by
          rw [okI, List.all_eq_false]
          exact ⟨l.getD j 0, List.mem_of_getElem? hz, by rw [q]; decide⟩
        rw [stI, this, Bool.false_and]
      generalize l.getD j 0 = z at *
      clear hz hc
      by_cases h1 : z < 0
      · have F := Lib.hid (BAD.out (by rw [decide_eq_false (show ¬ (0 ≤ z) by omega)]; rfl))
        have g1 : decide (z < 0) = true := decide_eq_true h1
        go_wp2_with fail
        go_ret
        exact ⟨by rw [F.out]; rfl, rfl⟩
      · have g1 : decide (z < 0) = false := decide_eq_false h1
        by_cases h2 : 4294967296 ≤ z
        · have F := Lib.hid (BAD.out (by rw [decide_eq_false (show ¬ (z < 4294967296) by omega), Bool.and_false]))
          have g2 : decide (4294967296 ≤ z) = true := decide_eq_true h2
          go_wp2_with fail
          go_ret
          exact ⟨by rw [F.out]; rfl, rfl⟩
        · have g2 : decide (4294967296 ≤ z) = false := decide_eq_false h2
          have TN : Hid (okI (l.take (j + 1)) = true) := Lib.hid (by rw [TK.out, HO.out, decide_eq_true (show 0 ≤ z by omega), decide_eq_true (show z < 4294967296 by omega)]; rfl)
          clear TK BAD HO
          go_wp2_with fail
          go_roundw
          case rel => exact ⟨j + 1, by go_num, by omega, TN, Lib.hid (by trivial)⟩
          case measure => simp [intOf]; omega
    · obtain rfl : j = n := by omega
      have OK : okI l = true := by rw [← HO.out, List.take_of_length_le (by rw [HK.out.1]; exact Nat.le_refl _)]
      have F : Hid (stI l = ((j : Int) == 8)) := Lib.hid (by
        rw [stI, OK, Bool.true_and, HK.out.1]
        by_cases q : j = 8
        · subst q; rfl
        · rw [decide_eq_false q]; symm; rw [beq_eq_false_iff_ne]; omega)
      clear OK HO
      go_wp2_with fail
      go_ret
      exact ⟨by rw [F.out]; rfl, rfl⟩

end Go.Proofs.YtmlihcillheeaaaDoor.ShaC
