/- What slices.Backward hands back. -/
import Derived.Test.YtnabjhdamofpgaaRt7
import Derived.RangeFuncWrites
import Derived.RangeFuncLeaves
import Derived.RangeFuncCalls
import Derived.RangeFuncBox
import Derived.Shelf.Abstract
import Derived.Shelf.RegionOpen
import Derived.WalkKit
import Derived.OwnWalkIn
import Derived.TacticsInMore
import Derived.LoopNIn
import Derived.LoopIn
import Derived.BigFrameIn
set_option linter.unusedVariables false
namespace Go.Proofs.Ytnabjhdamofpgaa.Rt8
open Go.RowKit Go.PlainAid Go.Proofs.Ytnabjhdamofpgaa.Sums Go.Proofs.Ytnabjhdamofpgaa.Mem Go.Proofs.Ytnabjhdamofpgaa.Blk Go.Proofs.Ytnabjhdamofpgaa.Grp Go.Proofs.Ytnabjhdamofpgaa.AdrD Go.Proofs.Ytnabjhdamofpgaa.AdrR Go.Proofs.Ytnabjhdamofpgaa.Steps Go.Proofs.Ytnabjhdamofpgaa.Com Go.Proofs.Ytnabjhdamofpgaa.RowN Go.Proofs.Ytnabjhdamofpgaa.RowA Go.Proofs.Ytnabjhdamofpgaa.ArgT Go.Proofs.Ytnabjhdamofpgaa.TabD Go.Proofs.Ytnabjhdamofpgaa.TabOps Go.Proofs.Ytnabjhdamofpgaa.TabM Go.Proofs.Ytnabjhdamofpgaa.Free Go.Proofs.Ytnabjhdamofpgaa.RtD

/-- The elements, the last one first, each with its place. -/
def bk (rs : List RouteR) : List (Nat × RouteR) := (List.range rs.length).reverse.map fun i => (i, rs.getD i ZR)
theorem bk_len (rs : List RouteR) : (bk rs).length = rs.length := by simp [bk]
theorem bk_at {rs : List RouteR} {i : Nat} (h : i < rs.length) : (bk rs)[rs.length - (i + 1)]? = some (i, rs[i]) := by
  unfold bk
  rw [List.getElem?_map, List.getElem?_reverse (by rw [List.length_range]; omega), List.length_range, show rs.length - 1 - (rs.length - (i + 1)) = i by omega, List.getElem?_range h]
  simp [List.getD_eq_getElem?_getD, h]
theorem bk_next {rs : List RouteR} {i : Nat} (h : i < rs.length) : (bk rs).take (rs.length - i) = (bk rs).take (rs.length - (i + 1)) ++ [(i, rs[i])] := by
  rw [show rs.length - i = rs.length - (i + 1) + 1 by omega, List.take_add_one, bk_at h]
  rfl
theorem bk_all (rs : List RouteR) : (bk rs).map (fun x => x.2) = rs.reverse := by
  apply List.ext_getElem?
  intro j
  rw [List.getElem?_map]
  by_cases h : j < rs.length
  · have e := bk_at (rs := rs) (i := rs.length - 1 - j) (by omega)
    rw [show rs.length - (rs.length - 1 - j + 1) = j by omega] at e
    rw [e, List.getElem?_reverse h, List.getElem?_eq_getElem (by omega)]
    rfl
  · rw [List.getElem?_eq_none (by rw [bk_len]; omega), List.getElem?_eq_none (by rw [List.length_reverse]; omega)]
    rfl
/-- The same list, told by other names. -/
theorem xs_at {α : Type} {enc : α → Nat × RouteR} {xs : List α} {rs : List RouteR} (hx : xs.map enc = bk rs) {i : Nat} {r : RouteR} (hr : rs[i]? = some r) : ∃ y, enc y = (i, r) ∧ xs.take (rs.length - i) = xs.take (rs.length - (i + 1)) ++ [y] := by
  obtain ⟨hi, rfl⟩ := List.getElem?_eq_some_iff.1 hr
  have e := bk_at hi
  rw [← hx, List.getElem?_map] at e
  obtain ⟨y, hy, he⟩ := Option.map_eq_some_iff.1 e
  refine ⟨y, he, ?_⟩
  rw [show rs.length - i = rs.length - (i + 1) + 1 by omega, List.take_add_one, hy]
  rfl
theorem lift_good : ∀ (l : List (Nat × RouteR)), (∀ x ∈ l, GoodR x.2) → ∃ xs : List { x : Nat × RouteR // GoodR x.2 }, xs.map (fun x => x.1) = l
  | [], _ => ⟨[], rfl⟩
  | a :: r, h => by
    obtain ⟨xs, hx⟩ := lift_good r fun x hx => h x (by simp [hx])
    exact ⟨⟨a, h a (by simp)⟩ :: xs, by simp [hx]⟩
theorem bk_good {rs : List RouteR} (h : ∀ r ∈ rs, GoodR r) : ∀ x ∈ bk rs, GoodR x.2 := fun x hx => by
  have : x.2 ∈ rs.reverse := by rw [← bk_all]; exact List.mem_map.2 ⟨x, hx, rfl⟩
  exact h _ (List.mem_reverse.1 this)
theorem back_any (A : Option Addr) (n c : Nat) (w : World) : Calls Try.prog 31 #[.slice A n c] w fun e w' => e = .returned (.func (.func 47) #[] #[.pointer (some ⟨w.heap.size, 0, none⟩)]) ∧ w.alloc (.cells #[.slice A n c] 27) = w' := by
  go_enter Try.func31, Try.ntmps31
  go_wp2_with fail
  go_ret
  exact ⟨rfl, rfl⟩
/-- What a round keeps: all that lay there. -/
def Kp (S : Nat) (V W : World) : Prop := ∀ k, k < S → W.heap[k]? = V.heap[k]?
theorem Kp.trans {S : Nat} {A B C : World} (h : Kp S A B) (k : Kp S B C) : Kp S A C := fun j hj => (k j hj).trans (h j hj)
theorem Kp.refl (S : Nat) (W : World) : Kp S W W := fun _ _ => rfl
theorem Kp.put {S l : Nat} {W : World} {o : Obj} (hl : S ≤ l) : Kp S W (W.putObj l o) := fun k hk => World.putObj_heap_other (by omega)
theorem Kp.below {S : Nat} {V W : World} (h : Below S V W) : Kp S V W := fun k hk => h.block k hk
set_option maxRecDepth 100000 in
set_option maxHeartbeats 1000000 in
theorem back1_in {α : Type} (enc : α → Nat × RouteR) (n : Nat) (hn : 2 ≤ n) (l S g : Nat) (A : Option Addr) (N c : Nat) (rs : List RouteR) (hN : rs.length = N) (hm : N ≤ 64) (xs : List α) (hx : xs.map enc = bk rs) (J Jx : List α → World → Prop)
    (hY : ∀ pre x W, J pre W → pre.length < N → YieldAt Fence.wide (n - 1) Try.prog l #[.int .i64 ((enc x).1 : Int), .agg (RA (enc x).2)] W fun e W' =>
      (e = .returned (.bool true) ∧ J (pre ++ [x]) W' ∧ Kp S W W') ∨ (e = .returned (.bool false) ∧ Jx (pre ++ [x]) W'))
    (W : World) (hb : Blk W g 27 #[.slice A N c]) (hrow : RowAt RT 4 W A N c (rs.flatMap RouteR.cells)) (hg : g < S) (hA : ∀ k, own A k → k < S) (h0 : J [] W) :
    CallsIn Fence.wide n Try.prog 47 #[.func (.yield l) #[] #[], .pointer (some ⟨g, 0, none⟩)] W fun e W' => (∃ v, e = .returned v) ∧
      ((∃ ys, ys = xs ∧ J ys W') ∨ (∃ pre, pre <+: xs ∧ Jx pre W')) := by
  have h1n : 1 ≤ n := by omega
  have HB := Lib.hid hb
  have HR := Lib.hid hrow
  have RN := Lib.hid hN
  have HA := Lib.hid hA
  have HX := Lib.hid hx
  have XL : Hid (xs.length = N) := Lib.hid (by rw [← hN, ← bk_len rs, ← hx, List.length_map])
  have c0 := hb.cell 0
  have e0 : IntKind.i64.wrap ((N : Int) - 1) = (N : Int) - 1 := IntWalk.i64_in _ (by omega)
  clear hb hrow hN hA hx
  refine callsIn_of_wp Try.func47 rfl trivial ?_ rfl
  simp only [Try.ntmps47, List.size_toArray, List.length_cons, List.length_nil, Nat.reduceAdd, Nat.reduceSub, Array.replicate_succ, Array.replicate_zero, List.push_toArray, List.append_toArray, List.nil_append, List.cons_append]
  gi_wp2
  clear e0 c0
  gi_loopw [3] (fun iv wr => ∃ (k : Nat) (pre : List α), iv = .int .i64 ((k : Int) - 1) ∧ k ≤ N ∧ Hid (pre = xs.take (N - k)) ∧ Hid (Kp S W wr) ∧ Hid (J pre wr)) (fun iv _ => (intOf iv + 1).toNat)
  case atStart => exact ⟨N, [], rfl, Nat.le_refl _, Lib.hid (by simp), Lib.hid (Kp.refl _ _), Lib.hid h0⟩
  case round =>
    obtain ⟨k, pre, rfl, hk, HP, HK, HJ⟩ := hrel
    clear h0
    by_cases hz : k = 0
    · subst hz
      have g1 : decide ((0 : Int) ≤ ((0 : Nat) : Int) - 1) = false := by decide
      have E : Hid (pre = xs) := Lib.hid (by rw [HP.out, Nat.sub_zero, List.take_of_length_le (by rw [XL.out]; exact Nat.le_refl _)])
      gi_wp2
      go_end0
      exact ⟨⟨_, rfl⟩, .inl ⟨pre, E.out, HJ.out⟩⟩
    · obtain ⟨i, rfl⟩ : ∃ i, k = i + 1 := ⟨k - 1, by omega⟩
      have hi : ((i + 1 : Nat) : Int) - 1 = (i : Int) := by omega
      rw [hi]
      have iN : i < N := by omega
      have g1 : decide ((0 : Int) ≤ (i : Int)) = true := decide_eq_true (by omega)
      obtain ⟨r, hr⟩ : ∃ r, rs[i]? = some r := ⟨_, List.getElem?_eq_getElem (by rw [RN.out]; exact iN)⟩
      obtain ⟨y, hy0, hy1⟩ := xs_at HX.out hr
      rw [RN.out] at hy1
      have PN : Hid (pre ++ [y] = xs.take (N - i)) := Lib.hid (by rw [hy1, HP.out])
      have PF_ : Hid (pre ++ [y] <+: xs) := Lib.hid (by rw [PN.out]; exact List.take_prefix _ _)
      have HBr : Blk wr g 27 #[.slice A N c] := (HK.out g hg).trans HB.out
      have cb := HBr.cell 0
      have HRr : RowAt RT 4 wr A N c (rs.flatMap RouteR.cells) := HR.out.keep fun j hj _ => HK.out j (HA.out j hj)
      obtain ⟨b, X, rfl, -, -, -⟩ := HRr.some (by omega)
      have AT := row_route HRr hr
      have p0 := AT 0 _ rfl
      have p1 := AT 1 _ rfl
      have p2 := AT 2 _ rfl
      have p3 := AT 3 _ rfl
      simp only [Nat.add_zero] at p0
      have hlen : pre.length < N := by rw [HP.out, List.length_take, XL.out]; omega
      have e1 : IntKind.i64.wrap ((i : Int) - 1) = (i : Int) - 1 := IntWalk.i64_in _ (by omega)
      obtain ⟨fn, tmps, assign, body, hy, hR⟩ := hY pre y wr HJ.out hlen
      rw [hy0] at hy
      simp only at hy
      clear hi hz hr hy0 hy1 HBr HRr AT hlen
      gi_wp2
      refine hR.mono ?_
      rintro e W3 (⟨rfl, hJ3, hk3⟩ | ⟨rfl, hJx3⟩)
      · have HK3 := Lib.hid (HK.out.trans hk3)
        have HJ3 := Lib.hid hJ3
        clear hk3 hJ3 p0 p1 p2 p3 cb
        gi_wp2
        go_roundw
        case rel => exact ⟨i, pre ++ [y], rfl, by omega, PN, HK3, HJ3⟩
        case measure => simp [intOf]
      · gi_wp2
        refine bodyPost_ret (results_none rfl _ _ _) rfl ?_
        exact ⟨⟨_, rfl⟩, .inr ⟨pre ++ [y], PF_.out, hJx3⟩⟩
theorem back_stops {α : Type} (enc : α → Nat × RouteR) (n : Nat) (hn : 2 ≤ n) (S g : Nat) (A : Option Addr) (N c : Nat) (rs : List RouteR) (hN : rs.length = N) (hm : N ≤ 64) (xs : List α) (hx : xs.map enc = bk rs) (w : World) (hS : S ≤ w.heap.size) (hb : Blk w g 27 #[.slice A N c]) (hrow : RowAt RT 4 w A N c (rs.flatMap RouteR.cells)) (hg : g < S) (hA : ∀ k, own A k → k < S) :
    SeqStopsK Fence.wide n Try.prog 47 #[.pointer (some ⟨g, 0, none⟩)] (fun x : α => #[Value.int .i64 ((enc x).1 : Int), .agg (RA (enc x).2)]) (Kp S) (fun ys => ys = xs) (fun pre => pre <+: xs) N w := fun l J Jx W hW _ _ hY h0 =>
  back1_in enc n hn l S g A N c rs hN hm xs hx J Jx hY W (hb.below hW hb.lt) (hrow.below hW) hg hA h0
end Go.Proofs.Ytnabjhdamofpgaa.Rt8
