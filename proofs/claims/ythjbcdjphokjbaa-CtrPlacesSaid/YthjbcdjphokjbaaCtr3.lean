/- The contracts of examine and of the blocks of a stream. -/
import Derived.Test.YthjbcdjphokjbaaCtr2
import Derived.Test.YthjbcdjphokjbaaYield
import Derived.RangeFuncLeaves
import Derived.RangeFuncBox
import Derived.RangeFuncCalls
import Derived.Shelf.Abstract
import Derived.Shelf.RegionOpen
import Derived.WalkKit
import Derived.OwnWalkIn
import Derived.TacticsInMore
import Derived.LoopNIn
import Derived.LoopIn
import Derived.BigFrameIn
set_option linter.unusedVariables false
namespace Go.Proofs.Ythjbcdjphokjbaa.Ctr3
open Go.RowKit Go.PlainAid Go.Proofs.Ythjbcdjphokjbaa.Sums Go.Proofs.Ythjbcdjphokjbaa.Mem Go.Proofs.Ythjbcdjphokjbaa.Blk Go.Proofs.Ythjbcdjphokjbaa.Bits3 Go.Proofs.Ythjbcdjphokjbaa.Ints Go.Proofs.Ythjbcdjphokjbaa.CtrD Go.Proofs.Ythjbcdjphokjbaa.AesB Go.Proofs.Ythjbcdjphokjbaa.AesK Go.Proofs.Ythjbcdjphokjbaa.AesR3 Go.Proofs.Ythjbcdjphokjbaa.Aes2 Go.Proofs.Ythjbcdjphokjbaa.Aes6 Go.Proofs.Ythjbcdjphokjbaa.Aes7 Go.Proofs.Ythjbcdjphokjbaa.Aes9 Go.Proofs.Ythjbcdjphokjbaa.Ctr1 Go.Proofs.Ythjbcdjphokjbaa.Ctr2 Go.Proofs.Ythjbcdjphokjbaa.Yield

def errE (sn vn : Nat) (n : Int) : Int := if sn = 4 ∧ vn = 8 then (if n < 0 then 1 else if n ≤ 65536 then 0 else 2) else 1

set_option maxHeartbeats 1000000 in
theorem examine_any (As Av : Option Addr) (sn cs vn cv : Nat) (sa iv : List Int) (n : Int) (w : World) (B : Nat) (hs : Holds w B As sn cs sa) (hv : Holds w B Av vn cv iv) (hB : B ≤ w.heap.size) :
    Calls Try.prog 19 #[.slice As sn cs, .slice Av vn cv, .int .i64 n] w fun e w' => e = .returned (.int .i64 (errE sn vn n)) ∧ Below w.heap.size w w' := by
  by_cases h : sn = 4 ∧ vn = 8
  · obtain ⟨rfl, rfl⟩ := h
    have C := Lib.hid (counter_ok As Av cs cv sa iv 1 w B hs hv hB (by decide) (by decide))
    clear hs hv
    by_cases g1 : n < 0
    · have E : Hid (errE 4 8 n = 1) := Lib.hid (by simp [errE, g1])
      have g1' : decide (n < 0) = true := decide_eq_true g1
      clear g1
      go_enter Try.func19, Try.ntmps19
      go_wp2_with fail
      refine C.out.mono ?_
      rintro e w1 ⟨A, c, rfl, _, hb⟩
      have HB := Lib.hid hb
      clear hb
      go_wp2_with fail
      go_ret
      exact ⟨by rw [E.out]; rfl, HB.out⟩
    · have g1' : decide (n < 0) = false := decide_eq_false g1
      by_cases g2 : 65536 < n
      · have E : Hid (errE 4 8 n = 2) := Lib.hid (by simp [errE, g1]; omega)
        have g2' : decide (65536 < n) = true := decide_eq_true g2
        clear g1 g2
        go_enter Try.func19, Try.ntmps19
        go_wp2_with fail
        refine C.out.mono ?_
        rintro e w1 ⟨A, c, rfl, _, hb⟩
        have HB := Lib.hid hb
        clear hb
        go_wp2_with fail
        go_ret
        exact ⟨by rw [E.out]; rfl, HB.out⟩
      · have E : Hid (errE 4 8 n = 0) := Lib.hid (by simp [errE, g1]; omega)
        have g2' : decide (65536 < n) = false := decide_eq_false g2
        clear g1 g2
        go_enter Try.func19, Try.ntmps19
        go_wp2_with fail
        refine C.out.mono ?_
        rintro e w1 ⟨A, c, rfl, _, hb⟩
        have HB := Lib.hid hb
        clear hb
        go_wp2_with fail
        go_ret
        exact ⟨by rw [E.out]; rfl, HB.out⟩
  · have C := Lib.hid (counter_bad As Av sn cs vn cv 1 w (by simp only [cbad, Bool.not_eq_true', Bool.and_eq_false_iff, decide_eq_false_iff_not]; omega))
    have E : Hid (errE sn vn n = 1) := Lib.hid (by simp only [errE, if_neg h])
    clear hs hv h
    go_enter Try.func19, Try.ntmps19
    go_wp2_with fail
    refine C.out.mono ?_
    rintro e w1 ⟨rfl, rfl⟩
    go_wp2_with fail
    go_ret
    exact ⟨by rw [E.out]; rfl, Below.refl _ _⟩

/-- The four boxes that the iterator captures. -/
def boxed4 (w : World) (k s v : Value) (n : Int) : World := (((w.alloc (.cells #[k] 22)).alloc (.cells #[s] 22)).alloc (.cells #[v] 22)).alloc (.cells #[.int .i64 n] 3)
theorem blocks_any (Ak As Av : Option Addr) (kn ck sn cs vn cv : Nat) (n : Int) (w : World) :
    Calls Try.prog 20 #[.slice Ak kn ck, .slice As sn cs, .slice Av vn cv, .int .i64 n] w fun e w' =>
      e = .returned (.func (.func 31) #[] #[.pointer (some ⟨w.heap.size + 3, 0, none⟩), .pointer (some ⟨w.heap.size + 1, 0, none⟩), .pointer (some ⟨w.heap.size + 2, 0, none⟩), .pointer (some ⟨w.heap.size, 0, none⟩)]) ∧ boxed4 w (.slice Ak kn ck) (.slice As sn cs) (.slice Av vn cv) n = w' := by
  go_enter Try.func20, Try.ntmps20
  go_wp2_with fail
  go_ret
  exact ⟨rfl, rfl⟩

/-- What the iterator reads. -/
structure Laid (W : World) (r b : Nat) (Ak : Option Addr) (L ck : Nat) (KS : List Nat) (As : Option Addr) (cs : Nat) (sa : List Int) (Av : Option Addr) (cv : Nat) (iv : List Int) (n : Nat) : Prop where
  k : Boxed W b 22 (.slice Ak L ck)
  s : Boxed W (b + 1) 22 (.slice As 4 cs)
  v : Boxed W (b + 2) 22 (.slice Av 8 cv)
  n : Boxed W (b + 3) 3 (.int .i64 (n : Int))
  hk : Holds W r Ak L ck (ints KS)
  hs : Holds W r As 4 cs sa
  hv : Holds W r Av 8 cv iv
/-- What a round keeps. -/
structure Kp (r b : Nat) (V W : World) : Prop where
  low : Below r V W
  box : ∀ k, b ≤ k → k < b + 4 → W.heap[k]? = V.heap[k]?
theorem Kp.trans {r b : Nat} {A B C : World} (h : Kp r b A B) (k : Kp r b B C) : Kp r b A C := ⟨h.low.trans k.low, fun j h1 h2 => (k.box j h1 h2).trans (h.box j h1 h2)⟩
theorem Laid.keep {V W : World} {r b : Nat} {Ak : Option Addr} {L ck : Nat} {KS : List Nat} {As : Option Addr} {cs : Nat} {sa : List Int} {Av : Option Addr} {cv : Nat} {iv : List Int} {n : Nat} (h : Laid V r b Ak L ck KS As cs sa Av cv iv n) (k : Kp r b V W) : Laid W r b Ak L ck KS As cs sa Av cv iv n :=
  ⟨(k.box b (by omega) (by omega)).trans h.k, (k.box (b + 1) (by omega) (by omega)).trans h.s, (k.box (b + 2) (by omega) (by omega)).trans h.v, (k.box (b + 3) (by omega) (by omega)).trans h.n, h.hk.below k.low, h.hs.below k.low, h.hv.below k.low⟩
theorem Kp.below {V W : World} {r b : Nat} (h : Below V.heap.size V W) (hr : r ≤ b) (hb : b + 4 ≤ V.heap.size) : Kp r b V W :=
  ⟨h.mono (by omega), fun k h1 h2 => h.block k (by omega)⟩
theorem Kp.put {W : World} {r b l : Nat} {o' : Obj} (hr : r ≤ b) (hl : b + 4 ≤ l) (ho : W.heap[l]? = some o') (o : Obj) : Kp r b W (W.putObj l o) :=
  ⟨(Below.refl r W).grown (grownBy_putObj' W l o) (by have := (Array.getElem?_eq_some_iff.1 ho).1; omega) fun k e => by cases e; omega, fun k h1 h2 => World.putObj_heap_other (by omega)⟩

/-- What is told of the block that is handed on. -/
def Told (KS sa iv : List Nat) (m : Nat) (pre : List Nat) (g : Nat) (W : World) : Prop := pre.length < m ∧ ARow W g 59 (block KS (cnt sa iv (pre.length + 1)))
theorem Told.put {KS sa iv : List Nat} {m : Nat} {pre : List Nat} {g : Nat} {W : World} {l : Nat} {o o' : Obj} (ho : W.heap[l]? = some o) (hc : o.isCells = false) (h : Told KS sa iv m pre g W) : Told KS sa iv m pre g (W.putObj l o') := by
  refine ⟨h.1, ?_⟩
  have := h.2
  unfold ARow Blk at *
  rw [World.putObj_heap_other]
  · exact this
  · intro e
    subst e
    rw [this] at ho
    cases ho
    cases hc

set_option maxRecDepth 100000 in
set_option maxHeartbeats 1000000 in
theorem blk1_in (n : Nat) (hn : 2 ≤ n) (l r b : Nat) (Ak : Option Addr) (L ck : Nat) (KS : List Nat) (As : Option Addr) (cs : Nat) (sa : List Int) (Av : Option Addr) (cv : Nat) (iv : List Int) (N m : Nat) (hN : N ≤ 65536) (hm : m = (N + 15) / 16) (hL : L = 176 ∨ L = 240) (hr : r ≤ b)
    (J : List Nat → World → Prop) (W : World) (hJ : AbidesFrom W.heap.size J) (hb : b + 4 ≤ W.heap.size) (h : Laid W r b Ak L ck KS As cs sa Av cv iv N)
    (hY : ∀ pre x V, J pre V → Told KS (nats sa) (nats iv) m pre x V → YieldAt Fence.wide (n - 1) Try.prog l #[.slice (some ⟨x, 0, none⟩) 16 16] V fun e V' => e = .returned (.bool true) ∧ J (pre ++ [x]) V' ∧ Kp r b V V')
    (h0 : J [] W) :
    CallsIn Fence.wide n Try.prog 31 #[.func (.yield l) #[] #[], .pointer (some ⟨b + 3, 0, none⟩), .pointer (some ⟨b + 1, 0, none⟩), .pointer (some ⟨b + 2, 0, none⟩), .pointer (some ⟨b, 0, none⟩)] W fun e W' => ∃ v xs, e = .returned v ∧ xs.length = m ∧ J xs W' := by
  have hf1 : Fence.wide.fn 9 := trivial
  have hf2 : Fence.wide.fn 25 := trivial
  have h1n : 1 ≤ n := by omega
  have c0 := h.n.cell
  have e1 : IntKind.i64.wrap ((N : Int) + 16) = (N : Int) + 16 := IntWalk.i64_in _ (by omega)
  have e2 : IntKind.i64.wrap ((N : Int) + 16 - 1) = (N : Int) + 15 := by rw [IntWalk.i64_in _ (by omega)]; omega
  have e3 : ((N : Int) + 15).tdiv 16 = (m : Int) := by rw [Int.tdiv_eq_ediv_of_nonneg (by omega)]; omega
  refine callsIn_of_wp Try.func31 rfl trivial ?_ rfl
  simp only [Try.ntmps31, List.size_toArray, List.length_cons, List.length_nil, Nat.reduceAdd, Nat.reduceSub, Array.replicate_succ, Array.replicate_zero, List.push_toArray, List.append_toArray, List.nil_append, List.cons_append]
  gi_wp2
  clear e1 e2 e3 c0
  have up : ∀ {X Y : World} {s : List Nat}, J s X → Below X.heap.size X Y → J s Y := fun {X Y s} hj hb' => hJ s X Y none hj ⟨hb'.os, hb'.tape, hb'.output, hb'.size, fun k hk _ => hb'.block k hk⟩ (fun r e => by cases e)
  gi_loopw [15] (fun kv wr => ∃ (j : Nat) (pre : List Nat), kv = .int .i64 (j : Int) ∧ j ≤ m ∧ pre.length = j ∧ Hid (Laid wr r b Ak L ck KS As cs sa Av cv iv N) ∧ Hid (J pre wr) ∧ b + 4 ≤ wr.heap.size) (fun kv _ => m - (intOf kv).toNat)
  case atStart => exact ⟨0, [], rfl, by omega, rfl, Lib.hid h, Lib.hid h0, hb⟩
  case round =>
    obtain ⟨j, pre, rfl, hj, hp, HL, HJ, hb4⟩ := hrel
    by_cases hlt : j < m
    · have s1 := HL.out.s.cell
      have s2 := HL.out.v.cell
      have e1 : IntKind.i64.wrap ((j : Int) + 1) = ((j + 1 : Nat) : Int) := by rw [IntWalk.i64_in _ (by omega)]; omega
      have C := Lib.hid (counter_ok As Av cs cv sa iv (j + 1) wr r HL.out.hs HL.out.hv (by omega) (by omega) (by omega))
      gi_wp2_with (first
        | (gi_at_call 9
           refine (callsIn_wide.2 C.out).mono ?_
           rintro e w2 ⟨A, c, rfl, hh, hb2⟩
           have HA := Lib.hid hh
           have L2 := Lib.hid (HL.out.keep (Kp.below hb2 hr hb4))
           have B2 := Lib.hid hb2
           have s3 := L2.out.k.cell
           clear hh hb2)
        | (gi_at_call 25
           refine (callsIn_wide.2 (block_no Ak L ck (ints KS) A c (ints (cnt (nats sa) (nats iv) (j + 1))) w2 w2.heap.size (L2.out.hk.more (by have := B2.out.size; omega)) HA.out (Nat.le_refl _) hL)).mono ?_
           rintro e w3 ⟨g, rfl, hg, hrow, hb3⟩
           rw [nats_ints, nats_ints, ← hp] at hrow
           have L3 := Lib.hid (L2.out.keep (Kp.below hb3 hr (by have := B2.out.size; omega)))
           have J3 := Lib.hid (up (up HJ.out B2.out) hb3)
           have S3 : b + 4 ≤ w3.heap.size := by have := B2.out.size; have := hb3.size; omega
           obtain ⟨fn, tmps, assign, body, hy, hR⟩ := hY pre g w3 J3.out ⟨by omega, hrow⟩
           clear hrow hb3 s3))
      refine hR.mono ?_
      rintro e w4 ⟨rfl, hJ4, hk⟩
      have L4 := Lib.hid (L3.out.keep hk)
      have J4 := Lib.hid hJ4
      have S4 : b + 4 ≤ w4.heap.size := by have := L4.out.n.lt; omega
      clear hJ4 hk
      gi_wp2
      go_roundw
      case rel => exact ⟨j + 1, pre ++ [g], by go_num, by omega, by simp [hp], L4, J4, S4⟩
      case measure => simp [intOf]; omega
    · obtain rfl : j = m := by omega
      gi_wp2
      go_end0
      exact ⟨_, pre, rfl, hp, HJ.out⟩

theorem blk_told (n : Nat) (hn : 2 ≤ n) (r b : Nat) (Ak : Option Addr) (L ck : Nat) (KS : List Nat) (As : Option Addr) (cs : Nat) (sa : List Int) (Av : Option Addr) (cv : Nat) (iv : List Int) (N m : Nat) (hN : N ≤ 65536) (hm : m = (N + 15) / 16) (hL : L = 176 ∨ L = 240) (hr : r ≤ b)
    (w : World) (hb : b + 4 ≤ w.heap.size) (h : Laid w r b Ak L ck KS As cs sa Av cv iv N) :
    SeqTold n Try.prog 31 #[.pointer (some ⟨b + 3, 0, none⟩), .pointer (some ⟨b + 1, 0, none⟩), .pointer (some ⟨b + 2, 0, none⟩), .pointer (some ⟨b, 0, none⟩)] (fun x => .slice (some ⟨x, 0, none⟩) 16 16) (Told KS (nats sa) (nats iv) m) (Kp r b) (fun xs => xs.length = m) w := fun l J W hW hJ hY h0 =>
  blk1_in n hn l r b Ak L ck KS As cs sa Av cv iv N m hN hm hL hr J W hJ (by have := hW.size; omega) (h.keep (Kp.below hW hr hb)) hY h0
end Go.Proofs.Ythjbcdjphokjbaa.Ctr3
