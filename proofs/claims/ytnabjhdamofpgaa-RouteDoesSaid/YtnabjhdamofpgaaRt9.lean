/- The code's Find. -/
import Derived.Test.YtnabjhdamofpgaaRt8
import Derived.Test.YtnabjhdamofpgaaYieldB
import Derived.RangeFuncWrites
import Derived.RangeFuncLeaves
import Derived.RangeFuncCalls
import Derived.RangeFuncBox
import Derived.Shelf.Abstract
import Derived.Shelf.RegionOpen
import Derived.WalkKit
import Derived.OwnWalkIn
import Derived.TacticsInMore
import Derived.LoopNIn
import Derived.LoopIn
import Derived.BigFrameIn
set_option linter.unusedVariables false
namespace Go.Proofs.Ytnabjhdamofpgaa.Rt9
open Go.RowKit Go.PlainAid Go.Proofs.Ytnabjhdamofpgaa.Sums Go.Proofs.Ytnabjhdamofpgaa.Mem Go.Proofs.Ytnabjhdamofpgaa.Blk Go.Proofs.Ytnabjhdamofpgaa.Grp Go.Proofs.Ytnabjhdamofpgaa.AdrD Go.Proofs.Ytnabjhdamofpgaa.AdrR Go.Proofs.Ytnabjhdamofpgaa.Steps Go.Proofs.Ytnabjhdamofpgaa.Com Go.Proofs.Ytnabjhdamofpgaa.RowN Go.Proofs.Ytnabjhdamofpgaa.RowA Go.Proofs.Ytnabjhdamofpgaa.ArgT Go.Proofs.Ytnabjhdamofpgaa.TabD Go.Proofs.Ytnabjhdamofpgaa.TabOps Go.Proofs.Ytnabjhdamofpgaa.TabM Go.Proofs.Ytnabjhdamofpgaa.Free Go.Proofs.Ytnabjhdamofpgaa.RtD Go.Proofs.Ytnabjhdamofpgaa.Rt1 Go.Proofs.Ytnabjhdamofpgaa.Rt6 Go.Proofs.Ytnabjhdamofpgaa.Rt8 Go.Proofs.Ytnabjhdamofpgaa.YieldB Go.Proofs.Ytnabjhdamofpgaa.In

attribute [local go_sem] Oper.semAt_some
/-- The two cells of the result. -/
structure Res (W : World) (b : Nat) (r : RouteR) (x : Int) : Prop where
  r : Blk W b 33 (RA r)
  e : Blk W (b + 1) 36 #[.int .i64 x]
theorem Res.kept {W W' : World} {b : Nat} {r : RouteR} {x : Int} (h : Res W b r x) (k0 : W'.heap[b]? = W.heap[b]?) (k1 : W'.heap[b + 1]? = W.heap[b + 1]?) : Res W' b r x := ⟨k0.trans h.r, k1.trans h.e⟩
theorem Res.put {W : World} {b : Nat} {r : RouteR} {x : Int} (h : Res W b r x) (r' : RouteR) (x' : Int) : Res ((W.setRow b (RA r')).setRow (b + 1) #[.int .i64 x']) b r' x' :=
  ⟨(setRow_other _ _ _ _ (by omega)).trans (setRow_heap _ _ _ _ _ _ h.r), setRow_heap _ _ _ _ _ _ ((setRow_other _ _ _ _ (by omega)).trans h.e)⟩
set_option maxRecDepth 100000 in
theorem res_find {W : World} {b : Nat} {r : RouteR} {x : Int} (h : Res W b r x) (tmps : Array Value) (h2 : tmps.getD 4 undef = .pointer (some ⟨b, 0, none⟩)) (h3 : tmps.getD 5 undef = .pointer (some ⟨b + 1, 0, none⟩)) :
    (results Try.f14 tmps).run Try.prog W = .ok (.tuple #[.agg (RA r), .int .i64 x]) W := by
  have h2' : tmps[4]?.getD undef = .pointer (some ⟨b, 0, none⟩) := by simpa using h2
  have h3' : tmps[5]?.getD undef = .pointer (some ⟨b + 1, 0, none⟩) := by simpa using h3
  have c0 := h.r.cell 0
  have c1 := h.r.cell 1
  have c2 := h.r.cell 2
  have c3 := h.r.cell 3
  have e0 := h.e.cell 0
  simp [results, Try.f14, go_sem, h2', h3', c0, c1, c2, c3, e0]
set_option maxRecDepth 100000 in
theorem find_nil (d : ByteArray) (w : World) : Calls Try.prog 14 #[.pointer none, .string d] w fun e w' => e = .returned (.tuple #[.agg (RA ZR), .int .i64 3]) ∧ Below w.heap.size w w' := by
  go_enter Try.func14, Try.ntmps14
  go_wp2_with fail
  exact bodyPost_ret (res_find (b := w.heap.size + 1) (r := ZR) (x := 3) ⟨by
    have := (Blk.new (w.alloc (.cells #[.string d] 9)) 33 (RA ZR)).alloc (.cells #[.int .i64 3] 36)
    rw [show (w.alloc (.cells #[.string d] 9)).heap.size = w.heap.size + 1 by simp] at this; exact this, by
    have := Blk.new ((w.alloc (.cells #[.string d] 9)).alloc (.cells (RA ZR) 33)) 36 #[.int .i64 3]
    rw [show ((w.alloc (.cells #[.string d] 9)).alloc (.cells (RA ZR) 33)).heap.size = w.heap.size + 1 + 1 by simp] at this; exact this⟩ _ rfl rfl) rfl ⟨rfl, (((Below.refl _ w).alloc (Nat.le_refl _) _).alloc (by simp) _).alloc (by simp; omega) _⟩
set_option maxRecDepth 100000 in
theorem find_arg (g : Nat) (d : ByteArray) (w : World) (hd : isA d = false) (hm : d.size ≤ maxLen) : Calls Try.prog 14 #[.pointer (some ⟨g, 0, none⟩), .string d] w fun e w' => e = .returned (.tuple #[.agg (RA ZR), .int .i64 1]) ∧ Below w.heap.size w w' := by
  unfold isA at hd
  simp only [Bool.or_eq_false_iff, beq_eq_false_iff_ne] at hd
  have g4 : ((d.size : Int) != 4) = true := by rw [bne_iff_ne]; omega
  have g16 : ((d.size : Int) != 16) = true := by rw [bne_iff_ne]; omega
  unfold maxLen at hm
  clear hd
  go_enter Try.func14, Try.ntmps14
  go_wp2_with fail
  exact bodyPost_ret (res_find (b := w.heap.size + 1) (r := ZR) (x := 1) ⟨by
    have := (Blk.new (w.alloc (.cells #[.string d] 9)) 33 (RA ZR)).alloc (.cells #[.int .i64 1] 36)
    rw [show (w.alloc (.cells #[.string d] 9)).heap.size = w.heap.size + 1 by simp] at this; exact this, by
    have := Blk.new ((w.alloc (.cells #[.string d] 9)).alloc (.cells (RA ZR) 33)) 36 #[.int .i64 1]
    rw [show ((w.alloc (.cells #[.string d] 9)).alloc (.cells (RA ZR) 33)).heap.size = w.heap.size + 1 + 1 by simp] at this; exact this⟩ _ rfl rfl) rfl ⟨rfl, (((Below.refl _ w).alloc (Nat.le_refl _) _).alloc (by simp) _).alloc (by simp; omega) _⟩
abbrev GR := { x : Nat × RouteR // GoodR x.2 }
/-- What holds between the rounds. -/
structure I (w w4 : World) (d : ByteArray) (pre : List GR) (W : World) : Prop where
  kp : Kp w4.heap.size w4 W
  bel : Below w.heap.size w W
  no : ∀ x ∈ pre, inB d x.1.2.x0 x.1.2.x1 = false
  size : w4.heap.size ≤ W.heap.size
/-- What holds where the loop is left. -/
def Ix (w : World) (d : ByteArray) (pre : List GR) (W : World) : Prop := (∃ q x, pre = q ++ [x] ∧ (∀ y ∈ q, inB d y.1.2.x0 y.1.2.x1 = false) ∧ inB d x.1.2.x0 x.1.2.x1 = true ∧ Res W (w.heap.size + 1) x.1.2 0) ∧ Below w.heap.size w W
theorem I.below {w w4 W W' : World} {d : ByteArray} {pre : List GR} (h : I w w4 d pre W) (hb : Below W.heap.size W W') : I w w4 d pre W' :=
  ⟨h.kp.trans (Kp.below (hb.mono h.size)), h.bel.trans (hb.mono h.bel.size), h.no, Nat.le_trans h.size hb.size⟩
theorem own_I {w w4 : World} {d : ByteArray} (h : w.heap.size + 4 ≤ w4.heap.size) : OwnFrom w4.heap.size (I w w4 d) := fun s W W' row ⟨h1, h2, h3, h4⟩ hg hr =>
  ⟨fun k hk => (hg.block k (by omega) (fun e => by have := (hr k e.symm).1; omega)).trans (h1 k hk), h2.grown hg h2.size fun k e => by have := (hr k e).1; omega, h3, Nat.le_trans h4 hg.size⟩
theorem own_Ix {w w4 : World} {d : ByteArray} (h : w.heap.size + 4 ≤ w4.heap.size) : OwnFrom w4.heap.size (Ix w d) := fun s W W' row ⟨⟨q, x, e1, e2, e3, h1⟩, h2⟩ hg hr => by
  have f0 := h1.r.lt
  have f1 := h1.e.lt
  exact ⟨⟨q, x, e1, e2, e3, h1.kept (hg.block _ f0 (fun e => by have := (hr _ e.symm).1; omega)) (hg.block _ f1 (fun e => by have := (hr _ e.symm).1; omega))⟩, h2.grown hg h2.size fun k e => by have := (hr k e).1; omega⟩
/-- The result's five cells, written. -/
def five (W : World) (b : Nat) (r : RouteR) (x : Int) : World := ((((W.setCell ⟨b, 0, none⟩ (.string r.x0)).setCell ⟨b, 1, none⟩ (.int .i64 r.x1)).setCell ⟨b, 2, none⟩ (.string r.x2)).setCell ⟨b, 3, none⟩ (.int .i64 r.x3)).setCell ⟨b + 1, 0, none⟩ (.int .i64 x)
theorem grown_set (W : World) (b o : Nat) (v : Value) : W.grownBy (W.setCell ⟨b, o, none⟩ v) (some b) :=
  ⟨rfl, rfl, rfl, (KeepsWalks.setCell W _ v).size, fun k _ hk => Below.heap_setCell _ _ _ k (fun e => hk (by rw [e]))⟩
theorem five_keeps {B b : Nat} (h : b + 2 ≤ B) (W : World) (r : RouteR) (x : Int) : KeepsFrom B W (five W b r x) :=
  ((((KeepsFrom.of_grownBy (grown_set W b 0 _) (fun j e => by cases e; omega)).trans (KeepsFrom.of_grownBy (grown_set _ b 1 _) (fun j e => by cases e; omega))).trans (KeepsFrom.of_grownBy (grown_set _ b 2 _) (fun j e => by cases e; omega))).trans (KeepsFrom.of_grownBy (grown_set _ b 3 _) (fun j e => by cases e; omega))).trans (KeepsFrom.of_grownBy (grown_set _ (b + 1) 0 _) (fun j e => by cases e; omega))
theorem five_below {B b : Nat} {w W : World} (h : Below B w W) (hb : B ≤ b) (r : RouteR) (x : Int) : Below B w (five W b r x) :=
  ((((h.setCell (p := ⟨b, 0, none⟩) hb _).setCell (p := ⟨b, 1, none⟩) hb _).setCell (p := ⟨b, 2, none⟩) hb _).setCell (p := ⟨b, 3, none⟩) hb _).setCell (p := ⟨b + 1, 0, none⟩) (by show B ≤ b + 1; omega) _
theorem five_res {W : World} {b : Nat} {r0 : RouteR} {x0 : Int} (h : Res W b r0 x0) (r : RouteR) (x : Int) : Res (five W b r x) b r x := by
  have k := (((h.r.put 0 (.string r.x0)).put 1 (.int .i64 r.x1)).put 2 (.string r.x2)).put 3 (.int .i64 r.x3)
  have e := (((h.e.far (p := ⟨b, 0, none⟩) (by simp) (.string r.x0)).far (p := ⟨b, 1, none⟩) (by simp) (.int .i64 r.x1)).far (p := ⟨b, 2, none⟩) (by simp) (.string r.x2)).far (p := ⟨b, 3, none⟩) (by simp) (.int .i64 r.x3)
  exact ⟨k.far (p := ⟨b + 1, 0, none⟩) (by simp) _, e.put 0 _⟩
theorem below_gone {w W : World} {D : Nat} (h : Below w.heap.size w W) (hD : w.heap.size ≤ D) (o : Obj) : Below w.heap.size w (W.putObj D o) := h.grown (grownBy_putObj' W D o) h.size fun k e => by cases e; exact hD
theorem xs_rev {xs : List GR} {rs : List RouteR} (hx : xs.map (fun x => x.1) = bk rs) : rs.reverse = xs.map fun x => x.1.2 := by
  rw [← bk_all, ← hx, List.map_map]
  rfl
theorem find_no {xs : List GR} {rs : List RouteR} {d : ByteArray} (hx : xs.map (fun x => x.1) = bk rs) (hd : isA d = true) (h : ∀ x ∈ xs, inB d x.1.2.x0 x.1.2.x1 = false) : findR rs d = ZR ∧ findE rs d = 182 := by
  have e : findC rs d = none := find_none.2 fun r hr => by
    have : r ∈ rs.reverse := List.mem_reverse.2 hr
    rw [xs_rev hx] at this
    obtain ⟨x, hx1, rfl⟩ := List.mem_map.1 this
    exact h x hx1
  unfold findR findE
  rw [hd, e]
  exact ⟨rfl, rfl⟩
theorem find_yes {xs : List GR} {rs : List RouteR} {d : ByteArray} {q : List GR} {x : GR} (hx : xs.map (fun x => x.1) = bk rs) (hd : isA d = true) (hp : q ++ [x] <+: xs) (hq : ∀ y ∈ q, inB d y.1.2.x0 y.1.2.x1 = false) (hz : inB d x.1.2.x0 x.1.2.x1 = true) : findR rs d = x.1.2 ∧ findE rs d = 0 := by
  have e : findC rs d = some x.1.2 := by
    unfold findC
    rw [xs_rev hx]
    obtain ⟨t, rfl⟩ := hp
    rw [List.map_append, List.find?_append, List.map_append, List.find?_append]
    have : (q.map fun x => x.1.2).find? (fun r => inB d r.x0 r.x1) = none := by
      rw [List.find?_eq_none]
      intro r hr
      obtain ⟨y, hy, rfl⟩ := List.mem_map.1 hr
      simp [hq y hy]
    rw [this]
    simp [hz]
  unfold findR findE
  rw [hd, e]
  exact ⟨rfl, rfl⟩
theorem keeps_b {B : Nat} {V W : World} (h : Below V.heap.size V W) : KeepsFrom B V W := ⟨h.size, fun k o _ hk _ => (h.block k (Array.getElem?_eq_some_iff.1 hk).1).trans hk⟩
set_option maxRecDepth 100000 in
set_option maxHeartbeats 2000000 in
theorem find_in (F : Nat → Prop) (g : Nat) (rs : List RouteR) (d : ByteArray) (w : World) (h : RtAt F w g rs) (hd : isA d = true) :
    CallsIn Fence.wide 5 Try.prog 14 #[.pointer (some ⟨g, 0, none⟩), .string d] w fun e W' => e = .returned (.tuple #[.agg (RA (findR rs d)), .int .i64 (findE rs d)]) ∧ Below w.heap.size w W' := by
  obtain ⟨A, c, hg0, hx0, -⟩ := h.ex
  obtain ⟨n, hn⟩ : ∃ n, rs.length = n := ⟨_, rfl⟩
  have few := h.few
  rw [hn] at few hg0 hx0
  have g46 : (d.size = 4 ∨ d.size = 16) := by unfold isA at hd; simpa using hd
  have dm : d.size ≤ 16 := by omega
  have gg : (((d.size : Int) != 4) = true ∧ ((d.size : Int) != 16) = false) ∨ (((d.size : Int) != 4) = false) := by
    rcases g46 with e | e
    · exact .inr (by rw [e]; rfl)
    · exact .inl ⟨by rw [e]; rfl, by rw [e]; rfl⟩
  have W1 : Below w.heap.size w (((w.alloc (.cells #[.string d] 9)).alloc (.cells #[.string ⟨#[]⟩, .int .i64 0, .string ⟨#[]⟩, .int .i64 0] 33)).alloc (.cells #[.int .i64 0] 36)) := (((Below.refl _ w).alloc (Nat.le_refl _) _).alloc (by simp) _).alloc (by simp; omega) _
  have c0 := (hg0.below W1 hg0.lt).cell 1
  have W4 : Below w.heap.size w ((((w.alloc (.cells #[.string d] 9)).alloc (.cells #[.string ⟨#[]⟩, .int .i64 0, .string ⟨#[]⟩, .int .i64 0] 33)).alloc (.cells #[.int .i64 0] 36)).alloc (.cells #[.slice A n c] 27)) := W1.alloc (by simp; omega) _
  have R4 : Res ((((w.alloc (.cells #[.string d] 9)).alloc (.cells #[.string ⟨#[]⟩, .int .i64 0, .string ⟨#[]⟩, .int .i64 0] 33)).alloc (.cells #[.int .i64 0] 36)).alloc (.cells #[.slice A n c] 27)) (w.heap.size + 1) ZR 0 := ⟨by
      have := ((Blk.new (w.alloc (.cells #[.string d] 9)) 33 (RA ZR)).alloc (.cells #[.int .i64 0] 36)).alloc (.cells #[.slice A n c] 27)
      rw [show (w.alloc (.cells #[.string d] 9)).heap.size = w.heap.size + 1 by simp] at this; exact this, by
      have := (Blk.new ((w.alloc (.cells #[.string d] 9)).alloc (.cells (RA ZR) 33)) 36 #[.int .i64 0]).alloc (.cells #[.slice A n c] 27)
      rw [show ((w.alloc (.cells #[.string d] 9)).alloc (.cells (RA ZR) 33)).heap.size = w.heap.size + 1 + 1 by simp] at this; exact this⟩
  have D4 : Blk ((((w.alloc (.cells #[.string d] 9)).alloc (.cells #[.string ⟨#[]⟩, .int .i64 0, .string ⟨#[]⟩, .int .i64 0] 33)).alloc (.cells #[.int .i64 0] 36)).alloc (.cells #[.slice A n c] 27)) w.heap.size 9 #[.string d] := (((Blk.new w 9 #[.string d]).alloc _).alloc _).alloc _
  have B4 : Blk ((((w.alloc (.cells #[.string d] 9)).alloc (.cells #[.string ⟨#[]⟩, .int .i64 0, .string ⟨#[]⟩, .int .i64 0] 33)).alloc (.cells #[.int .i64 0] 36)).alloc (.cells #[.slice A n c] 27)) (w.heap.size + 1 + 1 + 1) 27 #[.slice A n c] := by
    have := Blk.new (((w.alloc (.cells #[.string d] 9)).alloc (.cells #[.string ⟨#[]⟩, .int .i64 0, .string ⟨#[]⟩, .int .i64 0] 33)).alloc (.cells #[.int .i64 0] 36)) 27 #[.slice A n c]
    simpa using this
  have S4 : ((((w.alloc (.cells #[.string d] 9)).alloc (.cells #[.string ⟨#[]⟩, .int .i64 0, .string ⟨#[]⟩, .int .i64 0] 33)).alloc (.cells #[.int .i64 0] 36)).alloc (.cells #[.slice A n c] 27)).heap.size = w.heap.size + 4 := by simp
  have HW4 := Lib.hid W4
  have HR4 := Lib.hid R4
  have HD4 := Lib.hid D4
  have HB4 := Lib.hid B4
  have HS4 := Lib.hid S4
  have HX4 := Lib.hid (hx0.below W4)
  have HX := Lib.hid hx0
  have RN := Lib.hid hn
  have TB := Lib.hid h.tab
  have HD := Lib.hid hd
  obtain ⟨xs, hxs⟩ := lift_good (bk rs) (bk_good h.tab.good)
  have XS := Lib.hid hxs
  clear hxs
  have h1n : (1 : Nat) ≤ 5 := by omega
  have hfb : Fence.wide.fn 31 := trivial
  clear W1 W4 R4 D4 B4 S4 hg0 hx0 hn h hd g46
  refine callsIn_of_wp_marks Try.func14 rfl trivial ?_ rfl
  simp only [Try.ntmps14, List.size_toArray, List.length_cons, List.length_nil, Nat.reduceAdd, Nat.reduceSub, Array.replicate_succ, Array.replicate_zero, List.push_toArray, List.append_toArray, List.nil_append, List.cons_append]
  rcases gg with ⟨q1, q2⟩ | q1
  · gi_wp2_with (gi_at_call 31; refine (callsIn_wide.2 (back_any A n c _)).mono ?_; rintro e w' ⟨rfl, rfl⟩)
    clear c0
    generalize (((w.alloc (.cells #[.string d] 9)).alloc (.cells #[.string ⟨#[]⟩, .int .i64 0, .string ⟨#[]⟩, .int .i64 0] 33)).alloc (.cells #[.int .i64 0] 36)).alloc (.cells #[.slice A n c] 27) = w4 at *
    have own4 : ∀ k, own A k → k < w4.heap.size := fun k hk => by have := HX.out.lt hk; have := HS4.out; omega
    have in4 : w.heap.size + 4 ≤ w4.heap.size := by rw [HS4.out]; exact Nat.le_refl _
    have IN4 := Lib.hid in4
    have OA4 := Lib.hid own4
    refine wpIn_rangeFunc_box h1n (gf := 47) (lb := #[.pointer (some ⟨w.heap.size + 1 + 1 + 1, 0, none⟩)]) rfl (enters_of Try.func47 (by kernel_rfl) rfl)
      (back_stops (fun x : GR => x.1) 4 (by omega) w4.heap.size (w.heap.size + 1 + 1 + 1) A n c rs RN.out few xs XS.out w4 (Nat.le_refl _) HB4.out HX4.out (by omega) own4) (Below.refl _ _) (fun _ => rfl) (fun h k => h.trans k) (fun W l o o' hl _ => Kp.put hl)
      (I w w4 d) (Ix w d) (fun pre x a1 W => ∃ g7, a1 = { tmps := #[.pointer (some ⟨g, 0, none⟩), .string d, undef, .pointer (some ⟨w.heap.size, 0, none⟩), .pointer (some ⟨w.heap.size + 1, 0, none⟩), .pointer (some ⟨w.heap.size + 1 + 1, 0, none⟩), undef, .pointer (some ⟨g7, 0, none⟩), .bool false, .pointer (some ⟨g, 0, none⟩), .bool false, undef, .bool false, .string d, .int .i64 (d.size : Int), .bool true, .bool true, .string d, .int .i64 (d.size : Int), .bool false, .bool false, undef, .pointer (some ⟨g, 0, none⟩), .pointer (some ⟨g, 0, none⟩), .pointer (some ⟨g, 1, none⟩), .slice A n c, .func (.func 47) #[] #[.pointer (some ⟨w.heap.size + 1 + 1 + 1, 0, none⟩)], .int .i64 (x.1.1 : Int), .agg (RA x.1.2), undef, undef, undef, undef, undef, undef, undef], defers := [] } ∧ Blk W g7 33 (RA x.1.2) ∧ w4.heap.size ≤ g7 ∧ I w w4 d pre W)
      (own_I in4) (own_Ix in4) (fun x a1 s W W' row ⟨g7, e1, e2, e3, e4⟩ hg hr => ⟨g7, e1, e2.grown hg (fun e => by obtain ⟨_, o, ho, hc⟩ := hr g7 e.symm; rw [e2] at ho; cases ho; cases hc), e3, own_I in4 s W W' row e4 hg hr⟩) ⟨Kp.refl _ _, HW4.out, fun x hx => absurd hx (by simp), Nat.le_refl _⟩ ?assign ?body ?done ?stop
    case assign =>
      intro l pre x W K hI hlt hK
      have J7 := Blk.new W 33 #[.string ⟨#[]⟩, .int .i64 0, .string ⟨#[]⟩, .int .i64 0]
      have K7 : Hid (∀ W1, W1 = (W.alloc (.cells (RA x.1.2) 33)) → K { tmps := #[.pointer (some ⟨g, 0, none⟩), .string d, undef, .pointer (some ⟨w.heap.size, 0, none⟩), .pointer (some ⟨w.heap.size + 1, 0, none⟩), .pointer (some ⟨w.heap.size + 1 + 1, 0, none⟩), undef, .pointer (some ⟨W.heap.size, 0, none⟩), .bool false, .pointer (some ⟨g, 0, none⟩), .bool false, undef, .bool false, .string d, .int .i64 (d.size : Int), .bool true, .bool true, .string d, .int .i64 (d.size : Int), .bool false, .bool false, undef, .pointer (some ⟨g, 0, none⟩), .pointer (some ⟨g, 0, none⟩), .pointer (some ⟨g, 1, none⟩), .slice A n c, .func (.func 47) #[] #[.pointer (some ⟨w.heap.size + 1 + 1 + 1, 0, none⟩)], .int .i64 (x.1.1 : Int), .agg (RA x.1.2), undef, undef, undef, undef, undef, undef, undef], defers := [] } W1) := Lib.hid fun W1 e => by
        have hb : Below W.heap.size W W1 := by rw [e]; exact (Below.refl _ _).alloc (Nat.le_refl _) _
        have sz := hI.size
        exact hK _ _ ⟨hb.size, fun k o _ hk _ => (hb.block k (Array.getElem?_eq_some_iff.1 hk).1).trans hk⟩ (Kp.below (hb.mono sz)) ⟨W.heap.size, rfl, by rw [e]; exact Blk.new _ _ _, sz, hI.below hb⟩
      clear hK hI
      gi_wp2
      exact K7.out _ rfl
    case body =>
      rintro l pre x a1 W ⟨g7, rfl, h7, hg7, hI⟩ hlt
      obtain ⟨⟨xi, r⟩, hx⟩ := x
      have gs := good_size hx
      simp only at h7 gs ⊢
      have c0 := h7.cell 0
      have c1 := h7.cell 1
      have cd := (show Blk W w.heap.size 9 #[.string d] from (hI.kp _ (by omega)).trans HD4.out).cell 0
      obtain ⟨z, hz⟩ : ∃ z, inB d r.x0 r.x1 = z := ⟨_, rfl⟩
      have IC := Lib.hid (fun W => in_any d r.x0 r.x1 (by unfold maxLen; omega) (by unfold maxLen; omega) W)
      have OC := Lib.hid (fun W => own_c r W (Nat.le_trans gs.1 (by unfold maxT; omega)) (Nat.le_trans gs.2 (by unfold maxT; omega)))
      rw [hz] at IC
      have HZ := Lib.hid hz
      have HI := Lib.hid hI
      have H7 := Lib.hid h7
      have RSL : Hid (∀ V, Below W.heap.size W V → Res V (w.heap.size + 1) ZR 0) := Lib.hid fun V hV => HR4.out.kept ((hV.block _ (by have := hI.size; omega)).trans (hI.kp _ (by omega))) ((hV.block _ (by have := hI.size; omega)).trans (hI.kp _ (by omega)))
      have hfi : Fence.wide.fn 19 := trivial
      have hfo : Fence.wide.fn 26 := trivial
      have h1m : 1 ≤ 5 - 1 - 1 := by omega
      clear h7 hz hI gs
      cases z
      · gi_wp2_with (gi_at_call 19; refine (CallsIn.inRound l (callsIn_wide.2 (IC.out _))).mono ?_; rintro e W1 ⟨rfl, hb1⟩; have HB1 := Lib.hid hb1; clear c0 c1 cd hb1)
        have hb1 := HB1.out
        exact ⟨⟨hb1.size, fun k o _ hk _ => (hb1.block k (Array.getElem?_eq_some_iff.1 hk).1).trans hk⟩, Kp.below (hb1.mono HI.out.size), (HI.out.below hb1).kp, (HI.out.below hb1).bel, fun y hy => by
          rcases List.mem_append.1 hy with hy | hy
          · exact HI.out.no y hy
          · rw [List.mem_singleton.1 hy]; exact HZ.out, (HI.out.below hb1).size⟩
      · gi_wp2_with (first
          | (gi_at_call 19; refine (CallsIn.inRound l (callsIn_wide.2 (IC.out _))).mono ?_; rintro e W1 ⟨rfl, hb1⟩; have HB1 := Lib.hid hb1; have p0 := (H7.out.below hb1 H7.out.lt).cell 0; have p1 := (H7.out.below hb1 H7.out.lt).cell 1; have p2 := (H7.out.below hb1 H7.out.lt).cell 2; have p3 := (H7.out.below hb1 H7.out.lt).cell 3; clear c0 c1 cd hb1)
          | (gi_at_call 26; refine (CallsIn.inRound l (callsIn_wide.2 (OC.out _))).mono ?_; rintro e W2 ⟨rfl, hb2⟩; have HB2 := Lib.hid (HB1.out.trans (hb2.mono HB1.out.size)); have HRS := RSL.out W2 HB2.out; have r0 := HRS.r.cell 0; have r1 := HRS.r.cell 1; have r2 := HRS.r.cell 2; have r3 := HRS.r.cell 3; have f0 := HRS.r.frozen 0; have f1 := HRS.r.frozen 1; have f2 := HRS.r.frozen 2; have f3 := HRS.r.frozen 3; have e0 := HRS.e.cell 0; have e1 := HRS.e.frozen 0; have HRS' := Lib.hid HRS; clear p0 p1 p2 p3 hb2 HRS))
        exact ⟨(keeps_b HB2.out).trans (five_keeps (by omega) W2 r 0), ⟨pre, ⟨(xi, r), hx⟩, rfl, HI.out.no, HZ.out, five_res HRS'.out r 0⟩, five_below (HI.out.bel.trans (HB2.out.mono HI.out.bel.size)) (Nat.le_succ _) r 0⟩
    case done =>
      rintro D ys W hD rfl hI hK
      have HRS : Res W (w.heap.size + 1) ZR 0 := HR4.out.kept (hI.kp _ (by omega)) (hI.kp _ (by omega))
      have r0 := HRS.r.cell 0
      have r1 := HRS.r.cell 1
      have r2 := HRS.r.cell 2
      have r3 := HRS.r.cell 3
      have f0 := HRS.r.frozen 0
      have f1 := HRS.r.frozen 1
      have f2 := HRS.r.frozen 2
      have f3 := HRS.r.frozen 3
      have e0 := HRS.e.cell 0
      have e1 := HRS.e.frozen 0
      have EN := Lib.hid (find_no XS.out HD.out hI.no)
      have HI := Lib.hid hI
      have HRS' := Lib.hid HRS
      have HK := Lib.hid ((five_keeps (B := w4.heap.size) (b := w.heap.size + 1) (by omega) W ZR 182).same D _ hD hK rfl)
      clear hI HRS
      gi_wp2
      refine ⟨by simp, .inl ⟨_, _, rfl, run_takeDeferred HK.out, ?_⟩⟩
      exact ⟨_, res_find ((five_res HRS'.out ZR 182).kept (World.putObj_heap_other (by omega)) (World.putObj_heap_other (by omega))) _ rfl rfl, by rw [EN.out.1, EN.out.2], below_gone (five_below HI.out.bel (Nat.le_succ _) ZR 182) (by omega) _⟩
    case stop =>
      rintro D pre W hD hpre ⟨⟨q, x, rfl, hq, hz, hr⟩, hb⟩ hK
      have EN := Lib.hid (find_yes XS.out HD.out hpre hq hz)
      clear hpre hq hz
      gi_wp2
      refine ⟨by simp, .inl ⟨_, _, rfl, run_takeDeferred hK, ?_⟩⟩
      exact ⟨_, res_find (hr.kept (World.putObj_heap_other (by omega)) (World.putObj_heap_other (by omega))) _ rfl rfl, by rw [EN.out.1, EN.out.2], below_gone hb (by omega) _⟩
  · gi_wp2_with (gi_at_call 31; refine (callsIn_wide.2 (back_any A n c _)).mono ?_; rintro e w' ⟨rfl, rfl⟩)
    clear c0
    generalize (((w.alloc (.cells #[.string d] 9)).alloc (.cells #[.string ⟨#[]⟩, .int .i64 0, .string ⟨#[]⟩, .int .i64 0] 33)).alloc (.cells #[.int .i64 0] 36)).alloc (.cells #[.slice A n c] 27) = w4 at *
    have own4 : ∀ k, own A k → k < w4.heap.size := fun k hk => by have := HX.out.lt hk; have := HS4.out; omega
    have in4 : w.heap.size + 4 ≤ w4.heap.size := by rw [HS4.out]; exact Nat.le_refl _
    have IN4 := Lib.hid in4
    have OA4 := Lib.hid own4
    refine wpIn_rangeFunc_box h1n (gf := 47) (lb := #[.pointer (some ⟨w.heap.size + 1 + 1 + 1, 0, none⟩)]) rfl (enters_of Try.func47 (by kernel_rfl) rfl)
      (back_stops (fun x : GR => x.1) 4 (by omega) w4.heap.size (w.heap.size + 1 + 1 + 1) A n c rs RN.out few xs XS.out w4 (Nat.le_refl _) HB4.out HX4.out (by omega) own4) (Below.refl _ _) (fun _ => rfl) (fun h k => h.trans k) (fun W l o o' hl _ => Kp.put hl)
      (I w w4 d) (Ix w d) (fun pre x a1 W => ∃ g7, a1 = { tmps := #[.pointer (some ⟨g, 0, none⟩), .string d, undef, .pointer (some ⟨w.heap.size, 0, none⟩), .pointer (some ⟨w.heap.size + 1, 0, none⟩), .pointer (some ⟨w.heap.size + 1 + 1, 0, none⟩), undef, .pointer (some ⟨g7, 0, none⟩), .bool false, .pointer (some ⟨g, 0, none⟩), .bool false, undef, .bool false, .string d, .int .i64 (d.size : Int), .bool false, .bool false, undef, undef, undef, .bool false, undef, .pointer (some ⟨g, 0, none⟩), .pointer (some ⟨g, 0, none⟩), .pointer (some ⟨g, 1, none⟩), .slice A n c, .func (.func 47) #[] #[.pointer (some ⟨w.heap.size + 1 + 1 + 1, 0, none⟩)], .int .i64 (x.1.1 : Int), .agg (RA x.1.2), undef, undef, undef, undef, undef, undef, undef], defers := [] } ∧ Blk W g7 33 (RA x.1.2) ∧ w4.heap.size ≤ g7 ∧ I w w4 d pre W)
      (own_I in4) (own_Ix in4) (fun x a1 s W W' row ⟨g7, e1, e2, e3, e4⟩ hg hr => ⟨g7, e1, e2.grown hg (fun e => by obtain ⟨_, o, ho, hc⟩ := hr g7 e.symm; rw [e2] at ho; cases ho; cases hc), e3, own_I in4 s W W' row e4 hg hr⟩) ⟨Kp.refl _ _, HW4.out, fun x hx => absurd hx (by simp), Nat.le_refl _⟩ ?assign ?body ?done ?stop
    case assign =>
      intro l pre x W K hI hlt hK
      have J7 := Blk.new W 33 #[.string ⟨#[]⟩, .int .i64 0, .string ⟨#[]⟩, .int .i64 0]
      have K7 : Hid (∀ W1, W1 = (W.alloc (.cells (RA x.1.2) 33)) → K { tmps := #[.pointer (some ⟨g, 0, none⟩), .string d, undef, .pointer (some ⟨w.heap.size, 0, none⟩), .pointer (some ⟨w.heap.size + 1, 0, none⟩), .pointer (some ⟨w.heap.size + 1 + 1, 0, none⟩), undef, .pointer (some ⟨W.heap.size, 0, none⟩), .bool false, .pointer (some ⟨g, 0, none⟩), .bool false, undef, .bool false, .string d, .int .i64 (d.size : Int), .bool false, .bool false, undef, undef, undef, .bool false, undef, .pointer (some ⟨g, 0, none⟩), .pointer (some ⟨g, 0, none⟩), .pointer (some ⟨g, 1, none⟩), .slice A n c, .func (.func 47) #[] #[.pointer (some ⟨w.heap.size + 1 + 1 + 1, 0, none⟩)], .int .i64 (x.1.1 : Int), .agg (RA x.1.2), undef, undef, undef, undef, undef, undef, undef], defers := [] } W1) := Lib.hid fun W1 e => by
        have hb : Below W.heap.size W W1 := by rw [e]; exact (Below.refl _ _).alloc (Nat.le_refl _) _
        have sz := hI.size
        exact hK _ _ ⟨hb.size, fun k o _ hk _ => (hb.block k (Array.getElem?_eq_some_iff.1 hk).1).trans hk⟩ (Kp.below (hb.mono sz)) ⟨W.heap.size, rfl, by rw [e]; exact Blk.new _ _ _, sz, hI.below hb⟩
      clear hK hI
      gi_wp2
      exact K7.out _ rfl
    case body =>
      rintro l pre x a1 W ⟨g7, rfl, h7, hg7, hI⟩ hlt
      obtain ⟨⟨xi, r⟩, hx⟩ := x
      have gs := good_size hx
      simp only at h7 gs ⊢
      have c0 := h7.cell 0
      have c1 := h7.cell 1
      have cd := (show Blk W w.heap.size 9 #[.string d] from (hI.kp _ (by omega)).trans HD4.out).cell 0
      obtain ⟨z, hz⟩ : ∃ z, inB d r.x0 r.x1 = z := ⟨_, rfl⟩
      have IC := Lib.hid (fun W => in_any d r.x0 r.x1 (by unfold maxLen; omega) (by unfold maxLen; omega) W)
      have OC := Lib.hid (fun W => own_c r W (Nat.le_trans gs.1 (by unfold maxT; omega)) (Nat.le_trans gs.2 (by unfold maxT; omega)))
      rw [hz] at IC
      have HZ := Lib.hid hz
      have HI := Lib.hid hI
      have H7 := Lib.hid h7
      have RSL : Hid (∀ V, Below W.heap.size W V → Res V (w.heap.size + 1) ZR 0) := Lib.hid fun V hV => HR4.out.kept ((hV.block _ (by have := hI.size; omega)).trans (hI.kp _ (by omega))) ((hV.block _ (by have := hI.size; omega)).trans (hI.kp _ (by omega)))
      have hfi : Fence.wide.fn 19 := trivial
      have hfo : Fence.wide.fn 26 := trivial
      have h1m : 1 ≤ 5 - 1 - 1 := by omega
      clear h7 hz hI gs
      cases z
      · gi_wp2_with (gi_at_call 19; refine (CallsIn.inRound l (callsIn_wide.2 (IC.out _))).mono ?_; rintro e W1 ⟨rfl, hb1⟩; have HB1 := Lib.hid hb1; clear c0 c1 cd hb1)
        have hb1 := HB1.out
        exact ⟨⟨hb1.size, fun k o _ hk _ => (hb1.block k (Array.getElem?_eq_some_iff.1 hk).1).trans hk⟩, Kp.below (hb1.mono HI.out.size), (HI.out.below hb1).kp, (HI.out.below hb1).bel, fun y hy => by
          rcases List.mem_append.1 hy with hy | hy
          · exact HI.out.no y hy
          · rw [List.mem_singleton.1 hy]; exact HZ.out, (HI.out.below hb1).size⟩
      · gi_wp2_with (first
          | (gi_at_call 19; refine (CallsIn.inRound l (callsIn_wide.2 (IC.out _))).mono ?_; rintro e W1 ⟨rfl, hb1⟩; have HB1 := Lib.hid hb1; have p0 := (H7.out.below hb1 H7.out.lt).cell 0; have p1 := (H7.out.below hb1 H7.out.lt).cell 1; have p2 := (H7.out.below hb1 H7.out.lt).cell 2; have p3 := (H7.out.below hb1 H7.out.lt).cell 3; clear c0 c1 cd hb1)
          | (gi_at_call 26; refine (CallsIn.inRound l (callsIn_wide.2 (OC.out _))).mono ?_; rintro e W2 ⟨rfl, hb2⟩; have HB2 := Lib.hid (HB1.out.trans (hb2.mono HB1.out.size)); have HRS := RSL.out W2 HB2.out; have r0 := HRS.r.cell 0; have r1 := HRS.r.cell 1; have r2 := HRS.r.cell 2; have r3 := HRS.r.cell 3; have f0 := HRS.r.frozen 0; have f1 := HRS.r.frozen 1; have f2 := HRS.r.frozen 2; have f3 := HRS.r.frozen 3; have e0 := HRS.e.cell 0; have e1 := HRS.e.frozen 0; have HRS' := Lib.hid HRS; clear p0 p1 p2 p3 hb2 HRS))
        exact ⟨(keeps_b HB2.out).trans (five_keeps (by omega) W2 r 0), ⟨pre, ⟨(xi, r), hx⟩, rfl, HI.out.no, HZ.out, five_res HRS'.out r 0⟩, five_below (HI.out.bel.trans (HB2.out.mono HI.out.bel.size)) (Nat.le_succ _) r 0⟩
    case done =>
      rintro D ys W hD rfl hI hK
      have HRS : Res W (w.heap.size + 1) ZR 0 := HR4.out.kept (hI.kp _ (by omega)) (hI.kp _ (by omega))
      have r0 := HRS.r.cell 0
      have r1 := HRS.r.cell 1
      have r2 := HRS.r.cell 2
      have r3 := HRS.r.cell 3
      have f0 := HRS.r.frozen 0
      have f1 := HRS.r.frozen 1
      have f2 := HRS.r.frozen 2
      have f3 := HRS.r.frozen 3
      have e0 := HRS.e.cell 0
      have e1 := HRS.e.frozen 0
      have EN := Lib.hid (find_no XS.out HD.out hI.no)
      have HI := Lib.hid hI
      have HRS' := Lib.hid HRS
      have HK := Lib.hid ((five_keeps (B := w4.heap.size) (b := w.heap.size + 1) (by omega) W ZR 182).same D _ hD hK rfl)
      clear hI HRS
      gi_wp2
      refine ⟨by simp, .inl ⟨_, _, rfl, run_takeDeferred HK.out, ?_⟩⟩
      exact ⟨_, res_find ((five_res HRS'.out ZR 182).kept (World.putObj_heap_other (by omega)) (World.putObj_heap_other (by omega))) _ rfl rfl, by rw [EN.out.1, EN.out.2], below_gone (five_below HI.out.bel (Nat.le_succ _) ZR 182) (by omega) _⟩
    case stop =>
      rintro D pre W hD hpre ⟨⟨q, x, rfl, hq, hz, hr⟩, hb⟩ hK
      have EN := Lib.hid (find_yes XS.out HD.out hpre hq hz)
      clear hpre hq hz
      gi_wp2
      refine ⟨by simp, .inl ⟨_, _, rfl, run_takeDeferred hK, ?_⟩⟩
      exact ⟨_, res_find (hr.kept (World.putObj_heap_other (by omega)) (World.putObj_heap_other (by omega))) _ rfl rfl, by rw [EN.out.1, EN.out.2], below_gone hb (by omega) _⟩

theorem find_c (F : Nat → Prop) (g : Nat) (rs : List RouteR) (d : ByteArray) (w : World) (h : RtAt F w g rs) (hm : d.size ≤ maxLen) :
    Calls Try.prog 14 #[.pointer (some ⟨g, 0, none⟩), .string d] w fun e W' => e = .returned (.tuple #[.agg (RA (findR rs d)), .int .i64 (findE rs d)]) ∧ Below w.heap.size w W' := by
  cases hd : isA d with
  | true => exact callsIn_wide.1 (find_in F g rs d w h hd)
  | false =>
    have e1 : findR rs d = ZR := by unfold findR; rw [hd]; rfl
    have e2 : findE rs d = 1 := by unfold findE; rw [hd]; rfl
    rw [e1, e2]
    exact find_arg g d w hd hm
end Go.Proofs.Ytnabjhdamofpgaa.Rt9
