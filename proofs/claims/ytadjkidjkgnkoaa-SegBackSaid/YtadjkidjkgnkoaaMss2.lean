/- The contract of Mss of the code: any text. -/
import Derived.Test.YtadjkidjkgnkoaaMss1
import Derived.Test.YtadjkidjkgnkoaaCom
import Derived.Test.YtadjkidjkgnkoaaBits
import Derived.Shelf.RegionOpen
import Derived.RangeFuncCalls
import Derived.RangeFuncBox
set_option linter.unusedVariables false
namespace Go.Proofs.Ytadjkidjkgnkoaa.Mss2
open Go.RowKit Go.Shelf Go.PlainAid Go.Proofs.Ytadjkidjkgnkoaa.OptS Go.Proofs.Ytadjkidjkgnkoaa.Vis Go.Proofs.Ytadjkidjkgnkoaa.Mss1 Go.Proofs.Ytadjkidjkgnkoaa.Blk
attribute [local go_sem] Oper.semAt_some

abbrev NE := { b : ByteArray // 0 < b.size }
theorem lift_ne : ∀ (l : List ByteArray), (∀ x ∈ l, 0 < x.size) → ∃ xs : List NE, xs.map (fun x => x.1) = l
  | [], _ => ⟨[], rfl⟩
  | a :: r, h => by
    obtain ⟨xs, hx⟩ := lift_ne r fun x hx => h x (by simp [hx])
    exact ⟨⟨a, h a (by simp)⟩ :: xs, by simp [hx]⟩
theorem empty_not {t : ByteArray} (h : 0 < t.size) : t.toList.isEmpty = false := by
  have e : t.toList = t.data.toList := ByteArray.toList_eq t
  have z : t.size = t.data.toList.length := rfl
  rw [e]
  cases hq : t.data.toList with
  | nil => rw [hq] at z; exact absurd z (by show ¬ t.size = 0; omega)
  | cons a b => rfl
theorem empty_is {t : ByteArray} (h : t.size = 0) : t = ⟨#[]⟩ := by
  rcases t with ⟨⟨l⟩⟩
  cases l with
  | nil => rfl
  | cons a b => simp [ByteArray.size] at h

/-- The two cells of the result. -/
structure Res (W : World) (b : Nat) (x y : Int) : Prop where
  r : Blk W b 3 #[.int .i64 x]
  e : Blk W (b + 1) 27 #[.int .i64 y]
theorem Res.grown {W W' : World} {b : Nat} {x y : Int} {row : Option Nat} (h : Res W b x y) (hg : W.grownBy W' row) (h1 : ∀ r, row = some r → b + 2 ≤ r) : Res W' b x y :=
  ⟨h.r.grown hg (fun e => by have := h1 _ e.symm; omega), h.e.grown hg (fun e => by have := h1 _ e.symm; omega)⟩
theorem Res.set {W : World} {b : Nat} {x y : Int} (h : Res W b x y) (u v : Int) : Res ((W.setCell ⟨b, 0, none⟩ (.int .i64 u)).setCell ⟨b + 1, 0, none⟩ (.int .i64 v)) b u v :=
  ⟨(h.r.put 0 (.int .i64 u)).far (p := ⟨b + 1, 0, none⟩) (by simp) _, (h.e.far (p := ⟨b, 0, none⟩) (by simp) _).put 0 (.int .i64 v)⟩

def I1 (w : World) (pre : List ByteArray) (W : World) : Prop := Res W w.heap.size 0 0 ∧ Below w.heap.size w W ∧ ∀ x ∈ pre, 0 < x.size
def X1 (w : World) (c : Code) (pre : List ByteArray) (W : World) : Prop := c = .ret ∧ Res W w.heap.size 0 4 ∧ Below w.heap.size w W ∧ ∃ x ∈ pre, x.size = 0
def I2 (w : World) (D : Nat) (pre : List NE) (W : World) : Prop := Res W w.heap.size 0 0 ∧ Below w.heap.size w W ∧ W.heap[D]? = some (.deferred (some [])) ∧ ∀ x ∈ pre, ¬ isM x.1
def X2 (w : World) (D : Nat) (c : Code) (pre : List NE) (W : World) : Prop := c = .ret ∧ ∃ q x, pre = q ++ [x] ∧ (∀ y ∈ q, ¬ isM y.1) ∧ isM x.1 ∧ Res W w.heap.size (256 * bt x.1 2 + bt x.1 3) 0 ∧ Below w.heap.size w W ∧ W.heap[D]? = some (.deferred (some []))

theorem own1 {w w3 : World} (h : w.heap.size + 2 ≤ w3.heap.size) : OwnFrom w3.heap.size (I1 w) := fun s W W' row ⟨h1, h2, h3⟩ hg hr =>
  ⟨h1.grown hg fun r e => by have := (hr r e).1; omega, h2.grown hg h2.size fun k e => by have := (hr k e).1; omega, h3⟩
theorem ownX1 {w w3 : World} (h : w.heap.size + 2 ≤ w3.heap.size) (c : Code) : OwnFrom w3.heap.size (X1 w c) := fun s W W' row ⟨h0, h1, h2, h3⟩ hg hr =>
  ⟨h0, h1.grown hg fun r e => by have := (hr r e).1; omega, h2.grown hg h2.size fun k e => by have := (hr k e).1; omega, h3⟩
theorem heap_kept {W W' : World} {row : Option Nat} {D : Nat} {o : Obj} (h : W.heap[D]? = some o) (hg : W.grownBy W' row) (hne : some D ≠ row) : W'.heap[D]? = some o :=
  (hg.block D (Array.getElem?_eq_some_iff.1 h).1 hne).trans h
theorem own2 {w w3 : World} {D : Nat} (h : w.heap.size + 2 ≤ w3.heap.size) (hD : D < w3.heap.size) : OwnFrom w3.heap.size (I2 w D) := fun s W W' row ⟨h1, h2, h4, h3⟩ hg hr =>
  ⟨h1.grown hg fun r e => by have := (hr r e).1; omega, h2.grown hg h2.size fun k e => by have := (hr k e).1; omega, heap_kept h4 hg (fun e => by have := (hr _ e.symm).1; omega), h3⟩
theorem ownX2 {w w3 : World} {D : Nat} (h : w.heap.size + 2 ≤ w3.heap.size) (hD : D < w3.heap.size) (c : Code) : OwnFrom w3.heap.size (X2 w D c) := fun s W W' row ⟨h0, q, x, e1, e2, e3, h1, h2, h4⟩ hg hr =>
  ⟨h0, q, x, e1, e2, e3, h1.grown hg fun r e => by have := (hr r e).1; omega, h2.grown hg h2.size fun k e => by have := (hr k e).1; omega, heap_kept h4 hg (fun e => by have := (hr _ e.symm).1; omega)⟩
theorem keeps_set (W : World) (B b : Nat) (h : b + 2 ≤ B) (u v : Value) : KeepsFrom B W ((W.setCell ⟨b, 0, none⟩ u).setCell ⟨b + 1, 0, none⟩ v) :=
  (KeepsFrom.of_grownBy (grownBy_setCell' W b u) (fun j e => by cases e; omega)).trans (KeepsFrom.of_grownBy (grownBy_setCell' _ (b + 1) v) (fun j e => by cases e; omega))
theorem below_set {w W : World} (h : Below w.heap.size w W) (u v : Value) : Below w.heap.size w ((W.setCell ⟨w.heap.size, 0, none⟩ u).setCell ⟨w.heap.size + 1, 0, none⟩ v) :=
  (h.setCell (p := ⟨w.heap.size, 0, none⟩) (Nat.le_refl _) u).setCell (p := ⟨w.heap.size + 1, 0, none⟩) (by simp) v

theorem res_two {W : World} {b : Nat} {x y : Int} (h : Res W b x y) (tmps : Array Value) (h2 : tmps.getD 2 undef = .pointer (some ⟨b, 0, none⟩)) (h3 : tmps.getD 3 undef = .pointer (some ⟨b + 1, 0, none⟩)) :
    (results Try.f20 tmps).run Try.prog W = .ok (.tuple #[.int .i64 x, .int .i64 y]) W := by
  have h2' : tmps[2]?.getD undef = .pointer (some ⟨b, 0, none⟩) := by simpa using h2
  have h3' : tmps[3]?.getD undef = .pointer (some ⟨b + 1, 0, none⟩) := by simpa using h3
  have c0 := h.r.cell 0
  have c1 := h.e.cell 0
  simp [results, Try.f20, go_sem, h2', h3', c0, c1]
theorem res_gone {W : World} {b D : Nat} {x y : Int} (h : Res W b x y) (hD : b + 2 ≤ D) (o : Obj) : Res (W.putObj D o) b x y := h.grown (grownBy_putObj' W D o) fun r e => by cases e; exact hD
theorem below_gone {w W : World} {D : Nat} (h : Below w.heap.size w W) (hD : w.heap.size ≤ D) (o : Obj) : Below w.heap.size w (W.putObj D o) := h.grown (grownBy_putObj' W D o) h.size fun k e => by cases e; exact hD

set_option maxRecDepth 100000 in
set_option maxHeartbeats 2000000 in
theorem mss_in (s : ByteArray) (hs : s.size ≤ 1048576) (w : World) :
    CallsIn Fence.wide 5 Try.prog 20 #[.string s] w fun e W' => e = .returned (.tuple #[.int .i64 (mss s).1, .int .i64 (mss s).2]) ∧ Below w.heap.size w W' := by
  have R3 : Res (((w.alloc (.cells #[.int .i64 0] 3)).alloc (.cells #[.int .i64 0] 27)).alloc (.cells #[.string s] 9)) w.heap.size 0 0 :=
    ⟨((Blk.new w 3 #[.int .i64 0]).alloc _).alloc _, by
      have := (Blk.new (w.alloc (.cells #[.int .i64 0] 3)) 27 #[.int .i64 0]).alloc (.cells #[.string s] 9)
      rwa [show (w.alloc (.cells #[.int .i64 0] 3)).heap.size = w.heap.size + 1 by simp] at this⟩
  have C3 : (((w.alloc (.cells #[.int .i64 0] 3)).alloc (.cells #[.int .i64 0] 27)).alloc (.cells #[.string s] 9)).cell? ⟨w.heap.size + 1 + 1, 0, none⟩ = some (.string s) := by
    have := (Blk.new ((w.alloc (.cells #[.int .i64 0] 3)).alloc (.cells #[.int .i64 0] 27)) 9 #[.string s]).cell 0
    rwa [show ((w.alloc (.cells #[.int .i64 0] 3)).alloc (.cells #[.int .i64 0] 27)).heap.size = w.heap.size + 1 + 1 by simp] at this
  have B3 : Below w.heap.size w (((w.alloc (.cells #[.int .i64 0] 3)).alloc (.cells #[.int .i64 0] 27)).alloc (.cells #[.string s] 9)) := (((Below.refl _ w).alloc (Nat.le_refl _) _).alloc (by simp) _).alloc (by simp; omega) _
  have S3 : (((w.alloc (.cells #[.int .i64 0] 3)).alloc (.cells #[.int .i64 0] 27)).alloc (.cells #[.string s] 9)).heap.size = w.heap.size + 3 := by simp
  have hf40 : Fence.wide.fn 40 := trivial
  have h1n : (1 : Nat) ≤ 5 := by omega
  refine callsIn_of_wp_marks Try.func20 rfl trivial ?_ rfl
  simp only [Try.ntmps20, List.size_toArray, List.length_cons, List.length_nil, Nat.reduceAdd, Nat.reduceSub, Array.replicate_succ, Array.replicate_zero, List.push_toArray, List.append_toArray, List.nil_append, List.cons_append]
  gi_wp2_with (gi_at_call 40; refine (callsIn_wide.2 (each_any s _)).mono ?_; rintro e w' ⟨rfl, rfl⟩)
  generalize ((w.alloc (.cells #[.int .i64 0] 3)).alloc (.cells #[.int .i64 0] 27)).alloc (.cells #[.string s] 9) = w3 at *
  have S3' : w.heap.size + 2 ≤ w3.heap.size := by omega
  refine wpIn_rangeFunc_ownG rfl h1n (gf := 48) (lb := #[.pointer (some ⟨w.heap.size + 1 + 1, 0, none⟩)]) rfl trivial (enters_of Try.func48 (by kernel_rfl) rfl)
    (each_stops (fun x => x) 4 (by omega) (w.heap.size + 1 + 1) s hs (vis s) (by simp) w3 (by omega) C3) (fun _ _ => trivial) (fun _ _ _ _ _ _ _ _ => trivial) (Below.refl _ _) (fun _ => rfl)
    (I1 w) (X1 w) (own1 S3') (ownX1 S3') ⟨R3, B3, fun x hx => by cases hx⟩
    (fun x => { tmps := #[.string s, undef, .pointer (some ⟨w.heap.size, 0, none⟩), .pointer (some ⟨w.heap.size + 1, 0, none⟩), .string x, undef, .string s, .func (.func 48) #[] #[.pointer (some ⟨w.heap.size + 1 + 1, 0, none⟩)], .string x, undef, undef, undef, undef, undef, undef, undef, undef, undef, undef, undef, undef, undef, undef, undef, undef, undef, undef, undef, undef, undef], defers := [] }) ?assign ?body ?done ?stop
  case assign =>
    intro l x W K hK
    gi_wp2
    exact hK
  case body =>
    rintro l pre x W ⟨hr, hB, hall⟩ hlt
    by_cases hz : x.size = 0
    · obtain rfl := empty_is hz
      have c0 := hr.r.cell 0
      have c1 := hr.e.cell 0
      have f0 := hr.r.frozen 0
      have f1 := hr.e.frozen 0
      gi_wp2
      exact ⟨keeps_set W _ _ S3' _ _, rfl, hr.set _ _, below_set hB _ _, ⟨#[]⟩, by simp, rfl⟩
    · have hne := empty_not (t := x) (by omega)
      gi_wp2
      exact ⟨KeepsFrom.refl _ _, trivial, hr, hB, fun y hy => by
        rw [List.mem_append, List.mem_singleton] at hy
        rcases hy with hy | rfl
        · exact hall y hy
        · omega⟩
  case stop =>
    rintro D c pre W hD hpre ⟨rfl, hr, hB, x, hx, hz⟩ hK
    have hms : mss s = (0, 4) := mss_bad ⟨x, hpre.subset hx, hz⟩
    gi_wp2
    refine ⟨by simp, .inl ⟨_, _, rfl, run_takeDeferred hK, ?_⟩⟩
    exact ⟨_, res_two (res_gone hr (by omega) _) _ rfl rfl, by rw [hms], below_gone hB (by omega) _⟩
  case done =>
    rintro D ys W hD rfl ⟨hr, hB, hall⟩ hK
    have hms := mss_good hall
    obtain ⟨xs, hxs⟩ := lift_ne _ hall
    have C4 := (Blk.new W 9 #[.string s]).cell 0
    have R4 := hr.grown (World.grownBy_alloc W (.cells #[.string s] 9) none) (fun r e => by cases e)
    have B4 := hB.alloc hB.size (.cells #[.string s] 9)
    have K4 := heap_kept hK (World.grownBy_alloc W (.cells #[.string s] 9) none) (by simp)
    have S4 : (W.alloc (.cells #[.string s] 9)).heap.size = W.heap.size + 1 := by simp
    have DL := (Array.getElem?_eq_some_iff.1 hK).1
    gi_wp2_with (gi_at_call 40; refine (callsIn_wide.2 (each_any s _)).mono ?_; rintro e w' ⟨rfl, rfl⟩)
    generalize W.alloc (.cells #[.string s] 9) = w4 at *
    have S4' : w.heap.size + 2 ≤ w4.heap.size := by omega
    have D4 : D < w4.heap.size := by omega
    refine wpIn_rangeFunc_ownG rfl h1n (gf := 48) (lb := #[.pointer (some ⟨W.heap.size, 0, none⟩)]) rfl trivial (enters_of Try.func48 (by kernel_rfl) rfl)
      (each_stops (fun x : NE => x.1) 4 (by omega) W.heap.size s hs xs hxs w4 (by omega) C4) (fun _ _ => trivial) (fun _ _ _ _ _ _ _ _ => trivial) (Below.refl _ _) (fun _ => rfl)
      (I2 w D) (X2 w D) (own2 S4' D4) (ownX2 S4' D4) ⟨R4, B4, K4, fun x hx => by cases hx⟩
      (fun x => { tmps := #[.string s, undef, .pointer (some ⟨w.heap.size, 0, none⟩), .pointer (some ⟨w.heap.size + 1, 0, none⟩), undef, .string x.1, .string s, .func (.func 48) #[] #[.pointer (some ⟨w.heap.size + 1 + 1, 0, none⟩)], undef, undef, undef, .string s, .func (.func 48) #[] #[.pointer (some ⟨W.heap.size, 0, none⟩)], .string x.1, undef, undef, undef, undef, undef, undef, undef, undef, undef, undef, undef, undef, undef, undef, undef, undef], defers := [] }) ?assign2 ?body2 ?done2 ?stop2
    case assign2 =>
      intro l x W K hK
      gi_wp2
      exact hK
    case body2 =>
      rintro l pre x V ⟨vr, vB, vK, vall⟩ hlt
      obtain ⟨x, hx0⟩ := x
      have hgb := get_bt x
      have x0 := bt_nonneg x 0
      have x1 := bt_le x 0
      have hmix : Try.prog.follows .mixedOrders = true := by kernel_rfl
      have s0 : 0 < x.size := hx0
      by_cases hm : isM x
      · have m1 : (bt x 0 == 2) = true := by rw [hm.1]; rfl
        have m2 : ((x.size : Int) == 4) = true := by rw [hm.2]; rfl
        have s2 : 2 < x.size := by rw [hm.2]; decide
        have s3 : 3 < x.size := by rw [hm.2]; decide
        have a0 := bt_nonneg x 2
        have a1 := bt_le x 2
        have b0 := bt_nonneg x 3
        have b1 := bt_le x 3
        have c0 := vr.r.cell 0
        have c1 := vr.e.cell 0
        have f0 := vr.r.frozen 0
        have f1 := vr.e.frozen 0
        have E2 : Hid (bits .or .i64 (bt x 2 * 256) (bt x 3) = 256 * bt x 2 + bt x 3) := Lib.hid (Bits.or_byte a0 a1 b0 b1)
        have HM := Lib.hid hm
        have e1 : IntKind.i64.wrap (bt x 2 * 256) = bt x 2 * 256 := IntWalk.i64_in _ (by omega)
        have e2 : bits .or .i64 (bt x 2 * 256) (bt x 3) = 256 * bt x 2 + bt x 3 := E2.out
        have e3 : IntKind.i64.wrap (bt x 2) = bt x 2 := IntWalk.i64_in _ (by omega)
        have e4 : IntKind.i64.wrap (bt x 3) = bt x 3 := IntWalk.i64_in _ (by omega)
        have e5 : wrap64 (bt x 2 * 256) = bt x 2 * 256 := (i64_is _).symm.trans e1
        have e6 : wrap64 (bt x 2) = bt x 2 := (i64_is _).symm.trans e3
        have e7 : wrap64 (bt x 3) = bt x 3 := (i64_is _).symm.trans e4
        have PP : Hid (KeepsFrom w4.heap.size V (((V.setCell ⟨w.heap.size, 0, none⟩ (.int .i64 (256 * bt x 2 + bt x 3))).setCell ⟨w.heap.size + 1, 0, none⟩ (.int .i64 0)).drew) ∧ X2 w D .ret (pre ++ [⟨x, hx0⟩]) (((V.setCell ⟨w.heap.size, 0, none⟩ (.int .i64 (256 * bt x 2 + bt x 3))).setCell ⟨w.heap.size + 1, 0, none⟩ (.int .i64 0)).drew)) := Lib.hid (by
          have kk := keeps_set V w4.heap.size w.heap.size S4' (.int .i64 (256 * bt x 2 + bt x 3)) (.int .i64 0)
          have rr := vr.set (256 * bt x 2 + bt x 3) 0
          have vK' := heap_kept vK ((grownBy_setCell' V w.heap.size (.int .i64 (256 * bt x 2 + bt x 3)))) (fun e => by cases e; omega)
          have vK'' := heap_kept vK' ((grownBy_setCell' _ (w.heap.size + 1) (.int .i64 0))) (fun e => by cases e; omega)
          exact ⟨⟨kk.size, kk.same⟩, rfl, pre, ⟨x, hx0⟩, rfl, vall, HM.out, ⟨rr.r, rr.e⟩, below_drewN (below_set vB _ _) 1, vK''⟩)
        clear hm E2
        gi_wp2
        gi_region_with_o (fail)
        all_goals
          gi_wp2
          exact PP.out
      · have hne : (decide (bt x 0 = 2) && decide ((x.size : Int) = 4)) = false := by
          cases h : (decide (bt x 0 = 2) && decide ((x.size : Int) = 4)) with
          | false => rfl
          | true =>
            simp only [Bool.and_eq_true, decide_eq_true_eq] at h
            exact absurd ⟨h.1, by omega⟩ hm
        have PP : Hid (KeepsFrom w4.heap.size V V ∧ True ∧ I2 w D (pre ++ [⟨x, hx0⟩]) V) := Lib.hid ⟨KeepsFrom.refl _ _, trivial, vr, vB, vK, fun y hy => by
          rw [List.mem_append, List.mem_singleton] at hy
          rcases hy with hy | rfl
          · exact vall y hy
          · exact hm⟩
        by_cases q : bt x 0 = 2
        · have m1 : (bt x 0 == 2) = true := by rw [q]; rfl
          have m2 : ((x.size : Int) == 4) = false := by
            rw [beq_eq_false_iff_ne]; intro z; exact hm ⟨q, by omega⟩
          clear hne q
          gi_wp2
          exact PP.out
        · have m1 : (bt x 0 == 2) = false := by rw [beq_eq_false_iff_ne]; exact q
          clear hne q
          gi_wp2
          exact PP.out
    case stop2 =>
      rintro D2 c pre V hD2 hpre ⟨rfl, q, x, rfl, hq, hm, vr, vB, vK⟩ hK2
      have hp : pickV (vis s) = 256 * bt x.1 2 + bt x.1 3 := by
        obtain ⟨r, hr⟩ := hpre
        rw [← hxs, ← hr, List.map_append, List.map_append, List.append_assoc]
        exact pickV_at (fun y hy => by
          obtain ⟨z, hz, rfl⟩ := List.mem_map.1 hy
          exact hq z hz) hm
      have b0 := bt_nonneg x.1 2
      have b1 := bt_nonneg x.1 3
      rw [hp, if_neg (by omega)] at hms
      gi_wp2
      refine ⟨by simp, .inl ⟨_, _, rfl, run_takeDeferred hK2, ?_⟩⟩
      refine ⟨by simp, .inl ⟨_, _, rfl, run_takeDeferred (heap_kept vK (grownBy_putObj' V D2 _) (fun e => by cases e; omega)), ?_⟩⟩
      exact ⟨_, res_two (res_gone (res_gone vr (by omega) _) (by omega) _) _ rfl rfl, by rw [hms], below_gone (below_gone vB (by omega) _) (by omega) _⟩
    case done2 =>
      rintro D2 ys V hD2 rfl ⟨vr, vB, vK, vall⟩ hK2
      have hp : pickV (vis s) = -1 := pickV_none fun y hy => by
        rw [← hxs] at hy
        obtain ⟨z, hz, rfl⟩ := List.mem_map.1 hy
        exact vall z hz
      rw [hp, if_pos (by decide)] at hms
      have c0 := vr.r.cell 0
      have c1 := vr.e.cell 0
      have f0 := vr.r.frozen 0
      have f1 := vr.e.frozen 0
      have vr' := vr.set 0 6
      have vB' := below_set vB (.int .i64 0) (.int .i64 6)
      have vK' := heap_kept vK ((grownBy_setCell' V w.heap.size (.int .i64 0))) (fun e => by cases e; omega)
      have vK'' := heap_kept vK' ((grownBy_setCell' _ (w.heap.size + 1) (.int .i64 6))) (fun e => by cases e; omega)
      have hK2' := heap_kept hK2 ((grownBy_setCell' V w.heap.size (.int .i64 0))) (fun e => by cases e; omega)
      have hK2'' := heap_kept hK2' ((grownBy_setCell' _ (w.heap.size + 1) (.int .i64 6))) (fun e => by cases e; omega)
      gi_wp2
      refine ⟨by simp, .inl ⟨_, _, rfl, run_takeDeferred hK2'', ?_⟩⟩
      refine ⟨by simp, .inl ⟨_, _, rfl, run_takeDeferred (heap_kept vK'' (grownBy_putObj' _ D2 _) (fun e => by cases e; omega)), ?_⟩⟩
      exact ⟨_, res_two (res_gone (res_gone vr' (by omega) _) (by omega) _) _ rfl rfl, by rw [hms], below_gone (below_gone vB' (by omega) _) (by omega) _⟩

theorem mss_any (s : ByteArray) (hs : s.size ≤ 1048576) (w : World) : Calls Try.prog 20 #[.string s] w fun e W' => e = .returned (.tuple #[.int .i64 (mss s).1, .int .i64 (mss s).2]) ∧ Below w.heap.size w W' :=
  callsIn_wide.1 (mss_in s hs w)
end Go.Proofs.Ytadjkidjkgnkoaa.Mss2
