/- The law InetOrder: its walk, for any bytes and any two places. -/
import Derived.Test.YtajjncmbgncnhaaAwake
import Derived.Test.YtajjncmbgncnhaaRefSum
import Derived.Test.YtajjncmbgncnhaaTot
import Derived.LoopTactic
import Derived.Deep.RegionLaw
import Derived.Deep.DrawnRows
namespace Go.Proofs.Ytajjncmbgncnhaa.LawOrder
attribute [local go_sem ↓] Go.wp_at_zero Go.wp_at_succ
open Go.RowKit Go.Proofs.Ytajjncmbgncnhaa.Sums Go.Proofs.Ytajjncmbgncnhaa.Words Go.Proofs.Ytajjncmbgncnhaa.Mem Go.Proofs.Ytajjncmbgncnhaa.InetSum Go.Proofs.Ytajjncmbgncnhaa.RefSum Go.Proofs.Ytajjncmbgncnhaa.Awake

theorem sum_is {l : List Int} {d : Int} (e : sums 0 l = d) (A : Option Addr) (n c : Nat) (w : World) (B : Nat) (h : Holds w B A n c l) (hs : n ≤ 65536) :
    Calls Try.prog 11 #[.slice A n c] w fun e w' => e = .returned (.int .i64 d) ∧ w = w' := by
  rw [← e]; exact sum_any A n c l w B h hs

/-- A row of the call's own without bytes. -/
theorem empty (w : World) (base : Nat) (hb : base ≤ w.heap.size) (g : Nat) (hg : w.heap.size = g) : Owns (w.alloc (.cells #[] 5)) base (.slice (some ⟨g, 0, none⟩) 0 0) 0 [] := by
  subst hg
  exact Owns.lit w base hb [] #[] rfl (by simp) (fun _ h => by cases h)

abbrev E : Obj := .cells #[] 5
abbrev Z : Obj := .cells #[.int .u8 0, .int .u8 0] 5
theorem zz : Bytes [0, 0] := by intro z hz; simp at hz; omega

section
variable (W : World)
theorem ea : Owns (W.alloc E) W.heap.size (.slice (some ⟨W.heap.size, 0, none⟩) 0 0) 0 [] := empty W _ (Nat.le_refl _) _ rfl
theorem eb : Owns ((W.alloc Z).alloc E) W.heap.size (.slice (some ⟨W.heap.size + 1, 0, none⟩) 0 0) 0 [] := empty _ _ (by simp) _ (by simp)
theorem ec : Owns ((W.alloc E).alloc Z) W.heap.size (.slice (some ⟨W.heap.size, 0, none⟩) 0 0) 0 [] := (ea W).alloc _
theorem la (o : Obj) : Below W.heap.size W (W.alloc o) := (Below.refl _ _).alloc (Nat.le_refl _) _
theorem lb (o u : Obj) : Below W.heap.size W ((W.alloc o).alloc u) := (la W o).alloc (by simp) _
theorem za : Holds (W.alloc Z) (W.heap.size + 1) (some ⟨W.heap.size, 0, none⟩) 2 2 [0, 0] := Holds.lit W [0, 0] _ rfl (by simp [maxLen]) zz
variable {W} {w2 : World}
theorem zb (h : ((W.alloc Z).alloc E).grownBy w2 (Value.ownBlock (.slice (some ⟨W.heap.size + 1, 0, none⟩) 0 0))) : Holds w2 w2.heap.size (some ⟨W.heap.size, 0, none⟩) 2 2 [0, 0] :=
  (((Owns.lits W 0 (Nat.zero_le _) [0, 0] 2 W.heap.size _ rfl rfl rfl (by omega) zz).alloc E).kept h (by simp [Value.ownBlock])).holds
theorem zc (h : ((W.alloc E).alloc Z).grownBy w2 (Value.ownBlock (.slice (some ⟨W.heap.size, 0, none⟩) 0 0))) : Holds w2 w2.heap.size (some ⟨W.heap.size + 1, 0, none⟩) 2 2 [0, 0] :=
  ((Owns.lits (W.alloc E) 0 (Nat.zero_le _) [0, 0] 2 (W.heap.size + 1) _ rfl rfl (by simp) (by omega) zz).kept h (by simp [Value.ownBlock])).holds
theorem ba {row : Option Nat} {o : Obj} (h : (W.alloc o).grownBy w2 row) (k : ∀ q, row = some q → W.heap.size ≤ q) : Below W.heap.size W w2 := (la W o).grown h (by simp) k
theorem bb {row : Option Nat} {o u : Obj} (h : ((W.alloc o).alloc u).grownBy w2 row) (k : ∀ q, row = some q → W.heap.size ≤ q) : Below W.heap.size W w2 := (lb W o u).grown h (by simp; omega) k
theorem undrew {B : Nat} {w w1 w1' : World} (h : Below B w w1) (e : w1'.os = w1.os) (f : w1'.tape = w1.tape) (g : w1'.output = w1.output) (k : w1'.heap = w1.heap) : Below B w w1' :=
  ⟨e.trans h.os, f.trans h.tape, g.trans h.output, by rw [k]; exact h.size, fun j hj => by rw [k]; exact h.block j hj⟩
theorem own_more (g : Nat) {A n c : Nat} : ∀ q, Value.ownBlock (.slice (some ⟨g + 1, A, none⟩) n c) = some q → g ≤ q := by
  intro q hq
  have : g + 1 = q := by simpa [Value.ownBlock] using hq
  omega
end

/-- At the append of these two. -/
theorem at_append {ops : Array Oper} {o : Oper} {a : Act} {w : World} {K : Act → World → Prop} {Q : Exit → Act → World → Prop} {F : Prop} (s x : Operand)
    (_ho : o.op = .call { callee := .builtin .append, args := #[s, x], argTypes := #[22, 22] })
    (h : if Region.wanted o (yielded ops a.tmps) = true then Oper.wp Try.prog o a w K Q else F) : if Region.wanted o (yielded ops a.tmps) = true then Oper.wp Try.prog o a w K Q else F := h

theorem own_new (g : Nat) {A n c : Nat} : ∀ q, Value.ownBlock (.slice (some ⟨g, A, none⟩) n c) = some q → g ≤ q := by
  intro q hq
  have : g = q := by simpa [Value.ownBlock] using hq
  omega

theorem l_at {l : List Int} {j : Nat} (h : j < l.length) : ∃ z, l[j]? = some z := ⟨_, List.getElem?_eq_getElem h⟩

/-- The row while words change places. -/
def st (l : List Int) (i k : Nat) : Nat → List Int
  | 0 => l
  | t + 1 => ((st l i k t).set (2 * i + t) (l.getD (2 * k + t) 0)).set (2 * k + t) (l.getD (2 * i + t) 0)
theorem st_step {l : List Int} {i k t : Nat} {x y : Int} (hx : l[2 * k + t]? = some x) (hy : l[2 * i + t]? = some y) : st l i k (t + 1) = ((st l i k t).set (2 * i + t) x).set (2 * k + t) y := by
  simp [st, hx, hy]
theorem st_two {l : List Int} {i k : Nat} {a b c d : Int} (ha : l[2 * i]? = some a) (hb : l[2 * i + 1]? = some b) (hc : l[2 * k]? = some c) (hd : l[2 * k + 1]? = some d) : st l i k 2 = put (put l i c d) k a b := by
  rw [st_step hd hb, st_step (t := 0) hc ha]
  unfold put
  show (((l.set (2 * i) c).set (2 * k) a).set (2 * i + 1) d).set (2 * k + 1) b = _
  rw [List.set_comm _ _ (show 2 * k ≠ 2 * i + 1 by omega)]

set_option maxHeartbeats 1600000 in
theorem inner (A : Option Addr) (n c i k : Nat) (l : List Int) (w : World) (h : Holds w w.heap.size A n c l) (hn : n ≤ 1000) (hi : 2 * i + 2 ≤ n) (hk : 2 * k + 2 ≤ n) :
    Calls Try.prog 8 #[.slice A n c, .int .i64 (i : Int), .int .i64 (k : Int)] w fun e w' => e = .returned (.bool true) ∧ Below w.heap.size w w' := by
  obtain ⟨b, o, rfl, hbB, hcell⟩ := h.2.2.2.2 (by omega)
  have Hc := Lib.hid hcell
  clear hcell
  have hz : w.heap.size ≤ w.heap.size := Nat.le_refl _
  go_enter Try.func8, Try.ntmps8
  go_wp2_with (at_builtin
               refine wpList_append_bytes rfl (.tmp 46) (.tmp 47) rfl w.heap.size _ 0 [] rfl (empty w _ hz _ rfl) _ _ _ _ _ rfl (h.below ((Below.refl _ w).alloc hz _)) (by omega) (by simp) ?_
               intro v1 w1 o1 hg1 hat1)
  rw [Nat.zero_add, List.nil_append] at o1
  obtain ⟨A1, c1, rfl, _⟩ := o1.slice
  obtain ⟨g, rfl, hg, hg'⟩ := o1.form (by omega)
  have b1 : Below w.heap.size w w1 := ((Below.refl _ w).alloc hz _).grown hg1 (by simp) (own_new _)
  clear hg1 hat1
  go_loopw [8] (fun j wr => ∃ t : Nat, t ≤ 2 ∧ j = .int .i64 t ∧ Owns wr w.heap.size (.slice (some ⟨g, 0, none⟩) n c1) n (st l i k t) ∧ Below w.heap.size w wr) (fun j _ => 2 - (intOf j).toNat)
  case atStart => exact ⟨0, by omega, rfl, o1, b1⟩
  case round =>
    obtain ⟨t, ht, rfl, ho, hb⟩ := hrel
    by_cases hlt : t < 2
    · obtain ⟨x, hx, cx, x0, x1⟩ := byte_at (h.below hb) (k := 2 * k + t) (by omega)
      obtain ⟨y, hy, _, y0, y1⟩ := byte_at (h.below hb) (k := 2 * i + t) (by omega)
      have o2 := ho.set (2 * i + t) x x0 x1
      have o3 := o2.set (2 * k + t) y y0 y1
      have hb2 : Below w.heap.size w (wr.setCell ⟨g, 2 * i + t, none⟩ (.int .u8 x)) := hb.setCell hg _
      have hb3 : Below w.heap.size w ((wr.setCell ⟨g, 2 * i + t, none⟩ (.int .u8 x)).setCell ⟨g, 2 * k + t, none⟩ (.int .u8 y)) := hb2.setCell hg _
      have cy : (wr.setCell ⟨g, 2 * i + t, none⟩ (.int .u8 x)).cell? ⟨b, o + (2 * i + t), none⟩ = some (.int .u8 y) := by
        obtain ⟨y', hy', cy, _⟩ := byte_at (h.below hb2) (k := 2 * i + t) (by omega)
        have := hy.out.symm.trans hy'.out
        injection this with this
        subst this
        exact cy
      obtain ⟨u, cu⟩ := ho.there (2 * i + t) (by omega)
      obtain ⟨u', cu'⟩ := o2.there (2 * k + t) (by omega)
      have fu := ho.free (2 * i + t) (by omega)
      have fu' := o2.free (2 * k + t) (by omega)
      go_wp2_with fail
      go_roundw
      case rel => exact ⟨t + 1, by omega, by go_num, by rw [st_step hx.out hy.out]; exact o3, hb3⟩
      case measure => simp [intOf]; omega
    · have e : t = 2 := by omega
      subst e
      have hne : ¬ c = 2 * i := by have := h.2.1; omega
      have hcn := h.2.1
      have hcm := h.2.2.1
      unfold maxLen at hcm
      have i0 : (0 : Int) ≤ 2 * (i : Int) := by omega
      have i1 : 2 * (i : Int) ≤ (c : Int) := by omega
      have i2 : 2 * (i : Int) ≤ (n : Int) := by omega
      have i3 : (n : Int) ≤ (c : Int) := by omega
      have e1 : IntKind.i64.wrap (2 * (i : Int)) = 2 * (i : Int) := IntWalk.i64_in _ (by omega)
      have e3 : (2 * (i : Int)).toNat = 2 * i := by omega
      have hh := h.below hb
      have ht := hh.upto (k := 2 * i) (by omega)
      obtain ⟨b', o', e', hd⟩ := hh.from_ (k := 2 * i) (by omega)
      injection e' with e'
      injection e' with e4 e5
      subst e4 e5
      have hbz := hb.size
      have hd' : ∀ W, Below wr.heap.size wr W → Holds W w.heap.size (some ⟨b, o + 2 * i, none⟩) (n - 2 * i) (c - 2 * i) (l.drop (2 * i)) := fun W q => hd.below (q.mono hbz)
      have ht' : ∀ W, Below wr.heap.size wr W → Holds W w.heap.size (some ⟨b, o, none⟩) (2 * i) c (l.take (2 * i)) := fun W q => ht.below (q.mono hbz)
      have s1 : 0 + 2 * i ≤ 1048576 := by omega
      have s2 : 0 + 2 * i + 2 ≤ 1048576 := by omega
      have s3 : 0 + 2 * i + 2 + (n - 2 * i) ≤ 1048576 := by omega
      have HD := Lib.hid hd'
      have HT := Lib.hid ht'
      clear hd' ht' hd ht
      go_wp2_with fail
      go_region_law (first
        | ((refine at_append (.tmp 79) (.tmp 83) ?_ ?_; rfl)
           refine step_append_bytes rfl (.tmp 79) (.tmp 83) rfl wr.heap.size (.slice (some ⟨wr.heap.size, 0, none⟩) 0 0) 0 [] rfl (ea wr) w.heap.size _ (2 * i) c (l.take (2 * i)) rfl (HT.out _ (undrew (la wr E) rfl rfl rfl rfl)) s1 (undrew (la wr E) rfl rfl rfl rfl).size ?_
           intro v2 w2 o2 hg2 _
           have B2 : Below wr.heap.size wr w2 := ba (W := wr) (o := E) (w2 := w2) ⟨hg2.os, hg2.tape, hg2.output, hg2.size, hg2.block⟩ (own_new _))
        | ((refine at_append (.tmp 79) (.tmp 83) ?_ ?_; rfl)
           refine step_append_bytes rfl (.tmp 79) (.tmp 83) rfl wr.heap.size (.slice (some ⟨wr.heap.size + 1, 0, none⟩) 0 0) 0 [] rfl (eb wr) w.heap.size _ (2 * i) c (l.take (2 * i)) rfl (HT.out _ (undrew (lb wr Z E) rfl rfl rfl rfl)) s1 (undrew (lb wr Z E) rfl rfl rfl rfl).size ?_
           intro v2 w2 o2 hg2 _
           have B2 : Below wr.heap.size wr w2 := bb (W := wr) (o := Z) (u := E) (w2 := w2) ⟨hg2.os, hg2.tape, hg2.output, hg2.size, hg2.block⟩ (own_more _)
           have Z2 := zb (W := wr) (w2 := w2) ⟨hg2.os, hg2.tape, hg2.output, hg2.size, hg2.block⟩)
        | ((refine at_append (.tmp 79) (.tmp 83) ?_ ?_; rfl)
           refine step_append_bytes rfl (.tmp 79) (.tmp 83) rfl wr.heap.size (.slice (some ⟨wr.heap.size, 0, none⟩) 0 0) 0 [] rfl (ec wr) w.heap.size _ (2 * i) c (l.take (2 * i)) rfl (HT.out _ (undrew (lb wr E Z) rfl rfl rfl rfl)) s1 (undrew (lb wr E Z) rfl rfl rfl rfl).size ?_
           intro v2 w2 o2 hg2 _
           have B2 : Below wr.heap.size wr w2 := bb (W := wr) (o := E) (u := Z) (w2 := w2) ⟨hg2.os, hg2.tape, hg2.output, hg2.size, hg2.block⟩ (own_new _)
           have Z2 := zc (W := wr) (w2 := w2) ⟨hg2.os, hg2.tape, hg2.output, hg2.size, hg2.block⟩)
        | ((refine at_append (.tmp 84) (.tmp 85) ?_ ?_; rfl)
           refine step_append_bytes rfl (.tmp 84) (.tmp 85) rfl wr.heap.size v2 (0 + 2 * i) ([] ++ l.take (2 * i)) rfl (o2.alloc Z) (w2.heap.size + 1) (some ⟨w2.heap.size, 0, none⟩) 2 2 [0, 0] rfl (za w2) s2 (B2.alloc B2.size Z).size ?_
           intro v3 w3 o3 hg3 _
           have B3 : Below wr.heap.size wr w3 := (B2.alloc B2.size Z).grown (w' := w3) (row := v2.ownBlock) ⟨hg3.os, hg3.tape, hg3.output, hg3.size, hg3.block⟩ (B2.alloc B2.size Z).size (fun q hq => (o2.lt q hq).1))
        | ((refine at_append (.tmp 84) (.tmp 85) ?_ ?_; rfl)
           refine step_append_bytes rfl (.tmp 84) (.tmp 85) rfl wr.heap.size v2 (0 + 2 * i) ([] ++ l.take (2 * i)) rfl o2 w2.heap.size _ 2 2 [0, 0] rfl Z2 s2 B2.size ?_
           intro v3 w3 o3 hg3 _
           have B3 : Below wr.heap.size wr w3 := B2.grown (w' := w3) (row := v2.ownBlock) ⟨hg3.os, hg3.tape, hg3.output, hg3.size, hg3.block⟩ B2.size (fun q hq => (o2.lt q hq).1))
        | ((refine at_append (.tmp 86) (.tmp 90) ?_ ?_; rfl)
           refine step_append_bytes rfl (.tmp 86) (.tmp 90) rfl wr.heap.size v3 (0 + 2 * i + 2) ([] ++ l.take (2 * i) ++ [0, 0]) rfl o3 w.heap.size (some ⟨b, o + 2 * i, none⟩) (n - 2 * i) (c - 2 * i) (l.drop (2 * i)) rfl (HD.out _ B3) s3 B3.size ?_
           intro v4 w4 o4 hg4 _
           have B4 : Below wr.heap.size wr w4 := B3.grown (w' := w4) (row := v3.ownBlock) ⟨hg4.os, hg4.tape, hg4.output, hg4.size, hg4.block⟩ B3.size (fun q hq => (o3.lt q hq).1)))
      all_goals
        have b4 := hb.trans (B4.mono hbz)
        have hc4 := (ho.below B4 (Nat.le_refl _)).holds
        have hb4 := h.below b4
        rw [show 0 + 2 * i + 2 + (n - 2 * i) = n + 2 by omega] at o4
        obtain ⟨A4, c4, rfl, hd4⟩ := o4.slice
        clear o4
        rw [List.nil_append, List.append_assoc] at hd4
        have W1 : Hid (sums 0 (st l i k 2) = sums 0 l) := by
          obtain ⟨p1, q1⟩ := l_at (l := l) (j := 2 * i) (by rw [h.1]; omega)
          obtain ⟨p2, q2⟩ := l_at (l := l) (j := 2 * i + 1) (by rw [h.1]; omega)
          obtain ⟨p3, q3⟩ := l_at (l := l) (j := 2 * k) (by rw [h.1]; omega)
          obtain ⟨p4, q4⟩ := l_at (l := l) (j := 2 * k + 1) (by rw [h.1]; omega)
          rw [st_two q1 q2 q3 q4]
          exact Lib.hid (sums_swap l h.2.2.2.1 i k p1 p2 p3 p4 q1 q2 q3 q4)
        have W2 : Hid (sums 0 (l.take (2 * i) ++ ([0, 0] ++ l.drop (2 * i))) = sums 0 l) := by
          have := sums_gap (l.take (2 * i)) (l.drop (2 * i)) (by rw [List.length_take, h.1]; omega)
          rw [List.take_append_drop] at this
          exact Lib.hid this
        clear e1 e3 i0 i1 i2 i3 HD HT hh hcn hcm hne s1 s2 s3
        go_wp2_with fail
        refine (awake_any _).mono ?_
        rintro e w5 ⟨rfl, hb5⟩
        have b5 := b4.trans (hb5.mono b4.size)
        have hc5 := hc4.below hb5
        have hh5 := hb4.below (hb5.mono b4.size)
        have hd5 := hd4.below hb5
        go_wp2_with fail
        refine (sum_is W1.out _ _ _ _ _ hc5 (by omega)).mono ?_
        rintro e w' ⟨rfl, rfl⟩
        go_wp2_with fail
        refine (sum_any _ _ _ _ _ _ hh5 (by omega)).mono ?_
        rintro e w' ⟨rfl, rfl⟩
        go_wp2_with fail
        refine (sum_is W2.out _ _ _ _ _ hd5 (by omega)).mono ?_
        rintro e w' ⟨rfl, rfl⟩
        go_wp2_with fail
        refine (sum_any _ _ _ _ _ _ hh5 (by omega)).mono ?_
        rintro e w' ⟨rfl, rfl⟩
        go_wp2_with fail
        go_ret
        exact ⟨rfl, b5⟩

end Go.Proofs.Ytajjncmbgncnhaa.LawOrder
