/- The table of kinds: its cells; contracts of the code: fits, in, versed. -/
import Derived.Test.YthmleabmklnmcaaDoorIcm1
set_option linter.unusedVariables false
namespace Go.Proofs.YthmleabmklnmcaaDoor.Fam
open Go.RowKit Go.Sort Go.Proofs.YthmleabmklnmcaaDoor.Sums Go.Proofs.YthmleabmklnmcaaDoor.Words Go.Proofs.YthmleabmklnmcaaDoor.Mem Go.Proofs.YthmleabmklnmcaaDoor.Ahead Go.Proofs.YthmleabmklnmcaaDoor.IcmD Go.Proofs.YthmleabmklnmcaaDoor.Blk Go.Proofs.YthmleabmklnmcaaDoor.Bits Go.Proofs.YthmleabmklnmcaaDoor.InetSum Go.Proofs.YthmleabmklnmcaaDoor.Steps Go.Proofs.YthmleabmklnmcaaDoor.Free Go.Proofs.YthmleabmklnmcaaDoor.Cut
open Go.Proofs.YthmleabmklnmcaaDoor.Com

/-- What a kind looks like in one version. -/
structure Lk where
  t : Int
  c : Int
  o : Bool
def Lk.fits (x : Lk) (t c : Int) : Bool := decide (t = x.t) && (x.o || decide (c = x.c))
def Lk.cells (x : Lk) : List Value := [.int .i64 x.t, .int .i64 x.c, .bool x.o]
structure Fm where
  k : Int
  four : Lk
  six : Lk
def Fm.cells (x : Fm) : List Value := .int .i64 x.k :: (x.four.cells ++ x.six.cells)
def Fm.at (x : Fm) (w : Bool) : Lk := if w then x.six else x.four
def fams : List Fm := [⟨1, ⟨8, 0, false⟩, ⟨128, 0, false⟩⟩, ⟨2, ⟨0, 0, false⟩, ⟨129, 0, false⟩⟩, ⟨4, ⟨3, 4, false⟩, ⟨2, 0, true⟩⟩, ⟨3, ⟨3, 1, true⟩, ⟨1, 0, true⟩⟩, ⟨5, ⟨11, 0, true⟩, ⟨3, 0, true⟩⟩, ⟨6, ⟨12, 0, true⟩, ⟨4, 0, true⟩⟩]
def famCells : Array Value := #[.int .i64 1, .int .i64 8, .int .i64 0, .bool false, .int .i64 128, .int .i64 0, .bool false, .int .i64 2, .int .i64 0, .int .i64 0, .bool false, .int .i64 129, .int .i64 0, .bool false, .int .i64 4, .int .i64 3, .int .i64 4, .bool false, .int .i64 2, .int .i64 0, .bool true, .int .i64 3, .int .i64 3, .int .i64 1, .bool true, .int .i64 1, .int .i64 0, .bool true, .int .i64 5, .int .i64 11, .int .i64 0, .bool true, .int .i64 3, .int .i64 0, .bool true, .int .i64 6, .int .i64 12, .int .i64 0, .bool true, .int .i64 4, .int .i64 0, .bool true]
theorem famCells_is : famCells.toList = fams.flatMap Fm.cells := by rfl
/-- The table lies there. -/
def Fam (w : World) : Prop := ∃ t fr, w.heap[(0 : Nat)]? = some (.cells famCells t fr)
theorem Fam.below {w w' : World} (h : Fam w) (k : Below w.heap.size w w') : Fam w' := by
  obtain ⟨t, fr, h⟩ := h
  refine ⟨t, fr, ?_⟩
  have hlt : (0 : Nat) < w.heap.size := by
    rcases Nat.lt_or_ge (0 : Nat) w.heap.size with h' | h'
    · exact h'
    · rw [Array.getElem?_eq_none h'] at h; cases h
  rw [k.block _ hlt]
  exact h
theorem Fam.alloc {w : World} (h : Fam w) (o : Obj) : Fam (w.alloc o) := h.below ((Below.refl _ _).alloc (Nat.le_refl _) o)

/-! ### Which kind: the first that fits -/
def firstOf (t c : Int) (w : Bool) : List Fm → Int
  | [] => 0
  | x :: r => if (x.at w).fits t c = true then x.k else firstOf t c w r
theorem fams_kind (t c : Int) (w : Bool) : firstOf t c w fams = kind t c w := by
  unfold kind
  cases w
  · simp only [fams, firstOf, Fm.at, Lk.fits, Bool.false_eq_true, if_false, Bool.and_eq_true, Bool.or_eq_true, decide_eq_true_eq, false_or, true_or, and_true]
  · simp only [fams, firstOf, Fm.at, Lk.fits, if_true, Bool.and_eq_true, Bool.or_eq_true, decide_eq_true_eq, false_or, true_or, and_true, Bool.false_eq_true]
    repeat' split
    all_goals first | rfl | omega
theorem firstOf_drop {t c : Int} {w : Bool} {k : Nat} (h : k < fams.length) : firstOf t c w (fams.drop k) = if ((fams[k]).at w).fits t c = true then (fams[k]).k else firstOf t c w (fams.drop (k + 1)) := by
  rw [List.drop_eq_getElem_cons h]
  rfl

theorem fits_any (x : Lk) (t c : Int) (w : World) : Calls Tryd.prog 62 #[.agg #[.int .i64 x.t, .int .i64 x.c, .bool x.o], .int .i64 t, .int .i64 c] w fun e w' => e = .returned (.bool (x.fits t c)) ∧ Below w.heap.size w w' := by
  have B0 := Lib.hid ((Below.refl w.heap.size w).alloc (Nat.le_refl _) (.cells #[.int .i64 x.t, .int .i64 x.c, .bool x.o] 54))
  have K0 := Blk.new w 54 #[.int .i64 x.t, .int .i64 x.c, .bool x.o]
  have k0 := K0.cell 0
  have k1 := K0.cell 1
  have k2 := K0.cell 2
  clear K0
  have E : Hid (x.fits t c = (decide (t = x.t) && (x.o || decide (c = x.c)))) := Lib.hid rfl
  obtain ⟨xt, xc, xo⟩ := x
  by_cases h : t = xt
  · have g1 : (t == xt) = true := by simpa using h
    cases xo with
    | true =>
      have F : Hid ((⟨xt, xc, true⟩ : Lk).fits t c = true) := Lib.hid (by rw [E.out]; simp [h])
      clear E h
      go_enter Tryd.func62, Tryd.ntmps62
      go_wp2_with fail
      go_ret
      exact ⟨by rw [F.out]; rfl, B0.out⟩
    | false =>
      have F : Hid ((⟨xt, xc, false⟩ : Lk).fits t c = (c == xc)) := Lib.hid (by rw [E.out]; simp [h]; rfl)
      clear E h
      go_enter Tryd.func62, Tryd.ntmps62
      go_wp2_with fail
      go_ret
      exact ⟨by rw [F.out]; rfl, B0.out⟩
  · have g1 : (t == xt) = false := by simpa using h
    have F : Hid ((⟨xt, xc, xo⟩ : Lk).fits t c = false) := Lib.hid (by rw [E.out]; simp [h])
    clear E h
    go_enter Tryd.func62, Tryd.ntmps62
    go_wp2_with fail
    go_ret
    exact ⟨by rw [F.out]; rfl, B0.out⟩

def fmA (x : Fm) : Value := .agg #[.int .i64 x.k, .int .i64 x.four.t, .int .i64 x.four.c, .bool x.four.o, .int .i64 x.six.t, .int .i64 x.six.c, .bool x.six.o]
theorem narrow_any (x : Fm) (p : Ic) (A : Option Addr) (n c : Nat) (w : World) : Calls Tryd.prog 64 #[.agg #[.int .i64 p.typ, .int .i64 p.code, .int .i64 p.rest, .slice A n c], .agg #[.int .i64 x.k, .int .i64 x.four.t, .int .i64 x.four.c, .bool x.four.o, .int .i64 x.six.t, .int .i64 x.six.c, .bool x.six.o]] w fun e w' => e = .returned (.bool ((x.at false).fits p.typ p.code)) ∧ Below w.heap.size w w' := by
  have B0 := Lib.hid (((Below.refl w.heap.size w).alloc (Nat.le_refl _) (.cells #[.int .i64 p.typ, .int .i64 p.code, .int .i64 p.rest, .slice A n c] 70)).alloc (by simp) (.cells #[.int .i64 x.k, .int .i64 x.four.t, .int .i64 x.four.c, .bool x.four.o, .int .i64 x.six.t, .int .i64 x.six.c, .bool x.six.o] 61))
  have K0 := (Blk.new w 70 #[.int .i64 p.typ, .int .i64 p.code, .int .i64 p.rest, .slice A n c]).alloc (.cells #[.int .i64 x.k, .int .i64 x.four.t, .int .i64 x.four.c, .bool x.four.o, .int .i64 x.six.t, .int .i64 x.six.c, .bool x.six.o] 61)
  have K1 := Blk.new (w.alloc (.cells #[.int .i64 p.typ, .int .i64 p.code, .int .i64 p.rest, .slice A n c] 70)) 61 #[.int .i64 x.k, .int .i64 x.four.t, .int .i64 x.four.c, .bool x.four.o, .int .i64 x.six.t, .int .i64 x.six.c, .bool x.six.o]
  have k0 := K0.cell 0
  have k1 := K0.cell 1
  have f1 := K1.cell 1
  have f2 := K1.cell 2
  have f3 := K1.cell 3
  clear K0
  have S := Lib.hid (fun W => fits_any x.four p.typ p.code W)
  go_enter Tryd.func64, Tryd.ntmps64
  go_wp2_with fail
  refine (S.out _).mono ?_
  rintro e w1 ⟨rfl, hb⟩
  have B1 := Lib.hid (B0.out.trans (hb.mono B0.out.size))
  go_wp2_with fail
  go_ret
  exact ⟨rfl, B1.out⟩
theorem broad_any (x : Fm) (p : Ic) (A : Option Addr) (n c : Nat) (w : World) : Calls Tryd.prog 63 #[.agg #[.int .i64 p.typ, .int .i64 p.code, .int .i64 p.rest, .slice A n c], .agg #[.int .i64 x.k, .int .i64 x.four.t, .int .i64 x.four.c, .bool x.four.o, .int .i64 x.six.t, .int .i64 x.six.c, .bool x.six.o]] w fun e w' => e = .returned (.bool ((x.at true).fits p.typ p.code)) ∧ Below w.heap.size w w' := by
  have B0 := Lib.hid (((Below.refl w.heap.size w).alloc (Nat.le_refl _) (.cells #[.int .i64 p.typ, .int .i64 p.code, .int .i64 p.rest, .slice A n c] 69)).alloc (by simp) (.cells #[.int .i64 x.k, .int .i64 x.four.t, .int .i64 x.four.c, .bool x.four.o, .int .i64 x.six.t, .int .i64 x.six.c, .bool x.six.o] 61))
  have K0 := (Blk.new w 69 #[.int .i64 p.typ, .int .i64 p.code, .int .i64 p.rest, .slice A n c]).alloc (.cells #[.int .i64 x.k, .int .i64 x.four.t, .int .i64 x.four.c, .bool x.four.o, .int .i64 x.six.t, .int .i64 x.six.c, .bool x.six.o] 61)
  have K1 := Blk.new (w.alloc (.cells #[.int .i64 p.typ, .int .i64 p.code, .int .i64 p.rest, .slice A n c] 69)) 61 #[.int .i64 x.k, .int .i64 x.four.t, .int .i64 x.four.c, .bool x.four.o, .int .i64 x.six.t, .int .i64 x.six.c, .bool x.six.o]
  have k0 := K0.cell 0
  have k1 := K0.cell 1
  have f1 := K1.cell 4
  have f2 := K1.cell 5
  have f3 := K1.cell 6
  clear K0
  have S := Lib.hid (fun W => fits_any x.six p.typ p.code W)
  go_enter Tryd.func63, Tryd.ntmps63
  go_wp2_with fail
  refine (S.out _).mono ?_
  rintro e w1 ⟨rfl, hb⟩
  have B1 := Lib.hid (B0.out.trans (hb.mono B0.out.size))
  go_wp2_with fail
  go_ret
  exact ⟨rfl, B1.out⟩
end Go.Proofs.YthmleabmklnmcaaDoor.Fam
