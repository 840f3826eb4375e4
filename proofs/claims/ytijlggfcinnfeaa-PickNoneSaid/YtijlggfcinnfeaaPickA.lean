/- every, the examples, few. -/
import Derived.Test.YtijlggfcinnfeaaPick3
import Derived.Test.YtijlggfcinnfeaaPick5
import Derived.Test.YtijlggfcinnfeaaStore
import Derived.Test.YtijlggfcinnfeaaDraw
set_option linter.unusedVariables false
namespace Go.Proofs.Ytijlggfcinnfeaa.PickA
open Go.RowKit Go.Proofs.Ytijlggfcinnfeaa.Mem Go.Proofs.Ytijlggfcinnfeaa.Blk Go.Proofs.Ytijlggfcinnfeaa.Ahead Go.Proofs.Ytijlggfcinnfeaa.PickD Go.Proofs.Ytijlggfcinnfeaa.PickR1 Go.Proofs.Ytijlggfcinnfeaa.PickR2 Go.Proofs.Ytijlggfcinnfeaa.PickR3 Go.Proofs.Ytijlggfcinnfeaa.Pick1 Go.Proofs.Ytijlggfcinnfeaa.Pick2 Go.Proofs.Ytijlggfcinnfeaa.Pick3 Go.Proofs.Ytijlggfcinnfeaa.Pick4 Go.Proofs.Ytijlggfcinnfeaa.Free Go.Proofs.Ytijlggfcinnfeaa.Steps Go.Proofs.Ytijlggfcinnfeaa.Regs Go.Proofs.Ytijlggfcinnfeaa.Com Go.Proofs.Ytijlggfcinnfeaa.Pick5

theorem oneP (a b c d : ByteArray) (e f g h i : Int) : (#[.string a, .string b, .string c, .string d, .int .i64 e, .int .i64 f, .int .i64 g, .int .i64 h, .int .i64 i] : Array Value).all (·.oneCell') = true := by simp [Value.oneCell']
theorem every_code (w : World) : Calls Try.prog 16 #[] w fun e w' => e = .returned (.agg #[.string ⟨#[]⟩, .string ⟨#[]⟩, .string ⟨#[]⟩, .string ⟨#[]⟩, .int .i64 (-1), .int .i64 0, .int .i64 65535, .int .i64 0, .int .i64 65535]) ∧ Below w.heap.size w w' := by
  have J0 := Lib.hid (Blk.new w 37 #[.string ⟨#[]⟩, .string ⟨#[]⟩, .string ⟨#[]⟩, .string ⟨#[]⟩, .int .i64 0, .int .i64 0, .int .i64 0, .int .i64 0, .int .i64 0])
  have B0 := Lib.hid ((Below.refl w.heap.size w).alloc (Nat.le_refl _) (.cells #[.string ⟨#[]⟩, .string ⟨#[]⟩, .string ⟨#[]⟩, .string ⟨#[]⟩, .int .i64 0, .int .i64 0, .int .i64 0, .int .i64 0, .int .i64 0] 37))
  go_enter Try.func16, Try.ntmps16
  go_wp2_with (refine wpList_store_row rfl 37 (.tmp 0) (.tmp 3) rfl w.heap.size #[.string ⟨#[]⟩, .string ⟨#[]⟩, .string ⟨#[]⟩, .string ⟨#[]⟩, .int .i64 (-1), .int .i64 0, .int .i64 65535, .int .i64 0, .int .i64 65535] rfl rfl 37 _ J0.out (by kernel_rfl) rfl (oneP _ _ _ _ _ _ _ _ _) ?_)
  exact bodyPost_ret (results_cell_row rfl _ _ w.heap.size 37 #[.string ⟨#[]⟩, .string ⟨#[]⟩, .string ⟨#[]⟩, .string ⟨#[]⟩, .int .i64 (-1), .int .i64 0, .int .i64 65535, .int .i64 0, .int .i64 65535] (0, 0) _ rfl (setRow_heap _ _ _ _ _ _ J0.out) Try.underlying37 rfl (by kernel_rfl)) rfl ⟨rfl, setRow_bel B0.out (Nat.le_refl _) _⟩
def s1 : ByteArray := ⟨#[10, 0, 0, 1]⟩
def s2 : ByteArray := ⟨#[10, 0, 0, 2]⟩
def pE : Pk := ⟨⟨#[]⟩, ⟨#[]⟩, ⟨#[]⟩, ⟨#[]⟩, -1, 0, 65535, 0, 65535⟩
theorem ex_of : ofR s1 s2 17 [0, 53, 0, 80] true = ⟨s1, s2, 17, 53, 80⟩ ∧ ofE s1 s2 17 4 = 0 := by
  refine ⟨?_, ?_⟩ <;> rfl
theorem emp_nil : emp ⟨#[]⟩ = true := by unfold emp; rw [ByteArray.toList_eq]; rfl
theorem ex_m : matB pE ⟨s1, s2, 17, 53, 80⟩ = true ∧ matB ⟨⟨#[]⟩, ⟨#[]⟩, ⟨#[]⟩, ⟨#[]⟩, 17, 53, 53, 0, 65535⟩ ⟨s1, s2, 17, 53, 80⟩ = true ∧ matB ⟨⟨#[]⟩, ⟨#[]⟩, ⟨#[]⟩, ⟨#[]⟩, -1, 54, 60, 0, 65535⟩ ⟨s1, s2, 17, 53, 80⟩ = false ∧ chkE ⟨⟨#[]⟩, ⟨#[]⟩, ⟨#[]⟩, ⟨#[]⟩, 17, 53, 53, 0, 65535⟩ = 0 := by
  refine ⟨?_, ?_, ?_, ?_⟩ <;> simp [matB, pE, mayP, spanB, inB, emp_nil, portsB, portB, chkE]
theorem mat_is (p : Pk) (f : Fl) (r : Bool) (h : matB p f = r) (w : World) : Calls Try.prog 14 #[.agg #[.string p.hl, .string p.hh, .string p.tl, .string p.th, .int .i64 p.pr, .int .i64 p.nl, .int .i64 p.nh, .int .i64 p.fl, .int .i64 p.fh], .agg #[.string f.here, .string f.there, .int .i64 f.pr, .int .i64 f.near, .int .i64 f.far]] w fun e w' => e = .returned (.bool r) ∧ Below w.heap.size w w' := by
  subst h
  exact matches_code p f w
theorem chk_is (p : Pk) (r : Int) (h : chkE p = r) (w : World) : Calls Try.prog 15 #[.agg #[.string p.hl, .string p.hh, .string p.tl, .string p.th, .int .i64 p.pr, .int .i64 p.nl, .int .i64 p.nh, .int .i64 p.fl, .int .i64 p.fh]] w fun e w' => e = .returned (.int .i64 r) ∧ Below w.heap.size w w' := by
  subst h
  exact check_code p w
theorem ent_every : Enters Try.prog 16 := enters_of Try.func16 (by kernel_rfl) rfl
theorem ent_matches : Enters Try.prog 14 := enters_of Try.func14 (by kernel_rfl) rfl
theorem ent_check : Enters Try.prog 15 := enters_of Try.func15 (by kernel_rfl) rfl
theorem ent_turned : Enters Try.prog 11 := enters_of Try.func11 (by kernel_rfl) rfl
theorem b_eqF (a b : ByteArray) (x y z : Int) (u v : Operand) (w : World) : (do eqGuard .eql 24 u v (.agg #[.string a, .string b, .int .i64 x, .int .i64 y, .int .i64 z]) (.agg #[.string a, .string b, .int .i64 x, .int .i64 y, .int .i64 z]); binOp .eql 24 (.agg #[.string a, .string b, .int .i64 x, .int .i64 y, .int .i64 z]) (.agg #[.string a, .string b, .int .i64 x, .int .i64 y, .int .i64 z]) : Sem Value).run Try.prog w = .ok (.bool true) w :=
  Draw.b_agg 24 _ (by kernel_rfl) _ (fun w => EqR.eq_Flow 9998 a b x y z a b x y z w) (by simp) u v w
set_option maxRecDepth 100000 in
set_option maxHeartbeats 2000000 in
theorem awake_any (w : World) : Calls Try.prog 10 #[] w fun e w' => e = .returned (.bool true) ∧ Below w.heap.size w w' := by
  have B1 := Lib.hid (Below.refl w.heap.size w)
  have LH : Hid (Holds (w.alloc (.cells #[.int .u8 0, .int .u8 53, .int .u8 0, .int .u8 80] 5)) (w.heap.size + 1) (some ⟨w.heap.size, 0, none⟩) 4 4 [0, 53, 0, 80]) := Lib.hid (Draw.lit_holds w [0, 53, 0, 80] _ (0, 0) 4 _ rfl (by intro z hz; simp at hz; omega) rfl rfl (by decide))
  have K2 : Hid (Blk (w.alloc (.cells #[.int .u8 0, .int .u8 53, .int .u8 0, .int .u8 80] 5)) w.heap.size 5 #[.int .u8 0, .int .u8 53, .int .u8 0, .int .u8 80]) := Lib.hid (by have h := Blk.new w 5 #[.int .u8 0, .int .u8 53, .int .u8 0, .int .u8 80]; first | exact h | simpa using h)
  have B3 := Lib.hid (B1.out.alloc (by have h := B1.out.size; first | exact h | omega | (simp at h ⊢; omega)) (.cells #[.int .u8 0, .int .u8 53, .int .u8 0, .int .u8 80] 5))
  have G4 : Hid (w.heap.size ≤ w.heap.size) := Lib.hid (by have h := B1.out.size; first | exact h | omega | (simp at h ⊢; omega))
  have C := Lib.hid (of_code s1 s2 17 _ 4 4 [0, 53, 0, 80] true _ _ LH.out (by simp) (by decide) (by decide))
  rw [ex_of.1, show ([0, 53, 0, 80] : List Int).length = 4 from rfl, ex_of.2] at C
  dsimp only at C
  clear LH
  go_enter Try.func10, Try.ntmps10
  go_wp2_with fail
  refine (C.out).mono ?_
  rintro e w1 ⟨rfl, hb5⟩
  have B6 := Lib.hid (B3.out.trans (hb5.mono B3.out.size))
  clear hb5
  clear C
  have K7 : Hid (Blk (w1.alloc (.cells #[.string ⟨#[]⟩, .string ⟨#[]⟩, .int .i64 0, .int .i64 0, .int .i64 0] 24)) w1.heap.size 24 #[.string ⟨#[]⟩, .string ⟨#[]⟩, .int .i64 0, .int .i64 0, .int .i64 0]) := Lib.hid (by have h := Blk.new w1 24 #[.string ⟨#[]⟩, .string ⟨#[]⟩, .int .i64 0, .int .i64 0, .int .i64 0]; first | exact h | simpa using h)
  have B8 := Lib.hid (B6.out.alloc (by have h := B6.out.size; first | exact h | omega | (simp at h ⊢; omega)) (.cells #[.string ⟨#[]⟩, .string ⟨#[]⟩, .int .i64 0, .int .i64 0, .int .i64 0] 24))
  have G9 : Hid (w.heap.size ≤ w1.heap.size) := Lib.hid (by have h := B6.out.size; first | exact h | omega | (simp at h ⊢; omega))
  have K10 : Hid (Blk ((w1.alloc (.cells #[.string ⟨#[]⟩, .string ⟨#[]⟩, .int .i64 0, .int .i64 0, .int .i64 0] 24)).setRow w1.heap.size #[.string s1, .string s2, .int .i64 17, .int .i64 53, .int .i64 80]) w1.heap.size 24 #[.string s1, .string s2, .int .i64 17, .int .i64 53, .int .i64 80]) := Lib.hid (setRow_heap _ _ _ #[.string s1, .string s2, .int .i64 17, .int .i64 53, .int .i64 80] _ _ K7.out)
  have B11 := Lib.hid (setRow_bel (g := w1.heap.size) B8.out G9.out #[.string s1, .string s2, .int .i64 17, .int .i64 53, .int .i64 80])
  go_wp2_with (refine Store.at_store 24 (.tmp 1) (.tmp 8) ?_ ?_; exact rfl; refine wpList_store_row rfl 24 (.tmp 1) (.tmp 8) rfl w1.heap.size #[.string s1, .string s2, .int .i64 17, .int .i64 53, .int .i64 80] rfl rfl 24 _ K7.out (by kernel_rfl) rfl (oneF _ _ _ _ _) ?_)
  refine (every_code _).mono ?_
  rintro e w2 ⟨rfl, hb12⟩
  have K13 : Hid (Blk w2 w1.heap.size 24 #[.string s1, .string s2, .int .i64 17, .int .i64 53, .int .i64 80]) := Lib.hid (Blk.below K10.out hb12 (Blk.lt K10.out))
  have B14 := Lib.hid (B11.out.trans (hb12.mono B11.out.size))
  clear hb12
  have K15 : Hid (Blk (w2.alloc (.cells #[.string ⟨#[]⟩, .string ⟨#[]⟩, .string ⟨#[]⟩, .string ⟨#[]⟩, .int .i64 0, .int .i64 0, .int .i64 0, .int .i64 0, .int .i64 0] 37)) w1.heap.size 24 #[.string s1, .string s2, .int .i64 17, .int .i64 53, .int .i64 80]) := Lib.hid (Blk.alloc K13.out _)
  have N16 : Hid (w1.heap.size ≠ w2.heap.size) := Lib.hid (by have h := Blk.lt K13.out; first | omega | (simp at h; omega))
  have K17 : Hid (Blk (w2.alloc (.cells #[.string ⟨#[]⟩, .string ⟨#[]⟩, .string ⟨#[]⟩, .string ⟨#[]⟩, .int .i64 0, .int .i64 0, .int .i64 0, .int .i64 0, .int .i64 0] 37)) w2.heap.size 37 #[.string ⟨#[]⟩, .string ⟨#[]⟩, .string ⟨#[]⟩, .string ⟨#[]⟩, .int .i64 0, .int .i64 0, .int .i64 0, .int .i64 0, .int .i64 0]) := Lib.hid (by have h := Blk.new w2 37 #[.string ⟨#[]⟩, .string ⟨#[]⟩, .string ⟨#[]⟩, .string ⟨#[]⟩, .int .i64 0, .int .i64 0, .int .i64 0, .int .i64 0, .int .i64 0]; first | exact h | simpa using h)
  have B18 := Lib.hid (B14.out.alloc (by have h := B14.out.size; first | exact h | omega | (simp at h ⊢; omega)) (.cells #[.string ⟨#[]⟩, .string ⟨#[]⟩, .string ⟨#[]⟩, .string ⟨#[]⟩, .int .i64 0, .int .i64 0, .int .i64 0, .int .i64 0, .int .i64 0] 37))
  have G19 : Hid (w.heap.size ≤ w2.heap.size) := Lib.hid (by have h := B14.out.size; first | exact h | omega | (simp at h ⊢; omega))
  have K20 : Hid (Blk ((w2.alloc (.cells #[.string ⟨#[]⟩, .string ⟨#[]⟩, .string ⟨#[]⟩, .string ⟨#[]⟩, .int .i64 0, .int .i64 0, .int .i64 0, .int .i64 0, .int .i64 0] 37)).setRow w2.heap.size #[.string ⟨#[]⟩, .string ⟨#[]⟩, .string ⟨#[]⟩, .string ⟨#[]⟩, .int .i64 (-1), .int .i64 0, .int .i64 65535, .int .i64 0, .int .i64 65535]) w1.heap.size 24 #[.string s1, .string s2, .int .i64 17, .int .i64 53, .int .i64 80]) := Lib.hid ((setRow_other _ _ _ _ (N16.out)).trans K15.out)
  have K21 : Hid (Blk ((w2.alloc (.cells #[.string ⟨#[]⟩, .string ⟨#[]⟩, .string ⟨#[]⟩, .string ⟨#[]⟩, .int .i64 0, .int .i64 0, .int .i64 0, .int .i64 0, .int .i64 0] 37)).setRow w2.heap.size #[.string ⟨#[]⟩, .string ⟨#[]⟩, .string ⟨#[]⟩, .string ⟨#[]⟩, .int .i64 (-1), .int .i64 0, .int .i64 65535, .int .i64 0, .int .i64 65535]) w2.heap.size 37 #[.string ⟨#[]⟩, .string ⟨#[]⟩, .string ⟨#[]⟩, .string ⟨#[]⟩, .int .i64 (-1), .int .i64 0, .int .i64 65535, .int .i64 0, .int .i64 65535]) := Lib.hid (setRow_heap _ _ _ #[.string ⟨#[]⟩, .string ⟨#[]⟩, .string ⟨#[]⟩, .string ⟨#[]⟩, .int .i64 (-1), .int .i64 0, .int .i64 65535, .int .i64 0, .int .i64 65535] _ _ K17.out)
  have B22 := Lib.hid (setRow_bel (g := w2.heap.size) B18.out G19.out #[.string ⟨#[]⟩, .string ⟨#[]⟩, .string ⟨#[]⟩, .string ⟨#[]⟩, .int .i64 (-1), .int .i64 0, .int .i64 65535, .int .i64 0, .int .i64 65535])
  have K23 : Hid (Blk (((w2.alloc (.cells #[.string ⟨#[]⟩, .string ⟨#[]⟩, .string ⟨#[]⟩, .string ⟨#[]⟩, .int .i64 0, .int .i64 0, .int .i64 0, .int .i64 0, .int .i64 0] 37)).setRow w2.heap.size #[.string ⟨#[]⟩, .string ⟨#[]⟩, .string ⟨#[]⟩, .string ⟨#[]⟩, .int .i64 (-1), .int .i64 0, .int .i64 65535, .int .i64 0, .int .i64 65535]).setRow w2.heap.size #[.string ⟨#[]⟩, .string ⟨#[]⟩, .string ⟨#[]⟩, .string ⟨#[]⟩, .int .i64 17, .int .i64 0, .int .i64 65535, .int .i64 0, .int .i64 65535]) w1.heap.size 24 #[.string s1, .string s2, .int .i64 17, .int .i64 53, .int .i64 80]) := Lib.hid ((setRow_other _ _ _ _ (N16.out)).trans K20.out)
  have K24 : Hid (Blk (((w2.alloc (.cells #[.string ⟨#[]⟩, .string ⟨#[]⟩, .string ⟨#[]⟩, .string ⟨#[]⟩, .int .i64 0, .int .i64 0, .int .i64 0, .int .i64 0, .int .i64 0] 37)).setRow w2.heap.size #[.string ⟨#[]⟩, .string ⟨#[]⟩, .string ⟨#[]⟩, .string ⟨#[]⟩, .int .i64 (-1), .int .i64 0, .int .i64 65535, .int .i64 0, .int .i64 65535]).setRow w2.heap.size #[.string ⟨#[]⟩, .string ⟨#[]⟩, .string ⟨#[]⟩, .string ⟨#[]⟩, .int .i64 17, .int .i64 0, .int .i64 65535, .int .i64 0, .int .i64 65535]) w2.heap.size 37 #[.string ⟨#[]⟩, .string ⟨#[]⟩, .string ⟨#[]⟩, .string ⟨#[]⟩, .int .i64 17, .int .i64 0, .int .i64 65535, .int .i64 0, .int .i64 65535]) := Lib.hid (setRow_heap _ _ _ #[.string ⟨#[]⟩, .string ⟨#[]⟩, .string ⟨#[]⟩, .string ⟨#[]⟩, .int .i64 17, .int .i64 0, .int .i64 65535, .int .i64 0, .int .i64 65535] _ _ K21.out)
  have B25 := Lib.hid (setRow_bel (g := w2.heap.size) B22.out G19.out #[.string ⟨#[]⟩, .string ⟨#[]⟩, .string ⟨#[]⟩, .string ⟨#[]⟩, .int .i64 17, .int .i64 0, .int .i64 65535, .int .i64 0, .int .i64 65535])
  have K26 : Hid (Blk ((((w2.alloc (.cells #[.string ⟨#[]⟩, .string ⟨#[]⟩, .string ⟨#[]⟩, .string ⟨#[]⟩, .int .i64 0, .int .i64 0, .int .i64 0, .int .i64 0, .int .i64 0] 37)).setRow w2.heap.size #[.string ⟨#[]⟩, .string ⟨#[]⟩, .string ⟨#[]⟩, .string ⟨#[]⟩, .int .i64 (-1), .int .i64 0, .int .i64 65535, .int .i64 0, .int .i64 65535]).setRow w2.heap.size #[.string ⟨#[]⟩, .string ⟨#[]⟩, .string ⟨#[]⟩, .string ⟨#[]⟩, .int .i64 17, .int .i64 0, .int .i64 65535, .int .i64 0, .int .i64 65535]).setRow w2.heap.size #[.string ⟨#[]⟩, .string ⟨#[]⟩, .string ⟨#[]⟩, .string ⟨#[]⟩, .int .i64 17, .int .i64 53, .int .i64 53, .int .i64 0, .int .i64 65535]) w1.heap.size 24 #[.string s1, .string s2, .int .i64 17, .int .i64 53, .int .i64 80]) := Lib.hid ((setRow_other _ _ _ _ (N16.out)).trans K23.out)
  have K27 : Hid (Blk ((((w2.alloc (.cells #[.string ⟨#[]⟩, .string ⟨#[]⟩, .string ⟨#[]⟩, .string ⟨#[]⟩, .int .i64 0, .int .i64 0, .int .i64 0, .int .i64 0, .int .i64 0] 37)).setRow w2.heap.size #[.string ⟨#[]⟩, .string ⟨#[]⟩, .string ⟨#[]⟩, .string ⟨#[]⟩, .int .i64 (-1), .int .i64 0, .int .i64 65535, .int .i64 0, .int .i64 65535]).setRow w2.heap.size #[.string ⟨#[]⟩, .string ⟨#[]⟩, .string ⟨#[]⟩, .string ⟨#[]⟩, .int .i64 17, .int .i64 0, .int .i64 65535, .int .i64 0, .int .i64 65535]).setRow w2.heap.size #[.string ⟨#[]⟩, .string ⟨#[]⟩, .string ⟨#[]⟩, .string ⟨#[]⟩, .int .i64 17, .int .i64 53, .int .i64 53, .int .i64 0, .int .i64 65535]) w2.heap.size 37 #[.string ⟨#[]⟩, .string ⟨#[]⟩, .string ⟨#[]⟩, .string ⟨#[]⟩, .int .i64 17, .int .i64 53, .int .i64 53, .int .i64 0, .int .i64 65535]) := Lib.hid (setRow_heap _ _ _ #[.string ⟨#[]⟩, .string ⟨#[]⟩, .string ⟨#[]⟩, .string ⟨#[]⟩, .int .i64 17, .int .i64 53, .int .i64 53, .int .i64 0, .int .i64 65535] _ _ K24.out)
  have B28 := Lib.hid (setRow_bel (g := w2.heap.size) B25.out G19.out #[.string ⟨#[]⟩, .string ⟨#[]⟩, .string ⟨#[]⟩, .string ⟨#[]⟩, .int .i64 17, .int .i64 53, .int .i64 53, .int .i64 0, .int .i64 65535])
  go_wp2_with (first | (refine Store.at_store 37 (.tmp 3) (.tmp 10) ?_ ?_; exact rfl; refine wpList_store_row rfl 37 (.tmp 3) (.tmp 10) rfl w2.heap.size #[.string ⟨#[]⟩, .string ⟨#[]⟩, .string ⟨#[]⟩, .string ⟨#[]⟩, .int .i64 (-1), .int .i64 0, .int .i64 65535, .int .i64 0, .int .i64 65535] rfl rfl 37 _ K17.out (by kernel_rfl) rfl (oneP _ _ _ _ _ _ _ _ _) ?_) | (refine Store.at_store 3 (.tmp 11) (.const (.int .i64 17)) ?_ ?_; exact rfl; refine Store.wpList_store_one rfl 3 (.tmp 11) (.const (.int .i64 17)) rfl w2.heap.size 4 (.int .i64 17) rfl rfl 37 _ K21.out (by simp) (by kernel_rfl) rfl #[.string ⟨#[]⟩, .string ⟨#[]⟩, .string ⟨#[]⟩, .string ⟨#[]⟩, .int .i64 17, .int .i64 0, .int .i64 65535, .int .i64 0, .int .i64 65535] rfl rfl ?_) | (refine Store.at_store 35 (.tmp 13) (.tmp 12) ?_ ?_; exact rfl; refine Store.wpList_store_two rfl 35 (.tmp 13) (.tmp 12) rfl w2.heap.size 5 (.int .i64 53) (.int .i64 53) rfl rfl 37 _ K24.out (by simp) (by kernel_rfl) rfl rfl #[.string ⟨#[]⟩, .string ⟨#[]⟩, .string ⟨#[]⟩, .string ⟨#[]⟩, .int .i64 17, .int .i64 53, .int .i64 53, .int .i64 0, .int .i64 65535] rfl ?_))
  refine (every_code _).mono ?_
  rintro e w3 ⟨rfl, hb29⟩
  have K30 : Hid (Blk w3 w1.heap.size 24 #[.string s1, .string s2, .int .i64 17, .int .i64 53, .int .i64 80]) := Lib.hid (Blk.below K26.out hb29 (Blk.lt K26.out))
  have K31 : Hid (Blk w3 w2.heap.size 37 #[.string ⟨#[]⟩, .string ⟨#[]⟩, .string ⟨#[]⟩, .string ⟨#[]⟩, .int .i64 17, .int .i64 53, .int .i64 53, .int .i64 0, .int .i64 65535]) := Lib.hid (Blk.below K27.out hb29 (Blk.lt K27.out))
  have B32 := Lib.hid (B28.out.trans (hb29.mono B28.out.size))
  clear hb29
  have K33 : Hid (Blk (w3.alloc (.cells #[.string ⟨#[]⟩, .string ⟨#[]⟩, .string ⟨#[]⟩, .string ⟨#[]⟩, .int .i64 0, .int .i64 0, .int .i64 0, .int .i64 0, .int .i64 0] 37)) w1.heap.size 24 #[.string s1, .string s2, .int .i64 17, .int .i64 53, .int .i64 80]) := Lib.hid (Blk.alloc K30.out _)
  have N34 : Hid (w1.heap.size ≠ w3.heap.size) := Lib.hid (by have h := Blk.lt K30.out; first | omega | (simp at h; omega))
  have K35 : Hid (Blk (w3.alloc (.cells #[.string ⟨#[]⟩, .string ⟨#[]⟩, .string ⟨#[]⟩, .string ⟨#[]⟩, .int .i64 0, .int .i64 0, .int .i64 0, .int .i64 0, .int .i64 0] 37)) w2.heap.size 37 #[.string ⟨#[]⟩, .string ⟨#[]⟩, .string ⟨#[]⟩, .string ⟨#[]⟩, .int .i64 17, .int .i64 53, .int .i64 53, .int .i64 0, .int .i64 65535]) := Lib.hid (Blk.alloc K31.out _)
  have N36 : Hid (w2.heap.size ≠ w3.heap.size) := Lib.hid (by have h := Blk.lt K31.out; first | omega | (simp at h; omega))
  have K37 : Hid (Blk (w3.alloc (.cells #[.string ⟨#[]⟩, .string ⟨#[]⟩, .string ⟨#[]⟩, .string ⟨#[]⟩, .int .i64 0, .int .i64 0, .int .i64 0, .int .i64 0, .int .i64 0] 37)) w3.heap.size 37 #[.string ⟨#[]⟩, .string ⟨#[]⟩, .string ⟨#[]⟩, .string ⟨#[]⟩, .int .i64 0, .int .i64 0, .int .i64 0, .int .i64 0, .int .i64 0]) := Lib.hid (by have h := Blk.new w3 37 #[.string ⟨#[]⟩, .string ⟨#[]⟩, .string ⟨#[]⟩, .string ⟨#[]⟩, .int .i64 0, .int .i64 0, .int .i64 0, .int .i64 0, .int .i64 0]; first | exact h | simpa using h)
  have B38 := Lib.hid (B32.out.alloc (by have h := B32.out.size; first | exact h | omega | (simp at h ⊢; omega)) (.cells #[.string ⟨#[]⟩, .string ⟨#[]⟩, .string ⟨#[]⟩, .string ⟨#[]⟩, .int .i64 0, .int .i64 0, .int .i64 0, .int .i64 0, .int .i64 0] 37))
  have G39 : Hid (w.heap.size ≤ w3.heap.size) := Lib.hid (by have h := B32.out.size; first | exact h | omega | (simp at h ⊢; omega))
  have K40 : Hid (Blk ((w3.alloc (.cells #[.string ⟨#[]⟩, .string ⟨#[]⟩, .string ⟨#[]⟩, .string ⟨#[]⟩, .int .i64 0, .int .i64 0, .int .i64 0, .int .i64 0, .int .i64 0] 37)).setRow w3.heap.size #[.string ⟨#[]⟩, .string ⟨#[]⟩, .string ⟨#[]⟩, .string ⟨#[]⟩, .int .i64 (-1), .int .i64 0, .int .i64 65535, .int .i64 0, .int .i64 65535]) w1.heap.size 24 #[.string s1, .string s2, .int .i64 17, .int .i64 53, .int .i64 80]) := Lib.hid ((setRow_other _ _ _ _ (N34.out)).trans K33.out)
  have K41 : Hid (Blk ((w3.alloc (.cells #[.string ⟨#[]⟩, .string ⟨#[]⟩, .string ⟨#[]⟩, .string ⟨#[]⟩, .int .i64 0, .int .i64 0, .int .i64 0, .int .i64 0, .int .i64 0] 37)).setRow w3.heap.size #[.string ⟨#[]⟩, .string ⟨#[]⟩, .string ⟨#[]⟩, .string ⟨#[]⟩, .int .i64 (-1), .int .i64 0, .int .i64 65535, .int .i64 0, .int .i64 65535]) w2.heap.size 37 #[.string ⟨#[]⟩, .string ⟨#[]⟩, .string ⟨#[]⟩, .string ⟨#[]⟩, .int .i64 17, .int .i64 53, .int .i64 53, .int .i64 0, .int .i64 65535]) := Lib.hid ((setRow_other _ _ _ _ (N36.out)).trans K35.out)
  have K42 : Hid (Blk ((w3.alloc (.cells #[.string ⟨#[]⟩, .string ⟨#[]⟩, .string ⟨#[]⟩, .string ⟨#[]⟩, .int .i64 0, .int .i64 0, .int .i64 0, .int .i64 0, .int .i64 0] 37)).setRow w3.heap.size #[.string ⟨#[]⟩, .string ⟨#[]⟩, .string ⟨#[]⟩, .string ⟨#[]⟩, .int .i64 (-1), .int .i64 0, .int .i64 65535, .int .i64 0, .int .i64 65535]) w3.heap.size 37 #[.string ⟨#[]⟩, .string ⟨#[]⟩, .string ⟨#[]⟩, .string ⟨#[]⟩, .int .i64 (-1), .int .i64 0, .int .i64 65535, .int .i64 0, .int .i64 65535]) := Lib.hid (setRow_heap _ _ _ #[.string ⟨#[]⟩, .string ⟨#[]⟩, .string ⟨#[]⟩, .string ⟨#[]⟩, .int .i64 (-1), .int .i64 0, .int .i64 65535, .int .i64 0, .int .i64 65535] _ _ K37.out)
  have B43 := Lib.hid (setRow_bel (g := w3.heap.size) B38.out G39.out #[.string ⟨#[]⟩, .string ⟨#[]⟩, .string ⟨#[]⟩, .string ⟨#[]⟩, .int .i64 (-1), .int .i64 0, .int .i64 65535, .int .i64 0, .int .i64 65535])
  have K44 : Hid (Blk (((w3.alloc (.cells #[.string ⟨#[]⟩, .string ⟨#[]⟩, .string ⟨#[]⟩, .string ⟨#[]⟩, .int .i64 0, .int .i64 0, .int .i64 0, .int .i64 0, .int .i64 0] 37)).setRow w3.heap.size #[.string ⟨#[]⟩, .string ⟨#[]⟩, .string ⟨#[]⟩, .string ⟨#[]⟩, .int .i64 (-1), .int .i64 0, .int .i64 65535, .int .i64 0, .int .i64 65535]).setRow w3.heap.size #[.string ⟨#[]⟩, .string ⟨#[]⟩, .string ⟨#[]⟩, .string ⟨#[]⟩, .int .i64 (-1), .int .i64 54, .int .i64 60, .int .i64 0, .int .i64 65535]) w1.heap.size 24 #[.string s1, .string s2, .int .i64 17, .int .i64 53, .int .i64 80]) := Lib.hid ((setRow_other _ _ _ _ (N34.out)).trans K40.out)
  have K45 : Hid (Blk (((w3.alloc (.cells #[.string ⟨#[]⟩, .string ⟨#[]⟩, .string ⟨#[]⟩, .string ⟨#[]⟩, .int .i64 0, .int .i64 0, .int .i64 0, .int .i64 0, .int .i64 0] 37)).setRow w3.heap.size #[.string ⟨#[]⟩, .string ⟨#[]⟩, .string ⟨#[]⟩, .string ⟨#[]⟩, .int .i64 (-1), .int .i64 0, .int .i64 65535, .int .i64 0, .int .i64 65535]).setRow w3.heap.size #[.string ⟨#[]⟩, .string ⟨#[]⟩, .string ⟨#[]⟩, .string ⟨#[]⟩, .int .i64 (-1), .int .i64 54, .int .i64 60, .int .i64 0, .int .i64 65535]) w2.heap.size 37 #[.string ⟨#[]⟩, .string ⟨#[]⟩, .string ⟨#[]⟩, .string ⟨#[]⟩, .int .i64 17, .int .i64 53, .int .i64 53, .int .i64 0, .int .i64 65535]) := Lib.hid ((setRow_other _ _ _ _ (N36.out)).trans K41.out)
  have K46 : Hid (Blk (((w3.alloc (.cells #[.string ⟨#[]⟩, .string ⟨#[]⟩, .string ⟨#[]⟩, .string ⟨#[]⟩, .int .i64 0, .int .i64 0, .int .i64 0, .int .i64 0, .int .i64 0] 37)).setRow w3.heap.size #[.string ⟨#[]⟩, .string ⟨#[]⟩, .string ⟨#[]⟩, .string ⟨#[]⟩, .int .i64 (-1), .int .i64 0, .int .i64 65535, .int .i64 0, .int .i64 65535]).setRow w3.heap.size #[.string ⟨#[]⟩, .string ⟨#[]⟩, .string ⟨#[]⟩, .string ⟨#[]⟩, .int .i64 (-1), .int .i64 54, .int .i64 60, .int .i64 0, .int .i64 65535]) w3.heap.size 37 #[.string ⟨#[]⟩, .string ⟨#[]⟩, .string ⟨#[]⟩, .string ⟨#[]⟩, .int .i64 (-1), .int .i64 54, .int .i64 60, .int .i64 0, .int .i64 65535]) := Lib.hid (setRow_heap _ _ _ #[.string ⟨#[]⟩, .string ⟨#[]⟩, .string ⟨#[]⟩, .string ⟨#[]⟩, .int .i64 (-1), .int .i64 54, .int .i64 60, .int .i64 0, .int .i64 65535] _ _ K42.out)
  have B47 := Lib.hid (setRow_bel (g := w3.heap.size) B43.out G39.out #[.string ⟨#[]⟩, .string ⟨#[]⟩, .string ⟨#[]⟩, .string ⟨#[]⟩, .int .i64 (-1), .int .i64 54, .int .i64 60, .int .i64 0, .int .i64 65535])
  go_wp2_with (first | (refine Store.at_store 37 (.tmp 4) (.tmp 14) ?_ ?_; exact rfl; refine wpList_store_row rfl 37 (.tmp 4) (.tmp 14) rfl w3.heap.size #[.string ⟨#[]⟩, .string ⟨#[]⟩, .string ⟨#[]⟩, .string ⟨#[]⟩, .int .i64 (-1), .int .i64 0, .int .i64 65535, .int .i64 0, .int .i64 65535] rfl rfl 37 _ K37.out (by kernel_rfl) rfl (oneP _ _ _ _ _ _ _ _ _) ?_) | (refine Store.at_store 35 (.tmp 16) (.tmp 15) ?_ ?_; exact rfl; refine Store.wpList_store_two rfl 35 (.tmp 16) (.tmp 15) rfl w3.heap.size 5 (.int .i64 54) (.int .i64 60) rfl rfl 37 _ K42.out (by simp) (by kernel_rfl) rfl rfl #[.string ⟨#[]⟩, .string ⟨#[]⟩, .string ⟨#[]⟩, .string ⟨#[]⟩, .int .i64 (-1), .int .i64 54, .int .i64 60, .int .i64 0, .int .i64 65535] rfl ?_))
  generalize (((w3.alloc (.cells #[.string ⟨#[]⟩, .string ⟨#[]⟩, .string ⟨#[]⟩, .string ⟨#[]⟩, .int .i64 0, .int .i64 0, .int .i64 0, .int .i64 0, .int .i64 0] 37)).setRow w3.heap.size #[.string ⟨#[]⟩, .string ⟨#[]⟩, .string ⟨#[]⟩, .string ⟨#[]⟩, .int .i64 (-1), .int .i64 0, .int .i64 65535, .int .i64 0, .int .i64 65535]).setRow w3.heap.size #[.string ⟨#[]⟩, .string ⟨#[]⟩, .string ⟨#[]⟩, .string ⟨#[]⟩, .int .i64 (-1), .int .i64 54, .int .i64 60, .int .i64 0, .int .i64 65535]) = w4 at *
  have Xf : Hid (∀ V, Below w4.drew.heap.size w4.drew V → Blk V w1.heap.size 24 #[.string s1, .string s2, .int .i64 17, .int .i64 53, .int .i64 80]) := Lib.hid fun V hV => Blk.below (show Blk w4.drew w1.heap.size 24 #[.string s1, .string s2, .int .i64 17, .int .i64 53, .int .i64 80] from K44.out) hV (Blk.lt K44.out)
  have Xp : Hid (∀ V, Below w4.drew.heap.size w4.drew V → Blk V w2.heap.size 37 #[.string ⟨#[]⟩, .string ⟨#[]⟩, .string ⟨#[]⟩, .string ⟨#[]⟩, .int .i64 17, .int .i64 53, .int .i64 53, .int .i64 0, .int .i64 65535]) := Lib.hid fun V hV => Blk.below (show Blk w4.drew w2.heap.size 37 #[.string ⟨#[]⟩, .string ⟨#[]⟩, .string ⟨#[]⟩, .string ⟨#[]⟩, .int .i64 17, .int .i64 53, .int .i64 53, .int .i64 0, .int .i64 65535] from K45.out) hV (Blk.lt K45.out)
  have Xq : Hid (∀ V, Below w4.drew.heap.size w4.drew V → Blk V w3.heap.size 37 #[.string ⟨#[]⟩, .string ⟨#[]⟩, .string ⟨#[]⟩, .string ⟨#[]⟩, .int .i64 (-1), .int .i64 54, .int .i64 60, .int .i64 0, .int .i64 65535]) := Lib.hid fun V hV => Blk.below (show Blk w4.drew w3.heap.size 37 #[.string ⟨#[]⟩, .string ⟨#[]⟩, .string ⟨#[]⟩, .string ⟨#[]⟩, .int .i64 (-1), .int .i64 54, .int .i64 60, .int .i64 0, .int .i64 65535] from K46.out) hV (Blk.lt K46.out)
  refine wp_region_freeP [0, 1, 2, 3, 4, 5, 6, 7, 8, 9, 10, 11, 12, 13, 14, 15, 16, 17, 18, 19, 20, 21, 22, 23, 24, 25, 26, 27, 28] 29 [] [(3, true), (7, true), (12, true), (17, true), (23, true)] (fun w1 w2 => Below w1.heap.size w1 w2) (fun k' w' v => match k' with
    | 0 => v = .agg #[.string s1, .string s2, .int .i64 17, .int .i64 53, .int .i64 80]
    | 1 => v = .agg #[.string s1, .string s2, .int .i64 17, .int .i64 53, .int .i64 80]
    | 2 => v = .bool true
    | 3 => v = .bool true
    | 4 => v = .int .i64 0
    | 5 => v = .bool true
    | 6 => v = .bool true
    | 7 => v = .bool true
    | 8 => v = .agg #[.string ⟨#[]⟩, .string ⟨#[]⟩, .string ⟨#[]⟩, .string ⟨#[]⟩, .int .i64 (-1), .int .i64 0, .int .i64 65535, .int .i64 0, .int .i64 65535]
    | 9 => v = .agg #[.string s1, .string s2, .int .i64 17, .int .i64 53, .int .i64 80]
    | 10 => v = .bool true
    | 11 => v = .bool true
    | 12 => v = .bool true
    | 13 => v = .agg #[.string ⟨#[]⟩, .string ⟨#[]⟩, .string ⟨#[]⟩, .string ⟨#[]⟩, .int .i64 17, .int .i64 53, .int .i64 53, .int .i64 0, .int .i64 65535]
    | 14 => v = .agg #[.string s1, .string s2, .int .i64 17, .int .i64 53, .int .i64 80]
    | 15 => v = .bool true
    | 16 => v = .bool true
    | 17 => v = .bool true
    | 18 => v = .agg #[.string ⟨#[]⟩, .string ⟨#[]⟩, .string ⟨#[]⟩, .string ⟨#[]⟩, .int .i64 (-1), .int .i64 54, .int .i64 60, .int .i64 0, .int .i64 65535]
    | 19 => v = .agg #[.string s1, .string s2, .int .i64 17, .int .i64 53, .int .i64 80]
    | 20 => v = .bool false
    | 21 => v = .bool true
    | 22 => v = .bool true
    | 23 => v = .bool true
    | 24 => v = .agg #[.string ⟨#[]⟩, .string ⟨#[]⟩, .string ⟨#[]⟩, .string ⟨#[]⟩, .int .i64 17, .int .i64 53, .int .i64 53, .int .i64 0, .int .i64 65535]
    | 25 => v = .int .i64 0
    | 26 => v = .int .i64 0
    | 27 => v = .bool true
    | _ => v = .bool true) (by kernel_rfl) (by kernel_rfl) (fun q hq w v hv => ?_) (Below.refl _ _) (fun _ _ _ h k => h.trans (k.mono h.size)) (fun k' w1 w2 v h => match k' with
    | 0 => fun x => x
    | 1 => fun x => x
    | 2 => fun x => x
    | 3 => fun x => x
    | 4 => fun x => x
    | 5 => fun x => x
    | 6 => fun x => x
    | 7 => fun x => x
    | 8 => fun x => x
    | 9 => fun x => x
    | 10 => fun x => x
    | 11 => fun x => x
    | 12 => fun x => x
    | 13 => fun x => x
    | 14 => fun x => x
    | 15 => fun x => x
    | 16 => fun x => x
    | 17 => fun x => x
    | 18 => fun x => x
    | 19 => fun x => x
    | 20 => fun x => x
    | 21 => fun x => x
    | 22 => fun x => x
    | 23 => fun x => x
    | 24 => fun x => x
    | 25 => fun x => x
    | 26 => fun x => x
    | 27 => fun x => x
    | _ + 28 => fun x => x) (fun _ _ _ _ _ h => h) ?_ _ (by rfl) ?_
  · simp only [List.mem_cons, List.not_mem_nil, or_false] at hq
    rcases hq with rfl | rfl | rfl | rfl | rfl <;> exact hv
  · refine obs_cons (by rfl) (fun vals w' hgr hdep K hK => ?_) (obs_cons (by rfl) (fun vals w' hgr hdep K hK => ?_) (obs_cons (by rfl) (fun vals w' hgr hdep K hK => ?_) (obs_cons (by rfl) (fun vals w' hgr hdep K hK => ?_) (obs_cons (by rfl) (fun vals w' hgr hdep K hK => ?_) (obs_cons (by rfl) (fun vals w' hgr hdep K hK => ?_) (obs_cons (by rfl) (fun vals w' hgr hdep K hK => ?_) (obs_cons (by rfl) (fun vals w' hgr hdep K hK => ?_) (obs_cons (by rfl) (fun vals w' hgr hdep K hK => ?_) (obs_cons (by rfl) (fun vals w' hgr hdep K hK => ?_) (obs_cons (by rfl) (fun vals w' hgr hdep K hK => ?_) (obs_cons (by rfl) (fun vals w' hgr hdep K hK => ?_) (obs_cons (by rfl) (fun vals w' hgr hdep K hK => ?_) (obs_cons (by rfl) (fun vals w' hgr hdep K hK => ?_) (obs_cons (by rfl) (fun vals w' hgr hdep K hK => ?_) (obs_cons (by rfl) (fun vals w' hgr hdep K hK => ?_) (obs_cons (by rfl) (fun vals w' hgr hdep K hK => ?_) (obs_cons (by rfl) (fun vals w' hgr hdep K hK => ?_) (obs_cons (by rfl) (fun vals w' hgr hdep K hK => ?_) (obs_cons (by rfl) (fun vals w' hgr hdep K hK => ?_) (obs_cons (by rfl) (fun vals w' hgr hdep K hK => ?_) (obs_cons (by rfl) (fun vals w' hgr hdep K hK => ?_) (obs_cons (by rfl) (fun vals w' hgr hdep K hK => ?_) (obs_cons (by rfl) (fun vals w' hgr hdep K hK => ?_) (obs_cons (by rfl) (fun vals w' hgr hdep K hK => ?_) (obs_cons (by rfl) (fun vals w' hgr hdep K hK => ?_) (obs_cons (by rfl) (fun vals w' hgr hdep K hK => ?_) (obs_cons (by rfl) (fun vals w' hgr hdep K hK => ?_) (obs_cons (by rfl) (fun vals w' hgr hdep K hK => ?_) (obs_nil)))))))))))))))))))))))))))))
    · exact st_load_row 24 (.tmp 1) rfl w1.heap.size (at_out _ (by kernel_rfl) rfl) 24 #[.string s1, .string s2, .int .i64 17, .int .i64 53, .int .i64 80] (0, 0) _ (Xf.out w' hgr) Try.underlying24 rfl (by kernel_rfl) (hK _ _ (Below.refl _ _) rfl)
    · exact wp_value (.agg #[.string s1, .string s2, .int .i64 17, .int .i64 53, .int .i64 80]) (by kernel_rfl) (hK _ _ (Below.refl _ _) rfl)
    · exact wp_bin (.tmp 17) (.tmp 18) rfl _ _ _ ((at_dst 0 (by kernel_rfl)).trans (hdep 0 (by simp) (by kernel_rfl))) ((at_dst 1 (by kernel_rfl)).trans (hdep 1 (by simp) (by kernel_rfl))) (b_eqF _ _ _ _ _ _ _ _) (hK _ _ (Below.refl _ _) rfl)
    · exact wp_move (.tmp 19) rfl _ ((at_dst 2 (by kernel_rfl)).trans (hdep 2 (by simp) (by kernel_rfl))) (hK _ _ (Below.refl _ _) rfl)
    · exact wp_move (.tmp 2) rfl _ (at_out _ (by kernel_rfl) rfl) (hK _ _ (Below.refl _ _) rfl)
    · exact wp_bin (.tmp 21) (.const (.int .i64 0)) rfl _ _ _ ((at_dst 4 (by kernel_rfl)).trans (hdep 4 (by simp) (by kernel_rfl))) rfl (Draw.b_eqe _ _ _ _) (hK _ _ (Below.refl _ _) rfl)
    · exact Draw.st_pick (.tmp 20) (.tmp 22) _ rfl _ ((at_dst 3 (by kernel_rfl)).trans (hdep 3 (by simp) (by kernel_rfl))) ((at_dst 5 (by kernel_rfl)).trans (hdep 5 (by simp) (by kernel_rfl))) (hK _ _ (Below.refl _ _) rfl)
    · exact wp_move (.tmp 23) rfl _ ((at_dst 6 (by kernel_rfl)).trans (hdep 6 (by simp) (by kernel_rfl))) (hK _ _ (Below.refl _ _) rfl)
    · exact wp_call 16 [] _ rfl ent_every [] rfl (fun v w'' => v = .agg #[.string ⟨#[]⟩, .string ⟨#[]⟩, .string ⟨#[]⟩, .string ⟨#[]⟩, .int .i64 (-1), .int .i64 0, .int .i64 65535, .int .i64 0, .int .i64 65535] ∧ Below w'.heap.size w' w'') ((every_code w').mono fun e w'' ⟨h1, h2⟩ => ⟨_, h1, rfl, h2⟩) (fun v w'' ⟨h1, h2⟩ => hK _ _ h2 h1)
    · exact st_load_row 24 (.tmp 1) rfl w1.heap.size (at_out _ (by kernel_rfl) rfl) 24 #[.string s1, .string s2, .int .i64 17, .int .i64 53, .int .i64 80] (0, 0) _ (Xf.out w' hgr) Try.underlying24 rfl (by kernel_rfl) (hK _ _ (Below.refl _ _) rfl)
    · exact wp_call 14 [.tmp 25, .tmp 26] _ rfl ent_matches [.agg #[.string ⟨#[]⟩, .string ⟨#[]⟩, .string ⟨#[]⟩, .string ⟨#[]⟩, .int .i64 (-1), .int .i64 0, .int .i64 65535, .int .i64 0, .int .i64 65535], .agg #[.string s1, .string s2, .int .i64 17, .int .i64 53, .int .i64 80]] (Draw.list2 ((at_dst 8 (by kernel_rfl)).trans (hdep 8 (by simp) (by kernel_rfl))) ((at_dst 9 (by kernel_rfl)).trans (hdep 9 (by simp) (by kernel_rfl)))) (fun v w'' => v = .bool true ∧ Below w'.heap.size w' w'') ((mat_is ⟨⟨#[]⟩, ⟨#[]⟩, ⟨#[]⟩, ⟨#[]⟩, (-1), 0, 65535, 0, 65535⟩ ⟨s1, s2, 17, 53, 80⟩ _ ex_m.1 w').mono fun e w'' ⟨h1, h2⟩ => ⟨_, h1, rfl, h2⟩) (fun v w'' ⟨h1, h2⟩ => hK _ _ h2 h1)
    · exact Draw.st_pick (.tmp 24) (.tmp 27) _ rfl _ ((at_dst 7 (by kernel_rfl)).trans (hdep 7 (by simp) (by kernel_rfl))) ((at_dst 10 (by kernel_rfl)).trans (hdep 10 (by simp) (by kernel_rfl))) (hK _ _ (Below.refl _ _) rfl)
    · exact wp_move (.tmp 28) rfl _ ((at_dst 11 (by kernel_rfl)).trans (hdep 11 (by simp) (by kernel_rfl))) (hK _ _ (Below.refl _ _) rfl)
    · exact st_load_row 37 (.tmp 3) rfl w2.heap.size (at_out _ (by kernel_rfl) rfl) 37 #[.string ⟨#[]⟩, .string ⟨#[]⟩, .string ⟨#[]⟩, .string ⟨#[]⟩, .int .i64 17, .int .i64 53, .int .i64 53, .int .i64 0, .int .i64 65535] (0, 0) _ (Xp.out w' hgr) Try.underlying37 rfl (by kernel_rfl) (hK _ _ (Below.refl _ _) rfl)
    · exact st_load_row 24 (.tmp 1) rfl w1.heap.size (at_out _ (by kernel_rfl) rfl) 24 #[.string s1, .string s2, .int .i64 17, .int .i64 53, .int .i64 80] (0, 0) _ (Xf.out w' hgr) Try.underlying24 rfl (by kernel_rfl) (hK _ _ (Below.refl _ _) rfl)
    · exact wp_call 14 [.tmp 30, .tmp 31] _ rfl ent_matches [.agg #[.string ⟨#[]⟩, .string ⟨#[]⟩, .string ⟨#[]⟩, .string ⟨#[]⟩, .int .i64 17, .int .i64 53, .int .i64 53, .int .i64 0, .int .i64 65535], .agg #[.string s1, .string s2, .int .i64 17, .int .i64 53, .int .i64 80]] (Draw.list2 ((at_dst 13 (by kernel_rfl)).trans (hdep 13 (by simp) (by kernel_rfl))) ((at_dst 14 (by kernel_rfl)).trans (hdep 14 (by simp) (by kernel_rfl)))) (fun v w'' => v = .bool true ∧ Below w'.heap.size w' w'') ((mat_is ⟨⟨#[]⟩, ⟨#[]⟩, ⟨#[]⟩, ⟨#[]⟩, 17, 53, 53, 0, 65535⟩ ⟨s1, s2, 17, 53, 80⟩ _ ex_m.2.1 w').mono fun e w'' ⟨h1, h2⟩ => ⟨_, h1, rfl, h2⟩) (fun v w'' ⟨h1, h2⟩ => hK _ _ h2 h1)
    · exact Draw.st_pick (.tmp 29) (.tmp 32) _ rfl _ ((at_dst 12 (by kernel_rfl)).trans (hdep 12 (by simp) (by kernel_rfl))) ((at_dst 15 (by kernel_rfl)).trans (hdep 15 (by simp) (by kernel_rfl))) (hK _ _ (Below.refl _ _) rfl)
    · exact wp_move (.tmp 33) rfl _ ((at_dst 16 (by kernel_rfl)).trans (hdep 16 (by simp) (by kernel_rfl))) (hK _ _ (Below.refl _ _) rfl)
    · exact st_load_row 37 (.tmp 4) rfl w3.heap.size (at_out _ (by kernel_rfl) rfl) 37 #[.string ⟨#[]⟩, .string ⟨#[]⟩, .string ⟨#[]⟩, .string ⟨#[]⟩, .int .i64 (-1), .int .i64 54, .int .i64 60, .int .i64 0, .int .i64 65535] (0, 0) _ (Xq.out w' hgr) Try.underlying37 rfl (by kernel_rfl) (hK _ _ (Below.refl _ _) rfl)
    · exact st_load_row 24 (.tmp 1) rfl w1.heap.size (at_out _ (by kernel_rfl) rfl) 24 #[.string s1, .string s2, .int .i64 17, .int .i64 53, .int .i64 80] (0, 0) _ (Xf.out w' hgr) Try.underlying24 rfl (by kernel_rfl) (hK _ _ (Below.refl _ _) rfl)
    · exact wp_call 14 [.tmp 35, .tmp 36] _ rfl ent_matches [.agg #[.string ⟨#[]⟩, .string ⟨#[]⟩, .string ⟨#[]⟩, .string ⟨#[]⟩, .int .i64 (-1), .int .i64 54, .int .i64 60, .int .i64 0, .int .i64 65535], .agg #[.string s1, .string s2, .int .i64 17, .int .i64 53, .int .i64 80]] (Draw.list2 ((at_dst 18 (by kernel_rfl)).trans (hdep 18 (by simp) (by kernel_rfl))) ((at_dst 19 (by kernel_rfl)).trans (hdep 19 (by simp) (by kernel_rfl)))) (fun v w'' => v = .bool false ∧ Below w'.heap.size w' w'') ((mat_is ⟨⟨#[]⟩, ⟨#[]⟩, ⟨#[]⟩, ⟨#[]⟩, (-1), 54, 60, 0, 65535⟩ ⟨s1, s2, 17, 53, 80⟩ _ ex_m.2.2.1 w').mono fun e w'' ⟨h1, h2⟩ => ⟨_, h1, rfl, h2⟩) (fun v w'' ⟨h1, h2⟩ => hK _ _ h2 h1)
    · exact Draw.st_not (.tmp 37) rfl _ ((at_dst 20 (by kernel_rfl)).trans (hdep 20 (by simp) (by kernel_rfl))) (hK _ _ (Below.refl _ _) rfl)
    · exact Draw.st_pick (.tmp 34) (.tmp 38) _ rfl _ ((at_dst 17 (by kernel_rfl)).trans (hdep 17 (by simp) (by kernel_rfl))) ((at_dst 21 (by kernel_rfl)).trans (hdep 21 (by simp) (by kernel_rfl))) (hK _ _ (Below.refl _ _) rfl)
    · exact wp_move (.tmp 39) rfl _ ((at_dst 22 (by kernel_rfl)).trans (hdep 22 (by simp) (by kernel_rfl))) (hK _ _ (Below.refl _ _) rfl)
    · exact st_load_row 37 (.tmp 3) rfl w2.heap.size (at_out _ (by kernel_rfl) rfl) 37 #[.string ⟨#[]⟩, .string ⟨#[]⟩, .string ⟨#[]⟩, .string ⟨#[]⟩, .int .i64 17, .int .i64 53, .int .i64 53, .int .i64 0, .int .i64 65535] (0, 0) _ (Xp.out w' hgr) Try.underlying37 rfl (by kernel_rfl) (hK _ _ (Below.refl _ _) rfl)
    · exact wp_call 15 [.tmp 41] _ rfl ent_check [.agg #[.string ⟨#[]⟩, .string ⟨#[]⟩, .string ⟨#[]⟩, .string ⟨#[]⟩, .int .i64 17, .int .i64 53, .int .i64 53, .int .i64 0, .int .i64 65535]] (Draw.list1 ((at_dst 24 (by kernel_rfl)).trans (hdep 24 (by simp) (by kernel_rfl)))) (fun v w'' => v = .int .i64 0 ∧ Below w'.heap.size w' w'') ((chk_is ⟨⟨#[]⟩, ⟨#[]⟩, ⟨#[]⟩, ⟨#[]⟩, 17, 53, 53, 0, 65535⟩ _ ex_m.2.2.2 w').mono fun e w'' ⟨h1, h2⟩ => ⟨_, h1, rfl, h2⟩) (fun v w'' ⟨h1, h2⟩ => hK _ _ h2 h1)
    · exact wp_move (.tmp 2) rfl _ (at_out _ (by kernel_rfl) rfl) (hK _ _ (Below.refl _ _) rfl)
    · exact wp_bin (.tmp 42) (.tmp 43) rfl _ _ _ ((at_dst 25 (by kernel_rfl)).trans (hdep 25 (by simp) (by kernel_rfl))) ((at_dst 26 (by kernel_rfl)).trans (hdep 26 (by simp) (by kernel_rfl))) (Draw.b_eqe _ _ _ _) (hK _ _ (Below.refl _ _) rfl)
    · exact Draw.st_pick (.tmp 40) (.tmp 44) _ rfl _ ((at_dst 23 (by kernel_rfl)).trans (hdep 23 (by simp) (by kernel_rfl))) ((at_dst 27 (by kernel_rfl)).trans (hdep 27 (by simp) (by kernel_rfl))) (hK _ _ (Below.refl _ _) rfl)
  · intro vals w' hgr hG
    have ev : vals 28 = .bool true := hG 28 (by simp)
    refine st_assign (.tmp 45) _ rfl (at_dst 28 (by kernel_rfl)) (wpAnyH_done (by kernel_rfl) ?_ _)
    have BF := Lib.hid (B47.out.trans ((Draw.below_1 hgr).mono B47.out.size))
    clear hG hgr
    simp only [fill, dstAt, List.getElem?_cons_zero, List.getElem?_cons_succ, Option.bind_some, Act.put, List.setIfInBounds_toArray, List.set_cons_zero, List.set_cons_succ]
    rw [ev]
    clear ev
    generalize vals 0 = y0, vals 1 = y1, vals 2 = y2, vals 3 = y3, vals 4 = y4, vals 5 = y5, vals 6 = y6, vals 7 = y7, vals 8 = y8, vals 9 = y9, vals 10 = y10, vals 11 = y11, vals 12 = y12, vals 13 = y13, vals 14 = y14, vals 15 = y15, vals 16 = y16, vals 17 = y17, vals 18 = y18, vals 19 = y19, vals 20 = y20, vals 21 = y21, vals 22 = y22, vals 23 = y23, vals 24 = y24, vals 25 = y25, vals 26 = y26, vals 27 = y27 at *
    generalize w' = wz at *
    go_wp2_with fail
    go_ret
    exact ⟨rfl, BF.out⟩
end Go.Proofs.Ytijlggfcinnfeaa.PickA
