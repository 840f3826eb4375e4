/- The examples. -/
import Derived.Test.YtmomkjgnopcobaaSpd5
import Derived.Test.YtmomkjgnopcobaaSpd7
import Derived.Test.YtmomkjgnopcobaaSpd8
import Derived.Test.YtmomkjgnopcobaaPickR3
set_option linter.unusedVariables false
namespace Go.Proofs.Ytmomkjgnopcobaa.SpdA
open Go.RowKit Go.Proofs.Ytmomkjgnopcobaa.Mem Go.Proofs.Ytmomkjgnopcobaa.Blk Go.Proofs.Ytmomkjgnopcobaa.Ahead Go.Proofs.Ytmomkjgnopcobaa.PickD Go.Proofs.Ytmomkjgnopcobaa.PickR1 Go.Proofs.Ytmomkjgnopcobaa.PickR2 Go.Proofs.Ytmomkjgnopcobaa.Pick1 Go.Proofs.Ytmomkjgnopcobaa.Pick2 Go.Proofs.Ytmomkjgnopcobaa.Pick3 Go.Proofs.Ytmomkjgnopcobaa.Pick4 Go.Proofs.Ytmomkjgnopcobaa.Free Go.Proofs.Ytmomkjgnopcobaa.Steps Go.Proofs.Ytmomkjgnopcobaa.Regs Go.Proofs.Ytmomkjgnopcobaa.ArgT Go.Proofs.Ytmomkjgnopcobaa.MapK Go.Proofs.Ytmomkjgnopcobaa.Quest Go.Proofs.Ytmomkjgnopcobaa.RowN Go.Proofs.Ytmomkjgnopcobaa.SpdD Go.Proofs.Ytmomkjgnopcobaa.Spd1 Go.Proofs.Ytmomkjgnopcobaa.Spd3 Go.Proofs.Ytmomkjgnopcobaa.Spd4 Go.Proofs.Ytmomkjgnopcobaa.Spd5 Go.Proofs.Ytmomkjgnopcobaa.Spd6 Go.Proofs.Ytmomkjgnopcobaa.Spd7 Go.Proofs.Ytmomkjgnopcobaa.Spd8 Go.Proofs.Ytmomkjgnopcobaa.Com

def ruleR (p a : Int) : RuleR := ⟨0, ⟨#[]⟩, ⟨#[]⟩, ⟨#[]⟩, ⟨#[]⟩, p, 0, 65535, 0, 65535, true, false, a, false, ⟨#[]⟩, ⟨#[]⟩⟩
theorem rule_ok (p a : Int) : Ok (ruleR p a) := by
  have h : (⟨#[]⟩ : ByteArray).size ≤ 140737488355328 := by decide
  exact ⟨h, h, h, h, h, h⟩
theorem rule_code (p a : Int) (w : World) : Calls Try.prog 25 #[.int .i64 p, .int .i64 a] w fun e w' => e = .returned (.agg (RA (ruleR p a))) ∧ Below w.heap.size w w' := by
  have J0 := Lib.hid (Blk.new w 35 #[.int .i64 0, .string ⟨#[]⟩, .string ⟨#[]⟩, .string ⟨#[]⟩, .string ⟨#[]⟩, .int .i64 0, .int .i64 0, .int .i64 0, .int .i64 0, .int .i64 0, .bool false, .bool false, .int .i64 0, .bool false, .string ⟨#[]⟩, .string ⟨#[]⟩])
  have B0 := Lib.hid ((Below.refl w.heap.size w).alloc (Nat.le_refl _) (.cells #[.int .i64 0, .string ⟨#[]⟩, .string ⟨#[]⟩, .string ⟨#[]⟩, .string ⟨#[]⟩, .int .i64 0, .int .i64 0, .int .i64 0, .int .i64 0, .int .i64 0, .bool false, .bool false, .int .i64 0, .bool false, .string ⟨#[]⟩, .string ⟨#[]⟩] 35))
  have one := Lib.hid (all_ra (ruleR p a))
  go_enter Try.func25, Try.ntmps25
  go_wp2_with (refine wpList_store_row rfl 35 (.tmp 4) (.tmp 10) rfl w.heap.size (RA (ruleR p a)) rfl rfl 35 _ J0.out (by kernel_rfl) rfl one.out ?_)
  exact bodyPost_ret (results_cell_row rfl _ _ w.heap.size 35 (RA (ruleR p a)) (0, 0) _ rfl (setRow_heap _ _ _ _ _ _ J0.out) Try.underlying35 rfl (by kernel_rfl)) rfl ⟨rfl, Com.setRow_bel B0.out (Nat.le_refl _) _⟩
theorem add_is (F : Nat → Prop) (gs : Nat) (rs : List RuleR) (at_ : Int) (r : RuleR) (x : Int) (l : List RuleR) (hx : addE rs at_ r = x) (hl : addL rs at_ r = l) (w : World) (h : SpdAt F w gs rs) (hF : ∀ k, F k → k < w.heap.size) (hr : Ok r) :
    Calls Try.prog 10 #[.pointer (some ⟨gs, 0, none⟩), .int .i64 at_, .agg (RA r)] w fun e w' => e = .returned (.int .i64 x) ∧ SpdAt F w' gs l ∧ Keep F w w' := by
  subst hx hl
  exact add_code F gs rs at_ r w h hF hr
theorem find_is (F : Nat → Prop) (gs : Nat) (rs : List RuleR) (q : Qu) (x y : Int) (hx : findI rs q = x) (hy : findE rs q = y) (w : World) (h : SpdAt F w gs rs) (h1 : q.here.size ≤ maxT) (h2 : q.there.size ≤ maxT) :
    Calls Try.prog 12 #[.pointer (some ⟨gs, 0, none⟩), .agg (FA q), .bool q.out] w fun e w' => e = .returned (.tuple #[.int .i64 x, .int .i64 y]) ∧ SpdAt F w' gs rs ∧ Keep F w w' := by
  subst hx hy
  exact find_code F gs rs q w h h1 h2
def s1 : ByteArray := ⟨#[97, 98, 99, 100]⟩
def s2 : ByteArray := ⟨#[101, 102, 103, 104]⟩
def q1 : Qu := ⟨s1, s2, 17, 1, 2, true⟩
def q2 : Qu := ⟨s1, s2, 6, 1, 2, true⟩
def q3 : Qu := ⟨s1, s2, 6, 1, 2, false⟩
theorem emp_nil : emp ⟨#[]⟩ = true := by unfold emp; rw [ByteArray.toList_eq]; rfl
theorem ex_add : addE [] 0 (ruleR (-1) 2) = 0 ∧ addE [ruleR (-1) 2] 0 (ruleR 17 1) = 0 := by
  refine ⟨?_, ?_⟩ <;> simp [addE, chkR, mayR, ruleR, pkR, mayP, spanB, emp_nil, portsB, endsB]
theorem ex_addL : addL [] 0 (ruleR (-1) 2) = [ruleR (-1) 2] ∧ addL [ruleR (-1) 2] 0 (ruleR 17 1) = [ruleR 17 1, ruleR (-1) 2] := by
  refine ⟨?_, ?_⟩
  · unfold addL; rw [ex_add.1]; rfl
  · unfold addL; rw [ex_add.2]; rfl
theorem ex_ap : apB (ruleR 17 1) q1 = true ∧ apB (ruleR 17 1) q2 = false ∧ apB (ruleR (-1) 2) q2 = true ∧ apB (ruleR 17 1) q3 = false ∧ apB (ruleR (-1) 2) q3 = false := by
  refine ⟨?_, ?_, ?_, ?_, ?_⟩ <;> simp [apB, ruleR, q1, q2, q3, pkR, flQ, matB, mayP, spanB, inB, emp_nil, portsB, portB]
theorem ex_first : firstI [ruleR 17 1, ruleR (-1) 2] q1 = 0 ∧ firstI [ruleR 17 1, ruleR (-1) 2] q2 = 1 ∧ firstI [ruleR 17 1, ruleR (-1) 2] q3 = -1 := by
  obtain ⟨a, b, c, d, e⟩ := ex_ap
  refine ⟨?_, ?_, ?_⟩
  · exact first_some (i := 0) (r := ruleR 17 1) rfl a (fun k r' hk => absurd hk (by omega))
  · exact first_some (i := 1) (r := ruleR (-1) 2) rfl c (fun k r' hk hr => by
      obtain rfl : k = 0 := by omega
      cases hr
      exact b)
  · refine first_none fun k r' hk hr => ?_
    match k, hr with
    | 0, hr => cases hr; exact d
    | 1, hr => cases hr; exact e
theorem ex_find : (findI [ruleR 17 1, ruleR (-1) 2] q1 = 0 ∧ findE [ruleR 17 1, ruleR (-1) 2] q1 = 0) ∧ (findI [ruleR 17 1, ruleR (-1) 2] q2 = 1 ∧ findE [ruleR 17 1, ruleR (-1) 2] q2 = 0) ∧ findI [ruleR 17 1, ruleR (-1) 2] q3 = 0 ∧ findE [ruleR 17 1, ruleR (-1) 2] q3 = 6 := by
  unfold findI findE
  rw [ex_first.1, ex_first.2.1, ex_first.2.2]
  decide
theorem ent_awake : Enters Try.prog 14 := enters_of Try.func14 (by kernel_rfl) rfl
set_option maxRecDepth 100000 in
set_option maxHeartbeats 4000000 in
theorem awake_any (w : World) : Calls Try.prog 14 #[] w fun e w' => e = .returned (.bool true) ∧ Below w.heap.size w w' := by
  have NC := Lib.hid (new_code (fun k => k < w.heap.size) w (fun k h => h))
  go_enter Try.func14, Try.ntmps14
  go_wp2_with fail
  refine NC.out.mono ?_
  rintro e w1 ⟨⟨gs, rfl, h1⟩, b1⟩
  have KK1 := Lib.hid (Keep.of (F := (fun k => k < w.heap.size)) b1)
  have H1 := Lib.hid h1
  clear h1 b1 NC
  go_wp2_with fail
  refine (rule_code (-1) 2 _).mono ?_
  rintro e w2 ⟨rfl, b2⟩
  have KK2 := Lib.hid (KK1.out.trans (Keep.of b2))
  have H2 := Lib.hid (H1.out.below b2)
  clear H1 KK1 b2
  go_wp2_with fail
  refine (add_is (fun k => k < w.heap.size) gs [] 0 (ruleR (-1) 2) 0 [ruleR (-1) 2] ex_add.1 ex_addL.1 w2 H2.out (fun k hk => Nat.lt_of_lt_of_le hk KK2.out.size) (rule_ok _ _)).mono ?_
  rintro e w3 ⟨rfl, h3, k3⟩
  have KK3 := Lib.hid (KK2.out.trans k3)
  have H3 := Lib.hid h3
  clear h3 k3 KK2 H2
  go_wp2_with fail
  refine (rule_code 17 1 _).mono ?_
  rintro e w4 ⟨rfl, b4⟩
  have KK4 := Lib.hid (KK3.out.trans (Keep.of b4))
  have H4 := Lib.hid (H3.out.below b4)
  clear H3 KK3 b4
  go_wp2_with fail
  refine (add_is (fun k => k < w.heap.size) gs [ruleR (-1) 2] 0 (ruleR 17 1) 0 [ruleR 17 1, ruleR (-1) 2] ex_add.2 ex_addL.2 w4 H4.out (fun k hk => Nat.lt_of_lt_of_le hk KK4.out.size) (rule_ok _ _)).mono ?_
  rintro e w5 ⟨rfl, h5, k5⟩
  have KK5 := Lib.hid (KK4.out.trans k5)
  have H5 := Lib.hid h5
  clear h5 k5 KK4 H4
  have B1 := Lib.hid (Below.refl w5.heap.size w5)
  have K2 : Hid (Blk (w5.alloc (.cells #[.string ⟨#[]⟩, .string ⟨#[]⟩, .int .i64 0, .int .i64 0, .int .i64 0] 24)) w5.heap.size 24 #[.string ⟨#[]⟩, .string ⟨#[]⟩, .int .i64 0, .int .i64 0, .int .i64 0]) := Lib.hid (by have h := Blk.new w5 24 #[.string ⟨#[]⟩, .string ⟨#[]⟩, .int .i64 0, .int .i64 0, .int .i64 0]; first | exact h | simpa using h)
  have B3 := Lib.hid (B1.out.alloc (by have h := B1.out.size; first | exact h | omega | (simp at h ⊢; omega)) (.cells #[.string ⟨#[]⟩, .string ⟨#[]⟩, .int .i64 0, .int .i64 0, .int .i64 0] 24))
  have G4 : Hid (w5.heap.size ≤ w5.heap.size) := Lib.hid (by have h := B1.out.size; first | exact h | omega | (simp at h ⊢; omega))
  have K5 : Hid (Blk ((w5.alloc (.cells #[.string ⟨#[]⟩, .string ⟨#[]⟩, .int .i64 0, .int .i64 0, .int .i64 0] 24)).setRow w5.heap.size #[.string s1, .string s2, .int .i64 17, .int .i64 1, .int .i64 2]) w5.heap.size 24 #[.string s1, .string s2, .int .i64 17, .int .i64 1, .int .i64 2]) := Lib.hid (setRow_heap _ _ _ #[.string s1, .string s2, .int .i64 17, .int .i64 1, .int .i64 2] _ _ K2.out)
  have B6 := Lib.hid (setRow_bel (g := w5.heap.size) B3.out G4.out #[.string s1, .string s2, .int .i64 17, .int .i64 1, .int .i64 2])
  have K7 : Hid (Blk (((w5.alloc (.cells #[.string ⟨#[]⟩, .string ⟨#[]⟩, .int .i64 0, .int .i64 0, .int .i64 0] 24)).setRow w5.heap.size #[.string s1, .string s2, .int .i64 17, .int .i64 1, .int .i64 2]).alloc (.cells #[.string ⟨#[]⟩, .string ⟨#[]⟩, .int .i64 0, .int .i64 0, .int .i64 0] 24)) w5.heap.size 24 #[.string s1, .string s2, .int .i64 17, .int .i64 1, .int .i64 2]) := Lib.hid (Blk.alloc K5.out _)
  have N8 : Hid (w5.heap.size ≠ (w5.heap.size + 1)) := Lib.hid (by have h := Blk.lt K5.out; first | omega | (simp at h; omega))
  have K9 : Hid (Blk (((w5.alloc (.cells #[.string ⟨#[]⟩, .string ⟨#[]⟩, .int .i64 0, .int .i64 0, .int .i64 0] 24)).setRow w5.heap.size #[.string s1, .string s2, .int .i64 17, .int .i64 1, .int .i64 2]).alloc (.cells #[.string ⟨#[]⟩, .string ⟨#[]⟩, .int .i64 0, .int .i64 0, .int .i64 0] 24)) (w5.heap.size + 1) 24 #[.string ⟨#[]⟩, .string ⟨#[]⟩, .int .i64 0, .int .i64 0, .int .i64 0]) := Lib.hid (by have h := Blk.new ((w5.alloc (.cells #[.string ⟨#[]⟩, .string ⟨#[]⟩, .int .i64 0, .int .i64 0, .int .i64 0] 24)).setRow w5.heap.size #[.string s1, .string s2, .int .i64 17, .int .i64 1, .int .i64 2]) 24 #[.string ⟨#[]⟩, .string ⟨#[]⟩, .int .i64 0, .int .i64 0, .int .i64 0]; first | exact h | simpa using h)
  have B10 := Lib.hid (B6.out.alloc (by have h := B6.out.size; first | exact h | omega | (simp at h ⊢; omega)) (.cells #[.string ⟨#[]⟩, .string ⟨#[]⟩, .int .i64 0, .int .i64 0, .int .i64 0] 24))
  have G11 : Hid (w5.heap.size ≤ (w5.heap.size + 1)) := Lib.hid (by have h := B6.out.size; first | exact h | omega | (simp at h ⊢; omega))
  have K12 : Hid (Blk ((((w5.alloc (.cells #[.string ⟨#[]⟩, .string ⟨#[]⟩, .int .i64 0, .int .i64 0, .int .i64 0] 24)).setRow w5.heap.size #[.string s1, .string s2, .int .i64 17, .int .i64 1, .int .i64 2]).alloc (.cells #[.string ⟨#[]⟩, .string ⟨#[]⟩, .int .i64 0, .int .i64 0, .int .i64 0] 24)).setRow (w5.heap.size + 1) #[.string s1, .string s2, .int .i64 17, .int .i64 1, .int .i64 2]) w5.heap.size 24 #[.string s1, .string s2, .int .i64 17, .int .i64 1, .int .i64 2]) := Lib.hid ((setRow_other _ _ _ _ (N8.out)).trans K7.out)
  have K13 : Hid (Blk ((((w5.alloc (.cells #[.string ⟨#[]⟩, .string ⟨#[]⟩, .int .i64 0, .int .i64 0, .int .i64 0] 24)).setRow w5.heap.size #[.string s1, .string s2, .int .i64 17, .int .i64 1, .int .i64 2]).alloc (.cells #[.string ⟨#[]⟩, .string ⟨#[]⟩, .int .i64 0, .int .i64 0, .int .i64 0] 24)).setRow (w5.heap.size + 1) #[.string s1, .string s2, .int .i64 17, .int .i64 1, .int .i64 2]) (w5.heap.size + 1) 24 #[.string s1, .string s2, .int .i64 17, .int .i64 1, .int .i64 2]) := Lib.hid (setRow_heap _ _ _ #[.string s1, .string s2, .int .i64 17, .int .i64 1, .int .i64 2] _ _ K9.out)
  have B14 := Lib.hid (setRow_bel (g := (w5.heap.size + 1)) B10.out G11.out #[.string s1, .string s2, .int .i64 17, .int .i64 1, .int .i64 2])
  have K15 : Hid (Blk (((((w5.alloc (.cells #[.string ⟨#[]⟩, .string ⟨#[]⟩, .int .i64 0, .int .i64 0, .int .i64 0] 24)).setRow w5.heap.size #[.string s1, .string s2, .int .i64 17, .int .i64 1, .int .i64 2]).alloc (.cells #[.string ⟨#[]⟩, .string ⟨#[]⟩, .int .i64 0, .int .i64 0, .int .i64 0] 24)).setRow (w5.heap.size + 1) #[.string s1, .string s2, .int .i64 17, .int .i64 1, .int .i64 2]).setRow (w5.heap.size + 1) #[.string s1, .string s2, .int .i64 6, .int .i64 1, .int .i64 2]) w5.heap.size 24 #[.string s1, .string s2, .int .i64 17, .int .i64 1, .int .i64 2]) := Lib.hid ((setRow_other _ _ _ _ (N8.out)).trans K12.out)
  have K16 : Hid (Blk (((((w5.alloc (.cells #[.string ⟨#[]⟩, .string ⟨#[]⟩, .int .i64 0, .int .i64 0, .int .i64 0] 24)).setRow w5.heap.size #[.string s1, .string s2, .int .i64 17, .int .i64 1, .int .i64 2]).alloc (.cells #[.string ⟨#[]⟩, .string ⟨#[]⟩, .int .i64 0, .int .i64 0, .int .i64 0] 24)).setRow (w5.heap.size + 1) #[.string s1, .string s2, .int .i64 17, .int .i64 1, .int .i64 2]).setRow (w5.heap.size + 1) #[.string s1, .string s2, .int .i64 6, .int .i64 1, .int .i64 2]) (w5.heap.size + 1) 24 #[.string s1, .string s2, .int .i64 6, .int .i64 1, .int .i64 2]) := Lib.hid (setRow_heap _ _ _ #[.string s1, .string s2, .int .i64 6, .int .i64 1, .int .i64 2] _ _ K13.out)
  have B17 := Lib.hid (setRow_bel (g := (w5.heap.size + 1)) B14.out G11.out #[.string s1, .string s2, .int .i64 6, .int .i64 1, .int .i64 2])
  go_wp2_with (first | (refine Store.at_store 24 (.tmp 4) (.tmp 21) ?_ ?_; exact rfl; refine wpList_store_row rfl 24 (.tmp 4) (.tmp 21) rfl w5.heap.size #[.string s1, .string s2, .int .i64 17, .int .i64 1, .int .i64 2] rfl rfl 24 _ K2.out (by kernel_rfl) rfl (PickR3.oneF _ _ _ _ _) ?_) | (refine Store.at_load 24 (.tmp 4) ?_ ?_; exact rfl; refine Loads.wpList_load_w rfl 24 (.tmp 4) rfl w5.heap.size rfl 24 #[.string s1, .string s2, .int .i64 17, .int .i64 1, .int .i64 2] (0, 0) _ (K5.out) Try.underlying24 rfl (by kernel_rfl) ?_) | (refine Store.at_store 24 (.tmp 5) (.tmp 22) ?_ ?_; exact rfl; refine wpList_store_row rfl 24 (.tmp 5) (.tmp 22) rfl (w5.heap.size + 1) #[.string s1, .string s2, .int .i64 17, .int .i64 1, .int .i64 2] rfl rfl 24 _ K9.out (by kernel_rfl) rfl (PickR3.oneF _ _ _ _ _) ?_) | (refine Store.at_store 3 (.tmp 23) (.const (.int .i64 6)) ?_ ?_; exact rfl; refine Store.wpList_store_one rfl 3 (.tmp 23) (.const (.int .i64 6)) rfl (w5.heap.size + 1) 2 (.int .i64 6) rfl rfl 24 _ K13.out (by simp) (by kernel_rfl) rfl #[.string s1, .string s2, .int .i64 6, .int .i64 1, .int .i64 2] rfl rfl ?_) | (refine Store.at_load 24 (.tmp 4) ?_ ?_; exact rfl; refine Loads.wpList_load_w rfl 24 (.tmp 4) rfl w5.heap.size rfl 24 #[.string s1, .string s2, .int .i64 17, .int .i64 1, .int .i64 2] (0, 0) _ (K15.out) Try.underlying24 rfl (by kernel_rfl) ?_))
  have H6 := Lib.hid (H5.out.widen B17.out)
  have KK6 := Lib.hid (KK5.out.trans (Keep.of B17.out))
  have gf : Hid (w5.heap.size ≤ w5.heap.size) := Lib.hid (by omega)
  have gg : Hid (w5.heap.size ≤ (w5.heap.size + 1)) := Lib.hid (by omega)
  have KF := Lib.hid K15.out
  have KG := Lib.hid K16.out
  clear H5 KK5
  generalize (((((w5.alloc (.cells #[.string ⟨#[]⟩, .string ⟨#[]⟩, .int .i64 0, .int .i64 0, .int .i64 0] 24)).setRow w5.heap.size #[.string s1, .string s2, .int .i64 17, .int .i64 1, .int .i64 2]).alloc (.cells #[.string ⟨#[]⟩, .string ⟨#[]⟩, .int .i64 0, .int .i64 0, .int .i64 0] 24)).setRow (w5.heap.size + 1) #[.string s1, .string s2, .int .i64 17, .int .i64 1, .int .i64 2]).setRow (w5.heap.size + 1) #[.string s1, .string s2, .int .i64 6, .int .i64 1, .int .i64 2]) = w6 at *
  refine (find_is _ gs [ruleR 17 1, ruleR (-1) 2] q1 0 0 ex_find.1.1 ex_find.1.2 w6 H6.out (by decide) (by decide)).mono ?_
  rintro e w7 ⟨rfl, h7, k7⟩
  have H7 := Lib.hid h7
  have KK7 := Lib.hid (KK6.out.trans (k7.mono fun i hi _ => .inl hi))
  have KF7 := Lib.hid (show Blk w7 _ _ _ from (k7.block _ (.inr gf.out) KF.out.lt).trans KF.out)
  have KG7 := Lib.hid (show Blk w7 _ _ _ from (k7.block _ (.inr gg.out) KG.out.lt).trans KG.out)
  clear h7 k7 H6 KK6 KF KG
  go_wp2_with (refine Store.at_load 24 (.tmp 5) ?_ ?_; exact rfl; refine Loads.wpList_load_w rfl 24 (.tmp 5) rfl _ rfl 24 #[.string s1, .string s2, .int .i64 6, .int .i64 1, .int .i64 2] (0, 0) _ (KG7.out) Try.underlying24 rfl (by kernel_rfl) ?_)
  refine (find_is _ gs [ruleR 17 1, ruleR (-1) 2] q2 1 0 ex_find.2.1.1 ex_find.2.1.2 w7 H7.out (by decide) (by decide)).mono ?_
  rintro e w8 ⟨rfl, h8, k8⟩
  have H8 := Lib.hid h8
  have KK8 := Lib.hid (KK7.out.trans (k8.mono fun i hi _ => .inl hi))
  have KG8 := Lib.hid (show Blk w8 _ _ _ from (k8.block _ (.inr gg.out) KG7.out.lt).trans KG7.out)
  clear h8 k8 H7 KK7 KF7 KG7
  go_wp2_with (refine Store.at_load 24 (.tmp 5) ?_ ?_; exact rfl; refine Loads.wpList_load_w rfl 24 (.tmp 5) rfl _ rfl 24 #[.string s1, .string s2, .int .i64 6, .int .i64 1, .int .i64 2] (0, 0) _ (KG8.out) Try.underlying24 rfl (by kernel_rfl) ?_)
  refine (find_is _ gs [ruleR 17 1, ruleR (-1) 2] q3 0 6 ex_find.2.2.1 ex_find.2.2.2 w8 H8.out (by decide) (by decide)).mono ?_
  rintro e w9 ⟨rfl, h9, k9⟩
  have KK9 := Lib.hid (KK8.out.trans (k9.mono fun i hi _ => .inl hi))
  have LC := Lib.hid (list_code _ gs _ w9 h9)
  clear h9 k9 H8 KK8 KG8
  go_wp2_with fail
  refine LC.out.mono ?_
  rintro e wa ⟨⟨A, rfl, -, -⟩, ba⟩
  have KA := Lib.hid (KK9.out.trans (Keep.of ba))
  clear ba KK9 LC
  go_wp2_with fail
  go_ret
  exact ⟨rfl, KA.out.below (Nat.le_refl _) (fun k hk => hk)⟩
end Go.Proofs.Ytmomkjgnopcobaa.SpdA
