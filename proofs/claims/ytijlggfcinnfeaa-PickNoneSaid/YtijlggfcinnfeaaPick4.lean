/- The code's own, Turned, ports. -/
import Derived.Test.YtijlggfcinnfeaaPick2
import Derived.Test.YtijlggfcinnfeaaPickR3
set_option linter.unusedVariables false
namespace Go.Proofs.Ytijlggfcinnfeaa.Pick4
open Go.RowKit Go.Proofs.Ytijlggfcinnfeaa.Mem Go.Proofs.Ytijlggfcinnfeaa.Blk Go.Proofs.Ytijlggfcinnfeaa.Ahead Go.Proofs.Ytijlggfcinnfeaa.PickD Go.Proofs.Ytijlggfcinnfeaa.PickR1 Go.Proofs.Ytijlggfcinnfeaa.PickR2 Go.Proofs.Ytijlggfcinnfeaa.PickR3 Go.Proofs.Ytijlggfcinnfeaa.Pick1 Go.Proofs.Ytijlggfcinnfeaa.Pick2 Go.Proofs.Ytijlggfcinnfeaa.Free Go.Proofs.Ytijlggfcinnfeaa.Steps Go.Proofs.Ytijlggfcinnfeaa.Regs Go.Proofs.Ytijlggfcinnfeaa.Com

def maxT : Nat := 281474976710656
theorem clone_text (s : ByteArray) (w : World) (hs : s.size ≤ maxT) : Calls Try.prog 27 #[.string s] w fun e w' => e = .returned (.string s) ∧ Below w.heap.size w w' := by
  have C := Lib.hid (Try.stringslite_Clone s w hs)
  go_enter Try.func27, Try.ntmps27
  go_wp2_with fail
  refine C.out.mono ?_
  rintro e w' ⟨rfl, hb⟩
  go_wp2_with fail
  go_ret
  exact ⟨rfl, hb⟩
theorem ent_clone : Enters Try.prog 27 := enters_of Try.func27 (by kernel_rfl) rfl
theorem st_store_s {o : Oper} {a : Act} {w : World} {K : Act → World → Prop} {Q : Exit → Act → World → Prop} (x y : Operand) (ho : o.op = .store 9 x y) (ad : Addr) (hx : a.eval x = .pointer (some ad)) (z : ByteArray) (hy : a.eval y = .string z)
    (u : Value) (hc : w.cell? ad = some u) (hf : w.frozen? ad = false) (hK : K (a.put o.dst undef) (w.setCell ad (.string z))) : Step Try.prog o a w K Q := by
  have hz : (sizeOf 9).run Try.prog w = .ok 1 w := by kernel_rfl
  have hr : (storeVar 9 ad (.string z)).run Try.prog w = .ok () (w.setCell ad (.string z)) := by
    simp [storeVar, Value.cells, storeCells, Addr.add, hz, Result.andThen]
    rw [run_store Try.prog w ad _ _ (by rfl)]
    simp [hc, hf]
  constructor
  unfold Oper.wp execOp
  simp only [ho, hx, hy, Instr.storeAt, Instr.sureAddr, Sem.run_bind, Sem.run_pure, Result.andThen_ok, hr]
  exact hK
/-- A cell that is written as it is: all blocks stay. -/
theorem put_same {w : World} {g : Nat} {t : TypeId} {cs : Array Value} {v : Value} {i : Nat} (h : Blk w g t cs) (hv : cs[i]? = some v) : Below w.heap.size w (w.setCell ⟨g, i, none⟩ v) :=
  ⟨rfl, rfl, rfl, by simp, fun k hk => by
    by_cases e : k = g
    · subst e
      have h1 := Blk.put h i v
      have h2 : cs.setIfInBounds i v = cs := by
        apply Array.ext (by simp)
        intro j hj hj'
        rw [Array.getElem_setIfInBounds]
        split
        · rename_i e
          subst e
          have := Array.getElem?_eq_getElem (xs := cs) (i := i) (by simpa using hj')
          rw [hv] at this
          injection this
        · rfl
      rw [h2] at h1
      exact Eq.trans h1 (Eq.symm h)
    · exact Below.heap_setCell w ⟨g, i, none⟩ v k e⟩
theorem fldF0 (g : Nat) (w : World) : (Instr.fieldAt 24 (.pointer (some ⟨g, 0, none⟩)) 0).run Try.prog w = .ok (.pointer (some ⟨g, 0, none⟩)) w := by kernel_rfl
theorem fldF1 (g : Nat) (w : World) : (Instr.fieldAt 24 (.pointer (some ⟨g, 0, none⟩)) 1).run Try.prog w = .ok (.pointer (some ⟨g, 1, none⟩)) w := by kernel_rfl
set_option maxRecDepth 100000 in
set_option maxHeartbeats 1000000 in
theorem own_code (a b : ByteArray) (x y z : Int) (w : World) (ha : a.size ≤ maxT) (hb : b.size ≤ maxT) : Calls Try.prog 21 #[.agg #[.string a, .string b, .int .i64 x, .int .i64 y, .int .i64 z]] w fun e w' => e = .returned (.agg #[.string a, .string b, .int .i64 x, .int .i64 y, .int .i64 z]) ∧ Below w.heap.size w w' := by
  have K0 := Lib.hid (Blk.alloc (Blk.new w 24 #[.string a, .string b, .int .i64 x, .int .i64 y, .int .i64 z]) (.cells #[.string ⟨#[]⟩, .string ⟨#[]⟩, .int .i64 0, .int .i64 0, .int .i64 0] 24))
  have J0 : Hid (Blk ((w.alloc (.cells #[.string a, .string b, .int .i64 x, .int .i64 y, .int .i64 z] 24)).alloc (.cells #[.string ⟨#[]⟩, .string ⟨#[]⟩, .int .i64 0, .int .i64 0, .int .i64 0] 24)) (w.heap.size + 1) 24 #[.string ⟨#[]⟩, .string ⟨#[]⟩, .int .i64 0, .int .i64 0, .int .i64 0]) := Lib.hid (by
    have := Blk.new (w.alloc (.cells #[.string a, .string b, .int .i64 x, .int .i64 y, .int .i64 z] 24)) 24 #[.string ⟨#[]⟩, .string ⟨#[]⟩, .int .i64 0, .int .i64 0, .int .i64 0]
    simpa using this)
  have B0 := Lib.hid (((Below.refl w.heap.size w).alloc (Nat.le_refl _) (.cells #[.string a, .string b, .int .i64 x, .int .i64 y, .int .i64 z] 24)).alloc (by simp) (.cells #[.string ⟨#[]⟩, .string ⟨#[]⟩, .int .i64 0, .int .i64 0, .int .i64 0] 24))
  have CA := Lib.hid (fun W => clone_text a W ha)
  have CB := Lib.hid (fun W => clone_text b W hb)
  clear ha hb
  go_enter Try.func21, Try.ntmps21
  go_wp2_with fail
  generalize (w.alloc (.cells #[.string a, .string b, .int .i64 x, .int .i64 y, .int .i64 z] 24)).alloc (.cells #[.string ⟨#[]⟩, .string ⟨#[]⟩, .int .i64 0, .int .i64 0, .int .i64 0] 24) = w1 at *
  have X : Hid (∀ U, Below w1.drew.heap.size w1.drew U → Blk U w.heap.size 24 #[.string a, .string b, .int .i64 x, .int .i64 y, .int .i64 z]) := Lib.hid fun U hU => Blk.below (show Blk w1.drew w.heap.size 24 #[.string a, .string b, .int .i64 x, .int .i64 y, .int .i64 z] from K0.out) hU (Blk.lt K0.out)
  refine wp_region_free [0, 1, 2, 3, 4, 5, 6, 7, 8] 9 [] (fun w1 w2 => Below w1.heap.size w1 w2) (fun k' w' v => match k' with
    | 0 => v = .pointer (some ⟨w.heap.size, 0, none⟩)
    | 1 => v = .string a
    | 2 => v = .string a
    | 3 => v = .pointer (some ⟨w.heap.size, 1, none⟩)
    | 4 => v = .string b
    | 5 => v = .string b
    | 6 => v = .pointer (some ⟨w.heap.size, 0, none⟩)
    | 7 => True
    | _ => v = .pointer (some ⟨w.heap.size, 1, none⟩)) (by kernel_rfl) (by kernel_rfl) (Below.refl _ _) (fun _ _ _ h k => h.trans (k.mono h.size)) (fun k' w1 w2 v h => match k' with
    | 0 => fun x => x
    | 1 => fun x => x
    | 2 => fun x => x
    | 3 => fun x => x
    | 4 => fun x => x
    | 5 => fun x => x
    | 6 => fun x => x
    | 7 => fun _ => trivial
    | _ + 8 => fun x => x) (fun _ _ _ _ _ h => h) ?_ _ (by rfl) ?_
  · refine obs_cons (by rfl) (fun vals w' hgr hdep K hK => ?_) (obs_cons (by rfl) (fun vals w' hgr hdep K hK => ?_) (obs_cons (by rfl) (fun vals w' hgr hdep K hK => ?_) (obs_cons (by rfl) (fun vals w' hgr hdep K hK => ?_) (obs_cons (by rfl) (fun vals w' hgr hdep K hK => ?_) (obs_cons (by rfl) (fun vals w' hgr hdep K hK => ?_) (obs_cons (by rfl) (fun vals w' hgr hdep K hK => ?_) (obs_cons (by rfl) (fun vals w' hgr hdep K hK => ?_) (obs_cons (by rfl) (fun vals w' hgr hdep K hK => ?_) (obs_nil)))))))))
    · exact wp_field (.tmp 1) rfl _ _ (at_out _ (by kernel_rfl) rfl) (fldF0 _ _) (hK _ _ (Below.refl _ _) rfl)
    · exact wp_load1 (.tmp 3) rfl ⟨w.heap.size, 0, none⟩ ((at_dst 0 (by kernel_rfl)).trans (hdep 0 (by simp) (by kernel_rfl))) Try.underlying9 rfl _ ((X.out w' hgr).cell 0) (hK _ _ (Below.refl _ _) rfl)
    · exact wp_call 27 [.tmp 4] _ rfl ent_clone [.string a] (congrArg (fun z => [z]) ((at_dst 1 (by kernel_rfl)).trans (hdep 1 (by simp) (by kernel_rfl)))) (fun v w'' => v = .string a ∧ Below w'.heap.size w' w'') ((CA.out w').mono fun e w'' ⟨h1, h2⟩ => ⟨_, h1, rfl, h2⟩) (fun v w'' ⟨h1, h2⟩ => hK v w'' h2 h1)
    · exact wp_field (.tmp 1) rfl _ _ (at_out _ (by kernel_rfl) rfl) (fldF1 _ _) (hK _ _ (Below.refl _ _) rfl)
    · exact wp_load1 (.tmp 6) rfl ⟨w.heap.size, 1, none⟩ ((at_dst 3 (by kernel_rfl)).trans (hdep 3 (by simp) (by kernel_rfl))) Try.underlying9 rfl _ ((X.out w' hgr).cell 1) (hK _ _ (Below.refl _ _) rfl)
    · exact wp_call 27 [.tmp 7] _ rfl ent_clone [.string b] (congrArg (fun z => [z]) ((at_dst 4 (by kernel_rfl)).trans (hdep 4 (by simp) (by kernel_rfl)))) (fun v w'' => v = .string b ∧ Below w'.heap.size w' w'') ((CB.out w').mono fun e w'' ⟨h1, h2⟩ => ⟨_, h1, rfl, h2⟩) (fun v w'' ⟨h1, h2⟩ => hK v w'' h2 h1)
    · exact wp_field (.tmp 1) rfl _ _ (at_out _ (by kernel_rfl) rfl) (fldF0 _ _) (hK _ _ (Below.refl _ _) rfl)
    · exact st_store_s (.tmp 9) (.tmp 5) rfl ⟨w.heap.size, 0, none⟩ ((at_dst 6 (by kernel_rfl)).trans (hdep 6 (by simp) (by kernel_rfl))) a ((at_dst 2 (by kernel_rfl)).trans (hdep 2 (by simp) (by kernel_rfl))) _ ((X.out w' hgr).cell 0) ((X.out w' hgr).frozen 0) (hK _ _ (put_same (X.out w' hgr) rfl) trivial)
    · exact wp_field (.tmp 1) rfl _ _ (at_out _ (by kernel_rfl) rfl) (fldF1 _ _) (hK _ _ (Below.refl _ _) rfl)
  · intro vals w' hgr hG
    refine st_store_s (.tmp 10) (.tmp 8) rfl ⟨w.heap.size, 1, none⟩ ((at_dst 8 (by kernel_rfl)).trans (hG 8 (by simp))) b ((at_dst 5 (by kernel_rfl)).trans (hG 5 (by simp))) _ ((X.out w' hgr).cell 1) ((X.out w' hgr).frozen 1) (wpAnyH_done (by kernel_rfl) ?_ _)
    have hP := put_same (X.out w' hgr) (i := 1) (v := .string b) rfl
    have hU := hgr.trans (hP.mono hgr.size)
    have K2 := Lib.hid (X.out _ hU)
    have J2 := Lib.hid (Blk.below (show Blk w1.drew (w.heap.size + 1) 24 #[.string ⟨#[]⟩, .string ⟨#[]⟩, .int .i64 0, .int .i64 0, .int .i64 0] from J0.out) hU (Blk.lt J0.out))
    have B2 := Lib.hid (B0.out.trans (((below_drewN (Below.refl w1.heap.size w1) 1).trans hU).mono B0.out.size))
    clear hP hU hG hgr X K0 J0 B0
    generalize w'.setCell ⟨w.heap.size, 1, none⟩ (.string b) = w2 at *
    simp only [fill, dstAt, List.getElem?_cons_zero, List.getElem?_cons_succ, Option.bind_some, Act.put, List.setIfInBounds_toArray, List.set_cons_zero, List.set_cons_succ]
    generalize vals 0 = z0, vals 1 = z1, vals 2 = z2, vals 3 = z3, vals 4 = z4, vals 5 = z5, vals 6 = z6, vals 8 = z8 at *
    go_wp2_with (first | (refine Loads.wpList_load_w rfl 24 (.tmp 1) rfl w.heap.size rfl 24 #[.string a, .string b, .int .i64 x, .int .i64 y, .int .i64 z] (0, 0) _ (K2.out) Try.underlying24 rfl (by kernel_rfl) ?_) | (refine wpList_store_row rfl 24 (.tmp 2) (.tmp 11) rfl (w.heap.size + 1) #[.string a, .string b, .int .i64 x, .int .i64 y, .int .i64 z] rfl rfl 24 _ J2.out (by kernel_rfl) rfl (oneF _ _ _ _ _) ?_))
    exact bodyPost_ret (results_cell_row rfl _ _ (w.heap.size + 1) 24 #[.string a, .string b, .int .i64 x, .int .i64 y, .int .i64 z] (0, 0) _ rfl (setRow_heap _ _ _ _ _ _ J2.out) Try.underlying24 rfl (by kernel_rfl)) rfl ⟨rfl, setRow_bel B2.out (by omega) _⟩
theorem turned_code (a b : ByteArray) (x y z : Int) (w : World) (ha : a.size ≤ maxT) (hb : b.size ≤ maxT) : Calls Try.prog 11 #[.agg #[.string a, .string b, .int .i64 x, .int .i64 y, .int .i64 z]] w fun e w' => e = .returned (.agg #[.string b, .string a, .int .i64 x, .int .i64 z, .int .i64 y]) ∧ Below w.heap.size w w' := by
  have K0 := Blk.alloc (Blk.new w 24 #[.string a, .string b, .int .i64 x, .int .i64 y, .int .i64 z]) (.cells #[.string ⟨#[]⟩, .string ⟨#[]⟩, .int .i64 0, .int .i64 0, .int .i64 0] 24)
  have J0 : Hid (Blk ((w.alloc (.cells #[.string a, .string b, .int .i64 x, .int .i64 y, .int .i64 z] 24)).alloc (.cells #[.string ⟨#[]⟩, .string ⟨#[]⟩, .int .i64 0, .int .i64 0, .int .i64 0] 24)) (w.heap.size + 1) 24 #[.string ⟨#[]⟩, .string ⟨#[]⟩, .int .i64 0, .int .i64 0, .int .i64 0]) := Lib.hid (by
    have := Blk.new (w.alloc (.cells #[.string a, .string b, .int .i64 x, .int .i64 y, .int .i64 z] 24)) 24 #[.string ⟨#[]⟩, .string ⟨#[]⟩, .int .i64 0, .int .i64 0, .int .i64 0]
    simpa using this)
  have B0 := Lib.hid (((Below.refl w.heap.size w).alloc (Nat.le_refl _) (.cells #[.string a, .string b, .int .i64 x, .int .i64 y, .int .i64 z] 24)).alloc (by simp) (.cells #[.string ⟨#[]⟩, .string ⟨#[]⟩, .int .i64 0, .int .i64 0, .int .i64 0] 24))
  have k0 := K0.cell 0
  have k1 := K0.cell 1
  have k2 := K0.cell 2
  have k3 := K0.cell 3
  have k4 := K0.cell 4
  clear K0
  have OC := Lib.hid (fun W => own_code b a x z y W hb ha)
  go_enter Try.func11, Try.ntmps11
  go_wp2_with fail
  refine (OC.out _).mono ?_
  rintro e w2 ⟨rfl, hq⟩
  have J2 := Lib.hid (Blk.below J0.out hq (Blk.lt J0.out))
  have B2 := Lib.hid (B0.out.trans (hq.mono (by simp; omega)))
  clear hq
  go_wp2_with (refine wpList_store_row rfl 24 (.tmp 2) (.tmp 14) rfl (w.heap.size + 1) #[.string b, .string a, .int .i64 x, .int .i64 z, .int .i64 y] rfl rfl 24 _ J2.out (by kernel_rfl) rfl (oneF _ _ _ _ _) ?_)
  exact bodyPost_ret (results_cell_row rfl _ _ (w.heap.size + 1) 24 #[.string b, .string a, .int .i64 x, .int .i64 z, .int .i64 y] (0, 0) _ rfl (setRow_heap _ _ _ _ _ _ J2.out) Try.underlying24 rfl (by kernel_rfl)) rfl ⟨rfl, setRow_bel B2.out (by omega) _⟩
def nearV (pr : Int) (l : List Int) : Int := if has pr then two l 0 else -1
def farV (pr : Int) (l : List Int) : Int := if has pr then two l 2 else -1
set_option maxRecDepth 100000 in
set_option maxHeartbeats 1000000 in
theorem both_code (pr : Int) (A : Option Addr) (n c : Nat) (l : List Int) (w : World) (B : Nat) (h : Holds w B A n c l) (hB : B ≤ w.heap.size) (hn : has pr = true → 4 ≤ n) :
    Calls Try.prog 20 #[.int .i64 pr, .slice A n c] w fun e w' => e = .returned (.tuple #[.int .i64 (nearV pr l), .int .i64 (farV pr l)]) ∧ Below w.heap.size w w' := by
  have HC := Lib.hid (has_code pr)
  obtain ⟨v1, h1⟩ : ∃ v, v = nearV pr l := ⟨_, rfl⟩
  obtain ⟨v2, h2⟩ : ∃ v, v = farV pr l := ⟨_, rfl⟩
  rw [← h1, ← h2]
  unfold nearV at h1
  unfold farV at h2
  generalize has pr = q at *
  cases q
  · obtain rfl : v1 = -1 := h1
    obtain rfl : v2 = -1 := h2
    clear h hn
    go_enter Try.func20, Try.ntmps20
    go_wp2_with fail
    refine (HC.out _).mono ?_
    rintro e w1 ⟨rfl, rfl⟩
    go_wp2_with fail
    go_ret2
    exact ⟨rfl, Below.refl _ _⟩
  · have n4 := hn rfl
    obtain ⟨b, p, rfl, _⟩ := h.2.2.2.2 (by omega)
    have E1 : Hid (v1 = 256 * l.getD 0 0 + l.getD 1 0) := Lib.hid h1
    have E2 : Hid (v2 = 256 * l.getD 2 0 + l.getD 3 0) := Lib.hid h2
    have DD := Regs.getD_in h.2.2.2.1
    have d0 := DD 0
    have d1 := DD 1
    have d2 := DD 2
    have d3 := DD 3
    have X : Hid (∀ V, Below w.drew.heap.size w.drew V → Holds V B (some ⟨b, p, none⟩) n c l) := Lib.hid fun V hV => ((show Holds w.drew B (some ⟨b, p, none⟩) n c l from h.keep fun _ _ _ => rfl)).below (hV.mono hB)
    clear h hn h1 h2 DD
    go_enter Try.func20, Try.ntmps20
    go_wp2_with fail
    refine (HC.out _).mono ?_
    rintro e w1 ⟨rfl, rfl⟩
    go_wp2_with fail
    refine wp_region_free [0, 1, 2, 3, 4, 5, 6, 7, 8, 9, 10, 11, 12, 13, 14, 15, 16, 17, 18, 19, 20] 21 [] (fun w1 w2 => Below w1.heap.size w1 w2) (fun k' w' v => match k' with
      | 0 => v = .slice (some ⟨b, p, none⟩) n c
      | 1 => v = .pointer (some ⟨b, p + 0, none⟩)
      | 2 => v = .int .u8 (l.getD 0 0)
      | 3 => v = .int .i64 (l.getD 0 0)
      | 4 => v = .int .i64 (l.getD 0 0 * 256)
      | 5 => v = .slice (some ⟨b, p, none⟩) n c
      | 6 => v = .pointer (some ⟨b, p + 1, none⟩)
      | 7 => v = .int .u8 (l.getD 1 0)
      | 8 => v = .int .i64 (l.getD 1 0)
      | 9 => v = .int .i64 (256 * l.getD 0 0 + l.getD 1 0)
      | 10 => v = .slice (some ⟨b, p, none⟩) n c
      | 11 => v = .pointer (some ⟨b, p + 2, none⟩)
      | 12 => v = .int .u8 (l.getD 2 0)
      | 13 => v = .int .i64 (l.getD 2 0)
      | 14 => v = .int .i64 (l.getD 2 0 * 256)
      | 15 => v = .slice (some ⟨b, p, none⟩) n c
      | 16 => v = .pointer (some ⟨b, p + 3, none⟩)
      | 17 => v = .int .u8 (l.getD 3 0)
      | 18 => v = .int .i64 (l.getD 3 0)
      | 19 => v = .int .i64 (256 * l.getD 2 0 + l.getD 3 0)
      | _ => v = .int .i64 (256 * l.getD 0 0 + l.getD 1 0)) (by kernel_rfl) (by kernel_rfl) (Below.refl _ _) (fun _ _ _ h k => h.trans (k.mono h.size)) (fun k' w1 w2 v h => match k' with
      | 0 => fun x => x
      | 1 => fun x => x
      | 2 => fun x => x
      | 3 => fun x => x
      | 4 => fun x => x
      | 5 => fun x => x
      | 6 => fun x => x
      | 7 => fun x => x
      | 8 => fun x => x
      | 9 => fun x => x
      | 10 => fun x => x
      | 11 => fun x => x
      | 12 => fun x => x
      | 13 => fun x => x
      | 14 => fun x => x
      | 15 => fun x => x
      | 16 => fun x => x
      | 17 => fun x => x
      | 18 => fun x => x
      | 19 => fun x => x
      | _ + 20 => fun x => x) (fun _ _ _ _ _ h => h) ?_ _ (by rfl) ?_
    · refine obs_cons (by rfl) (fun vals w' hgr hdep K hK => ?_) (obs_cons (by rfl) (fun vals w' hgr hdep K hK => ?_) (obs_cons (by rfl) (fun vals w' hgr hdep K hK => ?_) (obs_cons (by rfl) (fun vals w' hgr hdep K hK => ?_) (obs_cons (by rfl) (fun vals w' hgr hdep K hK => ?_) (obs_cons (by rfl) (fun vals w' hgr hdep K hK => ?_) (obs_cons (by rfl) (fun vals w' hgr hdep K hK => ?_) (obs_cons (by rfl) (fun vals w' hgr hdep K hK => ?_) (obs_cons (by rfl) (fun vals w' hgr hdep K hK => ?_) (obs_cons (by rfl) (fun vals w' hgr hdep K hK => ?_) (obs_cons (by rfl) (fun vals w' hgr hdep K hK => ?_) (obs_cons (by rfl) (fun vals w' hgr hdep K hK => ?_) (obs_cons (by rfl) (fun vals w' hgr hdep K hK => ?_) (obs_cons (by rfl) (fun vals w' hgr hdep K hK => ?_) (obs_cons (by rfl) (fun vals w' hgr hdep K hK => ?_) (obs_cons (by rfl) (fun vals w' hgr hdep K hK => ?_) (obs_cons (by rfl) (fun vals w' hgr hdep K hK => ?_) (obs_cons (by rfl) (fun vals w' hgr hdep K hK => ?_) (obs_cons (by rfl) (fun vals w' hgr hdep K hK => ?_) (obs_cons (by rfl) (fun vals w' hgr hdep K hK => ?_) (obs_cons (by rfl) (fun vals w' hgr hdep K hK => ?_) (obs_nil)))))))))))))))))))))
      · exact wp_move (.tmp 1) rfl _ (at_out _ (by kernel_rfl) rfl) (hK _ _ (Below.refl _ _) rfl)
      · exact st_byte_at (.tmp 9) (.const (.int .i64 0)) rfl b p n c 0 ((at_dst 0 (by kernel_rfl)).trans (hdep 0 (by simp) (by kernel_rfl))) rfl (by omega) (hK _ _ (Below.refl _ _) rfl)
      · exact wp_load1 (.tmp 10) rfl ⟨b, p + 0, none⟩ ((at_dst 1 (by kernel_rfl)).trans (hdep 1 (by simp) (by kernel_rfl))) Try.underlying5 rfl _ (cell_getD (X.out _ hgr) 0 (by omega)) (hK _ _ (Below.refl _ _) rfl)
      · exact wp_conv (.tmp 11) rfl _ _ ((at_dst 2 (by kernel_rfl)).trans (hdep 2 (by simp) (by kernel_rfl))) (conv_int _ _ (by omega) (by omega)) (hK _ _ (Below.refl _ _) rfl)
      · exact wp_bin (.tmp 12) (.const (.int .u64 8)) rfl _ _ _ ((at_dst 3 (by kernel_rfl)).trans (hdep 3 (by simp) (by kernel_rfl))) rfl (b_shl8 _ _ _ _ (by omega) (by omega)) (hK _ _ (Below.refl _ _) rfl)
      · exact wp_move (.tmp 1) rfl _ (at_out _ (by kernel_rfl) rfl) (hK _ _ (Below.refl _ _) rfl)
      · exact st_byte_at (.tmp 14) (.const (.int .i64 1)) rfl b p n c 1 ((at_dst 5 (by kernel_rfl)).trans (hdep 5 (by simp) (by kernel_rfl))) rfl (by omega) (hK _ _ (Below.refl _ _) rfl)
      · exact wp_load1 (.tmp 15) rfl ⟨b, p + 1, none⟩ ((at_dst 6 (by kernel_rfl)).trans (hdep 6 (by simp) (by kernel_rfl))) Try.underlying5 rfl _ (cell_getD (X.out _ hgr) 1 (by omega)) (hK _ _ (Below.refl _ _) rfl)
      · exact wp_conv (.tmp 16) rfl _ _ ((at_dst 7 (by kernel_rfl)).trans (hdep 7 (by simp) (by kernel_rfl))) (conv_int _ _ (by omega) (by omega)) (hK _ _ (Below.refl _ _) rfl)
      · exact wp_bin (.tmp 13) (.tmp 17) rfl _ _ _ ((at_dst 4 (by kernel_rfl)).trans (hdep 4 (by simp) (by kernel_rfl))) ((at_dst 8 (by kernel_rfl)).trans (hdep 8 (by simp) (by kernel_rfl))) (b_or _ _ _ _ _ _ (Bits.or_byte (by omega) (by omega) (by omega) (by omega))) (hK _ _ (Below.refl _ _) rfl)
      · exact wp_move (.tmp 1) rfl _ (at_out _ (by kernel_rfl) rfl) (hK _ _ (Below.refl _ _) rfl)
      · exact st_byte_at (.tmp 19) (.const (.int .i64 2)) rfl b p n c 2 ((at_dst 10 (by kernel_rfl)).trans (hdep 10 (by simp) (by kernel_rfl))) rfl (by omega) (hK _ _ (Below.refl _ _) rfl)
      · exact wp_load1 (.tmp 20) rfl ⟨b, p + 2, none⟩ ((at_dst 11 (by kernel_rfl)).trans (hdep 11 (by simp) (by kernel_rfl))) Try.underlying5 rfl _ (cell_getD (X.out _ hgr) 2 (by omega)) (hK _ _ (Below.refl _ _) rfl)
      · exact wp_conv (.tmp 21) rfl _ _ ((at_dst 12 (by kernel_rfl)).trans (hdep 12 (by simp) (by kernel_rfl))) (conv_int _ _ (by omega) (by omega)) (hK _ _ (Below.refl _ _) rfl)
      · exact wp_bin (.tmp 22) (.const (.int .u64 8)) rfl _ _ _ ((at_dst 13 (by kernel_rfl)).trans (hdep 13 (by simp) (by kernel_rfl))) rfl (b_shl8 _ _ _ _ (by omega) (by omega)) (hK _ _ (Below.refl _ _) rfl)
      · exact wp_move (.tmp 1) rfl _ (at_out _ (by kernel_rfl) rfl) (hK _ _ (Below.refl _ _) rfl)
      · exact st_byte_at (.tmp 24) (.const (.int .i64 3)) rfl b p n c 3 ((at_dst 15 (by kernel_rfl)).trans (hdep 15 (by simp) (by kernel_rfl))) rfl (by omega) (hK _ _ (Below.refl _ _) rfl)
      · exact wp_load1 (.tmp 25) rfl ⟨b, p + 3, none⟩ ((at_dst 16 (by kernel_rfl)).trans (hdep 16 (by simp) (by kernel_rfl))) Try.underlying5 rfl _ (cell_getD (X.out _ hgr) 3 (by omega)) (hK _ _ (Below.refl _ _) rfl)
      · exact wp_conv (.tmp 26) rfl _ _ ((at_dst 17 (by kernel_rfl)).trans (hdep 17 (by simp) (by kernel_rfl))) (conv_int _ _ (by omega) (by omega)) (hK _ _ (Below.refl _ _) rfl)
      · exact wp_bin (.tmp 23) (.tmp 27) rfl _ _ _ ((at_dst 14 (by kernel_rfl)).trans (hdep 14 (by simp) (by kernel_rfl))) ((at_dst 18 (by kernel_rfl)).trans (hdep 18 (by simp) (by kernel_rfl))) (b_or _ _ _ _ _ _ (Bits.or_byte (by omega) (by omega) (by omega) (by omega))) (hK _ _ (Below.refl _ _) rfl)
      · exact st_assign (.tmp 18) (.int .i64 (256 * l.getD 0 0 + l.getD 1 0)) rfl ((at_dst 9 (by kernel_rfl)).trans (hdep 9 (by simp) (by kernel_rfl))) (hK _ _ (Below.refl _ _) rfl)
    · intro vals w' hgr hG
      refine st_assign (.tmp 28) (.int .i64 (256 * l.getD 2 0 + l.getD 3 0)) rfl ((at_dst 19 (by kernel_rfl)).trans (hG 19 (by simp))) (wpAnyH_done (by kernel_rfl) ?_ _)
      have Q20 : Hid (vals 20 = .int .i64 (256 * l.getD 0 0 + l.getD 1 0)) := Lib.hid (hG 20 (by simp))
      have BB := Lib.hid ((below_drewN (Below.refl w.heap.size w) 1).trans hgr)
      clear hG hgr X
      simp only [fill, dstAt, List.getElem?_cons_zero, List.getElem?_cons_succ, Option.bind_some, Act.put, List.setIfInBounds_toArray, List.set_cons_zero, List.set_cons_succ]
      generalize vals 0 = z0, vals 1 = z1, vals 2 = z2, vals 3 = z3, vals 4 = z4, vals 5 = z5, vals 6 = z6, vals 7 = z7, vals 8 = z8, vals 9 = z9, vals 10 = z10, vals 11 = z11, vals 12 = z12, vals 13 = z13, vals 14 = z14, vals 15 = z15, vals 16 = z16, vals 17 = z17, vals 18 = z18, vals 19 = z19, vals 20 = z20 at *
      go_wp2_with fail
      go_ret2
      exact ⟨by rw [E1.out, E2.out, ← Q20.out]; rfl, BB.out⟩
end Go.Proofs.Ytijlggfcinnfeaa.Pick4
