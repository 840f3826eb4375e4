/- The law PickFlows: its walk. -/
import Derived.Test.YtijlggfcinnfeaaLawFew15
import Derived.Test.YtijlggfcinnfeaaPickR4
set_option linter.unusedVariables false
namespace Go.Proofs.Ytijlggfcinnfeaa.LawFlows
open Go.RowKit Go.Proofs.Ytijlggfcinnfeaa.Mem Go.Proofs.Ytijlggfcinnfeaa.Blk Go.Proofs.Ytijlggfcinnfeaa.Ahead Go.Proofs.Ytijlggfcinnfeaa.PickD Go.Proofs.Ytijlggfcinnfeaa.PickR1 Go.Proofs.Ytijlggfcinnfeaa.PickR2 Go.Proofs.Ytijlggfcinnfeaa.PickR3 Go.Proofs.Ytijlggfcinnfeaa.Pick1 Go.Proofs.Ytijlggfcinnfeaa.Pick2 Go.Proofs.Ytijlggfcinnfeaa.Pick3 Go.Proofs.Ytijlggfcinnfeaa.Pick4 Go.Proofs.Ytijlggfcinnfeaa.Free Go.Proofs.Ytijlggfcinnfeaa.Steps Go.Proofs.Ytijlggfcinnfeaa.Regs Go.Proofs.Ytijlggfcinnfeaa.Com Go.Proofs.Ytijlggfcinnfeaa.Pick5 Go.Proofs.Ytijlggfcinnfeaa.PickA Go.Proofs.Ytijlggfcinnfeaa.LawFew15

theorem ent_rturned : Enters Try.prog 12 := enters_of Try.func12 (by kernel_rfl) rfl
set_option maxRecDepth 100000 in
set_option maxHeartbeats 2000000 in
theorem flows_any (a0 a1 : ByteArray) (a2 : Int) (A3 : Option Addr) (n3 c3 : Nat) (l3 : List Int) (a4 : Bool) (ga gb : ByteArray) (gx gy gz : Int) (w : World) (z0 : a0.size ≤ 140737488355328) (z1 : a1.size ≤ 140737488355328) (h3 : Holds w w.heap.size A3 n3 c3 l3) (z5 : ga.size ≤ 140737488355328 ∧ gb.size ≤ 140737488355328) :
    Calls Try.prog 3 #[.string a0, .string a1, .int .i64 a2, .slice A3 n3 c3, .bool a4, .agg #[.string ga, .string gb, .int .i64 gx, .int .i64 gy, .int .i64 gz]] w fun e w' => e = .returned (.bool true) ∧ Below w.heap.size w w' := by
  by_cases q1 : 600 < a0.size + a1.size + ga.size + gb.size
  · have B1 := Lib.hid (Below.refl w.heap.size w)
    have K2 : Hid (Blk (w.alloc (.cells #[.string ga, .string gb, .int .i64 gx, .int .i64 gy, .int .i64 gz] 24)) w.heap.size 24 #[.string ga, .string gb, .int .i64 gx, .int .i64 gy, .int .i64 gz]) := Lib.hid (by have h := Blk.new w 24 #[.string ga, .string gb, .int .i64 gx, .int .i64 gy, .int .i64 gz]; first | exact h | simpa using h)
    have B3 := Lib.hid (B1.out.alloc (by have h := B1.out.size; first | exact h | omega | (simp at h ⊢; omega)) (.cells #[.string ga, .string gb, .int .i64 gx, .int .i64 gy, .int .i64 gz] 24))
    have G4 : Hid (w.heap.size ≤ w.heap.size) := Lib.hid (by have h := B1.out.size; first | exact h | omega | (simp at h ⊢; omega))
    have c5 : (w.alloc (.cells #[.string ga, .string gb, .int .i64 gx, .int .i64 gy, .int .i64 gz] 24)).cell? ⟨w.heap.size, 0, none⟩ = some (.string ga) := K2.out.cell 0
    have c6 : (w.alloc (.cells #[.string ga, .string gb, .int .i64 gx, .int .i64 gy, .int .i64 gz] 24)).cell? ⟨w.heap.size, 1, none⟩ = some (.string gb) := K2.out.cell 1
    have u0 : IntKind.i64.wrap ((a0.size : Int) + (a1.size : Int)) = (a0.size : Int) + (a1.size : Int) := IntWalk.i64_in _ (by omega)
    have u1 : IntKind.i64.wrap ((a0.size : Int) + (a1.size : Int) + (ga.size : Int)) = (a0.size : Int) + (a1.size : Int) + (ga.size : Int) := IntWalk.i64_in _ (by omega)
    have u2 : IntKind.i64.wrap ((a0.size : Int) + (a1.size : Int) + (ga.size : Int) + (gb.size : Int)) = (a0.size : Int) + (a1.size : Int) + (ga.size : Int) + (gb.size : Int) := IntWalk.i64_in _ (by omega)
    have t1 : decide (600 < (a0.size : Int) + (a1.size : Int) + (ga.size : Int) + (gb.size : Int)) = true := decide_eq_true (by omega)
    clear q1 z5
    go_enter Try.func3, Try.ntmps3
    go_wp2_with fail
    go_ret
    exact ⟨rfl, B3.out⟩
  by_cases q2 : 1000 < n3
  · have B1 := Lib.hid (Below.refl w.heap.size w)
    have K2 : Hid (Blk (w.alloc (.cells #[.string ga, .string gb, .int .i64 gx, .int .i64 gy, .int .i64 gz] 24)) w.heap.size 24 #[.string ga, .string gb, .int .i64 gx, .int .i64 gy, .int .i64 gz]) := Lib.hid (by have h := Blk.new w 24 #[.string ga, .string gb, .int .i64 gx, .int .i64 gy, .int .i64 gz]; first | exact h | simpa using h)
    have B3 := Lib.hid (B1.out.alloc (by have h := B1.out.size; first | exact h | omega | (simp at h ⊢; omega)) (.cells #[.string ga, .string gb, .int .i64 gx, .int .i64 gy, .int .i64 gz] 24))
    have G4 : Hid (w.heap.size ≤ w.heap.size) := Lib.hid (by have h := B1.out.size; first | exact h | omega | (simp at h ⊢; omega))
    have c5 : (w.alloc (.cells #[.string ga, .string gb, .int .i64 gx, .int .i64 gy, .int .i64 gz] 24)).cell? ⟨w.heap.size, 0, none⟩ = some (.string ga) := K2.out.cell 0
    have c6 : (w.alloc (.cells #[.string ga, .string gb, .int .i64 gx, .int .i64 gy, .int .i64 gz] 24)).cell? ⟨w.heap.size, 1, none⟩ = some (.string gb) := K2.out.cell 1
    have u0 : IntKind.i64.wrap ((a0.size : Int) + (a1.size : Int)) = (a0.size : Int) + (a1.size : Int) := IntWalk.i64_in _ (by omega)
    have u1 : IntKind.i64.wrap ((a0.size : Int) + (a1.size : Int) + (ga.size : Int)) = (a0.size : Int) + (a1.size : Int) + (ga.size : Int) := IntWalk.i64_in _ (by omega)
    have u2 : IntKind.i64.wrap ((a0.size : Int) + (a1.size : Int) + (ga.size : Int) + (gb.size : Int)) = (a0.size : Int) + (a1.size : Int) + (ga.size : Int) + (gb.size : Int) := IntWalk.i64_in _ (by omega)
    have t1 : decide (600 < (a0.size : Int) + (a1.size : Int) + (ga.size : Int) + (gb.size : Int)) = false := decide_eq_false (by omega)
    have t2 : decide ((1000 : Int) < (n3 : Int)) = true := decide_eq_true (by omega)
    clear q1 q2 z5
    go_enter Try.func3, Try.ntmps3
    go_wp2_with fail
    go_ret
    exact ⟨rfl, B3.out⟩
  have B1 := Lib.hid (Below.refl w.heap.size w)
  have K2 : Hid (Blk (w.alloc (.cells #[.string ga, .string gb, .int .i64 gx, .int .i64 gy, .int .i64 gz] 24)) w.heap.size 24 #[.string ga, .string gb, .int .i64 gx, .int .i64 gy, .int .i64 gz]) := Lib.hid (by have h := Blk.new w 24 #[.string ga, .string gb, .int .i64 gx, .int .i64 gy, .int .i64 gz]; first | exact h | simpa using h)
  have B3 := Lib.hid (B1.out.alloc (by have h := B1.out.size; first | exact h | omega | (simp at h ⊢; omega)) (.cells #[.string ga, .string gb, .int .i64 gx, .int .i64 gy, .int .i64 gz] 24))
  have G4 : Hid (w.heap.size ≤ w.heap.size) := Lib.hid (by have h := B1.out.size; first | exact h | omega | (simp at h ⊢; omega))
  have c5 : (w.alloc (.cells #[.string ga, .string gb, .int .i64 gx, .int .i64 gy, .int .i64 gz] 24)).cell? ⟨w.heap.size, 0, none⟩ = some (.string ga) := K2.out.cell 0
  have c6 : (w.alloc (.cells #[.string ga, .string gb, .int .i64 gx, .int .i64 gy, .int .i64 gz] 24)).cell? ⟨w.heap.size, 1, none⟩ = some (.string gb) := K2.out.cell 1
  have u0 : IntKind.i64.wrap ((a0.size : Int) + (a1.size : Int)) = (a0.size : Int) + (a1.size : Int) := IntWalk.i64_in _ (by omega)
  have u1 : IntKind.i64.wrap ((a0.size : Int) + (a1.size : Int) + (ga.size : Int)) = (a0.size : Int) + (a1.size : Int) + (ga.size : Int) := IntWalk.i64_in _ (by omega)
  have u2 : IntKind.i64.wrap ((a0.size : Int) + (a1.size : Int) + (ga.size : Int) + (gb.size : Int)) = (a0.size : Int) + (a1.size : Int) + (ga.size : Int) + (gb.size : Int) := IntWalk.i64_in _ (by omega)
  have t1 : decide (600 < (a0.size : Int) + (a1.size : Int) + (ga.size : Int) + (gb.size : Int)) = false := decide_eq_false (by omega)
  have t2 : decide ((1000 : Int) < (n3 : Int)) = false := decide_eq_false (by omega)
  obtain ⟨F, hF⟩ : ∃ F, F = ofR a0 a1 a2 l3 a4 := ⟨_, rfl⟩
  obtain ⟨k, hk⟩ : ∃ k, k = ofE a0 a1 a2 l3.length := ⟨_, rfl⟩
  have OF : Hid (∀ W A c, Holds W W.heap.size A n3 c l3 → Calls Try.prog 8 #[.string a0, .string a1, .int .i64 a2, .slice A n3 c, .bool a4] W fun e w' => e = .returned (.tuple #[.agg #[.string F.here, .string F.there, .int .i64 F.pr, .int .i64 F.near, .int .i64 F.far], .int .i64 (k : Int)]) ∧ Below W.heap.size W w') := Lib.hid fun W A c h => by
    rw [hF, hk]
    exact of_code a0 a1 a2 A n3 c l3 a4 W W.heap.size h (Nat.le_refl _) (by unfold maxT; omega) (by unfold maxT; omega)
  have OR : Hid (∀ W, Holds W W.heap.size A3 n3 c3 l3 → Calls Try.prog 9 #[.string a0, .string a1, .int .i64 a2, .slice A3 n3 c3, .bool a4] W fun e w' => e = .returned (.tuple #[.agg #[.string F.here, .string F.there, .int .i64 F.pr, .int .i64 F.near, .int .i64 F.far], .int .i64 (k : Int)]) ∧ Below W.heap.size W w') := Lib.hid fun W h => by
    rw [hF, hk]
    exact PickR4.of_ref a0 a1 a2 A3 n3 c3 l3 a4 W W.heap.size h (Nat.le_refl _)
  have TC := Lib.hid (fun W => turned_code ga gb gx gy gz W (by unfold maxT; omega) (by unfold maxT; omega))
  have TR := Lib.hid (fun W => turned_ref ga gb gx gy gz W)
  have HA := Lib.hid h3
  have NB : Hid (n3 ≤ 1048576) := Lib.hid (by omega)
  clear q1 q2 hF hk z5 h3
  go_enter Try.func3, Try.ntmps3
  go_wp2_with fail
  refine (both_one A3 n3 c3 l3 _ w.heap.size (HA.out.below B3.out) (by simp) NB.out _ (by simp) _ rfl).mono ?_
  rintro e w1 ⟨A7, c7, rfl, h7, hb⟩
  have H7 := Lib.hid h7
  clear h7
  have K7 : Hid (Blk w1 w.heap.size 24 #[.string ga, .string gb, .int .i64 gx, .int .i64 gy, .int .i64 gz]) := Lib.hid (Blk.below K2.out hb (Blk.lt K2.out))
  have B8 := Lib.hid (B3.out.trans (hb.mono B3.out.size))
  clear hb
  have B9 := Lib.hid (Below.refl w1.heap.size w1)
  go_wp2_with fail
  refine (OF.out _ A7 c7 H7.out).mono ?_
  rintro e w2 ⟨rfl, hb10⟩
  have K11 : Hid (Blk w2 w.heap.size 24 #[.string ga, .string gb, .int .i64 gx, .int .i64 gy, .int .i64 gz]) := Lib.hid (Blk.below K7.out hb10 (Blk.lt K7.out))
  have B12 := Lib.hid (B8.out.trans (hb10.mono B8.out.size))
  have B13 := Lib.hid (B9.out.trans (hb10.mono B9.out.size))
  clear hb10
  have K14 : Hid (Blk (w2.alloc (.cells #[.string ⟨#[]⟩, .string ⟨#[]⟩, .int .i64 0, .int .i64 0, .int .i64 0] 24)) w.heap.size 24 #[.string ga, .string gb, .int .i64 gx, .int .i64 gy, .int .i64 gz]) := Lib.hid (Blk.alloc K11.out _)
  have N15 : Hid (w.heap.size ≠ w2.heap.size) := Lib.hid (by have h := Blk.lt K11.out; first | omega | (simp at h; omega))
  have K16 : Hid (Blk (w2.alloc (.cells #[.string ⟨#[]⟩, .string ⟨#[]⟩, .int .i64 0, .int .i64 0, .int .i64 0] 24)) w2.heap.size 24 #[.string ⟨#[]⟩, .string ⟨#[]⟩, .int .i64 0, .int .i64 0, .int .i64 0]) := Lib.hid (by have h := Blk.new w2 24 #[.string ⟨#[]⟩, .string ⟨#[]⟩, .int .i64 0, .int .i64 0, .int .i64 0]; first | exact h | simpa using h)
  have B17 := Lib.hid (B12.out.alloc (by have h := B12.out.size; first | exact h | omega | (simp at h ⊢; omega)) (.cells #[.string ⟨#[]⟩, .string ⟨#[]⟩, .int .i64 0, .int .i64 0, .int .i64 0] 24))
  have G18 : Hid (w.heap.size ≤ w2.heap.size) := Lib.hid (by have h := B12.out.size; first | exact h | omega | (simp at h ⊢; omega))
  have B19 := Lib.hid (B13.out.alloc (by have h := B13.out.size; first | exact h | omega | (simp at h ⊢; omega)) (.cells #[.string ⟨#[]⟩, .string ⟨#[]⟩, .int .i64 0, .int .i64 0, .int .i64 0] 24))
  have G20 : Hid (w1.heap.size ≤ w2.heap.size) := Lib.hid (by have h := B13.out.size; first | exact h | omega | (simp at h ⊢; omega))
  have K21 : Hid (Blk ((w2.alloc (.cells #[.string ⟨#[]⟩, .string ⟨#[]⟩, .int .i64 0, .int .i64 0, .int .i64 0] 24)).setRow w2.heap.size #[.string F.here, .string F.there, .int .i64 F.pr, .int .i64 F.near, .int .i64 F.far]) w.heap.size 24 #[.string ga, .string gb, .int .i64 gx, .int .i64 gy, .int .i64 gz]) := Lib.hid ((setRow_other _ _ _ _ (N15.out)).trans K14.out)
  have K22 : Hid (Blk ((w2.alloc (.cells #[.string ⟨#[]⟩, .string ⟨#[]⟩, .int .i64 0, .int .i64 0, .int .i64 0] 24)).setRow w2.heap.size #[.string F.here, .string F.there, .int .i64 F.pr, .int .i64 F.near, .int .i64 F.far]) w2.heap.size 24 #[.string F.here, .string F.there, .int .i64 F.pr, .int .i64 F.near, .int .i64 F.far]) := Lib.hid (setRow_heap _ _ _ #[.string F.here, .string F.there, .int .i64 F.pr, .int .i64 F.near, .int .i64 F.far] _ _ K16.out)
  have B23 := Lib.hid (setRow_bel (g := w2.heap.size) B17.out G18.out #[.string F.here, .string F.there, .int .i64 F.pr, .int .i64 F.near, .int .i64 F.far])
  have B24 := Lib.hid (setRow_bel (g := w2.heap.size) B19.out G20.out #[.string F.here, .string F.there, .int .i64 F.pr, .int .i64 F.near, .int .i64 F.far])
  go_wp2_with (refine wpList_store_row rfl 24 (.tmp 14) (.tmp 47) rfl w2.heap.size #[.string F.here, .string F.there, .int .i64 F.pr, .int .i64 F.near, .int .i64 F.far] rfl rfl 24 _ K16.out (by kernel_rfl) rfl (oneF _ _ _ _ _) ?_)
  refine (OR.out _ ((HA.out.below B23.out).more B23.out.size)).mono ?_
  rintro e w3 ⟨rfl, hb25⟩
  have K26 : Hid (Blk w3 w.heap.size 24 #[.string ga, .string gb, .int .i64 gx, .int .i64 gy, .int .i64 gz]) := Lib.hid (Blk.below K21.out hb25 (Blk.lt K21.out))
  have K27 : Hid (Blk w3 w2.heap.size 24 #[.string F.here, .string F.there, .int .i64 F.pr, .int .i64 F.near, .int .i64 F.far]) := Lib.hid (Blk.below K22.out hb25 (Blk.lt K22.out))
  have B28 := Lib.hid (B23.out.trans (hb25.mono B23.out.size))
  have B29 := Lib.hid (B24.out.trans (hb25.mono B24.out.size))
  clear hb25
  have K30 : Hid (Blk (w3.alloc (.cells #[.string ⟨#[]⟩, .string ⟨#[]⟩, .int .i64 0, .int .i64 0, .int .i64 0] 24)) w.heap.size 24 #[.string ga, .string gb, .int .i64 gx, .int .i64 gy, .int .i64 gz]) := Lib.hid (Blk.alloc K26.out _)
  have N31 : Hid (w.heap.size ≠ w3.heap.size) := Lib.hid (by have h := Blk.lt K26.out; first | omega | (simp at h; omega))
  have K32 : Hid (Blk (w3.alloc (.cells #[.string ⟨#[]⟩, .string ⟨#[]⟩, .int .i64 0, .int .i64 0, .int .i64 0] 24)) w2.heap.size 24 #[.string F.here, .string F.there, .int .i64 F.pr, .int .i64 F.near, .int .i64 F.far]) := Lib.hid (Blk.alloc K27.out _)
  have N33 : Hid (w2.heap.size ≠ w3.heap.size) := Lib.hid (by have h := Blk.lt K27.out; first | omega | (simp at h; omega))
  have K34 : Hid (Blk (w3.alloc (.cells #[.string ⟨#[]⟩, .string ⟨#[]⟩, .int .i64 0, .int .i64 0, .int .i64 0] 24)) w3.heap.size 24 #[.string ⟨#[]⟩, .string ⟨#[]⟩, .int .i64 0, .int .i64 0, .int .i64 0]) := Lib.hid (by have h := Blk.new w3 24 #[.string ⟨#[]⟩, .string ⟨#[]⟩, .int .i64 0, .int .i64 0, .int .i64 0]; first | exact h | simpa using h)
  have B35 := Lib.hid (B28.out.alloc (by have h := B28.out.size; first | exact h | omega | (simp at h ⊢; omega)) (.cells #[.string ⟨#[]⟩, .string ⟨#[]⟩, .int .i64 0, .int .i64 0, .int .i64 0] 24))
  have G36 : Hid (w.heap.size ≤ w3.heap.size) := Lib.hid (by have h := B28.out.size; first | exact h | omega | (simp at h ⊢; omega))
  have B37 := Lib.hid (B29.out.alloc (by have h := B29.out.size; first | exact h | omega | (simp at h ⊢; omega)) (.cells #[.string ⟨#[]⟩, .string ⟨#[]⟩, .int .i64 0, .int .i64 0, .int .i64 0] 24))
  have G38 : Hid (w1.heap.size ≤ w3.heap.size) := Lib.hid (by have h := B29.out.size; first | exact h | omega | (simp at h ⊢; omega))
  have K39 : Hid (Blk ((w3.alloc (.cells #[.string ⟨#[]⟩, .string ⟨#[]⟩, .int .i64 0, .int .i64 0, .int .i64 0] 24)).setRow w3.heap.size #[.string F.here, .string F.there, .int .i64 F.pr, .int .i64 F.near, .int .i64 F.far]) w.heap.size 24 #[.string ga, .string gb, .int .i64 gx, .int .i64 gy, .int .i64 gz]) := Lib.hid ((setRow_other _ _ _ _ (N31.out)).trans K30.out)
  have K40 : Hid (Blk ((w3.alloc (.cells #[.string ⟨#[]⟩, .string ⟨#[]⟩, .int .i64 0, .int .i64 0, .int .i64 0] 24)).setRow w3.heap.size #[.string F.here, .string F.there, .int .i64 F.pr, .int .i64 F.near, .int .i64 F.far]) w2.heap.size 24 #[.string F.here, .string F.there, .int .i64 F.pr, .int .i64 F.near, .int .i64 F.far]) := Lib.hid ((setRow_other _ _ _ _ (N33.out)).trans K32.out)
  have K41 : Hid (Blk ((w3.alloc (.cells #[.string ⟨#[]⟩, .string ⟨#[]⟩, .int .i64 0, .int .i64 0, .int .i64 0] 24)).setRow w3.heap.size #[.string F.here, .string F.there, .int .i64 F.pr, .int .i64 F.near, .int .i64 F.far]) w3.heap.size 24 #[.string F.here, .string F.there, .int .i64 F.pr, .int .i64 F.near, .int .i64 F.far]) := Lib.hid (setRow_heap _ _ _ #[.string F.here, .string F.there, .int .i64 F.pr, .int .i64 F.near, .int .i64 F.far] _ _ K34.out)
  have B42 := Lib.hid (setRow_bel (g := w3.heap.size) B35.out G36.out #[.string F.here, .string F.there, .int .i64 F.pr, .int .i64 F.near, .int .i64 F.far])
  have B43 := Lib.hid (setRow_bel (g := w3.heap.size) B37.out G38.out #[.string F.here, .string F.there, .int .i64 F.pr, .int .i64 F.near, .int .i64 F.far])
  go_wp2_with (refine wpList_store_row rfl 24 (.tmp 16) (.tmp 56) rfl w3.heap.size #[.string F.here, .string F.there, .int .i64 F.pr, .int .i64 F.near, .int .i64 F.far] rfl rfl 24 _ K34.out (by kernel_rfl) rfl (oneF _ _ _ _ _) ?_)
  generalize ((w3.alloc (.cells #[.string ⟨#[]⟩, .string ⟨#[]⟩, .int .i64 0, .int .i64 0, .int .i64 0] 24)).setRow w3.heap.size #[.string F.here, .string F.there, .int .i64 F.pr, .int .i64 F.near, .int .i64 F.far]) = w4 at *
  have Xg : Hid (∀ V, Below w4.drew.heap.size w4.drew V → Blk V w.heap.size 24 #[.string ga, .string gb, .int .i64 gx, .int .i64 gy, .int .i64 gz]) := Lib.hid fun V hV => Blk.below (show Blk w4.drew w.heap.size 24 #[.string ga, .string gb, .int .i64 gx, .int .i64 gy, .int .i64 gz] from K39.out) hV (Blk.lt K39.out)
  have Xf : Hid (∀ V, Below w4.drew.heap.size w4.drew V → Blk V w2.heap.size 24 #[.string F.here, .string F.there, .int .i64 F.pr, .int .i64 F.near, .int .i64 F.far]) := Lib.hid fun V hV => Blk.below (show Blk w4.drew w2.heap.size 24 #[.string F.here, .string F.there, .int .i64 F.pr, .int .i64 F.near, .int .i64 F.far] from K40.out) hV (Blk.lt K40.out)
  have Xh : Hid (∀ V, Below w4.drew.heap.size w4.drew V → Blk V w3.heap.size 24 #[.string F.here, .string F.there, .int .i64 F.pr, .int .i64 F.near, .int .i64 F.far]) := Lib.hid fun V hV => Blk.below (show Blk w4.drew w3.heap.size 24 #[.string F.here, .string F.there, .int .i64 F.pr, .int .i64 F.near, .int .i64 F.far] from K41.out) hV (Blk.lt K41.out)
  obtain ⟨sd, hsd⟩ : ∃ s, s = strOfNums l3 := ⟨_, rfl⟩
  have V7 : Hid (∀ V, Below w4.drew.heap.size w4.drew V → (convert 22 9 (.slice A7 n3 c7)).run Try.prog V = .ok (.string sd) V) := Lib.hid fun V hV => by
    rw [hsd]
    exact run_string_bytes (H7.out.below (B43.out.trans ((Draw.below_1 hV).mono B43.out.size)))
  have V3 : Hid (∀ V, Below w4.drew.heap.size w4.drew V → (convert 22 9 (.slice A3 n3 c3)).run Try.prog V = .ok (.string sd) V) := Lib.hid fun V hV => by
    rw [hsd]
    exact run_string_bytes (HA.out.below (B42.out.trans ((Draw.below_1 hV).mono B42.out.size)))
  clear hsd
  refine wp_region_freeP [0, 1, 2, 3, 4, 5, 6, 7, 8, 9, 10, 11, 12, 13, 14, 15, 16, 17, 18, 19, 20, 21, 22, 23, 24] 25 [] [(1, true), (8, true), (13, true), (18, true)] (fun w1 w2 => Below w1.heap.size w1 w2) (fun k' w' v => match k' with
    | 0 => v = .bool true
    | 1 => v = .bool true
    | 2 => v = .slice A7 n3 c7
    | 3 => v = .string sd
    | 4 => v = .slice A3 n3 c3
    | 5 => v = .string sd
    | 6 => v = .bool true
    | 7 => v = .bool true
    | 8 => v = .bool true
    | 9 => v = .agg #[.string F.here, .string F.there, .int .i64 F.pr, .int .i64 F.near, .int .i64 F.far]
    | 10 => v = .agg #[.string F.here, .string F.there, .int .i64 F.pr, .int .i64 F.near, .int .i64 F.far]
    | 11 => v = .bool true
    | 12 => v = .bool true
    | 13 => v = .bool true
    | 14 => v = .int .i64 ((k : Int))
    | 15 => v = .int .i64 ((k : Int))
    | 16 => v = .bool true
    | 17 => v = .bool true
    | 18 => v = .bool true
    | 19 => v = .agg #[.string ga, .string gb, .int .i64 gx, .int .i64 gy, .int .i64 gz]
    | 20 => v = .agg #[.string gb, .string ga, .int .i64 gx, .int .i64 gz, .int .i64 gy]
    | 21 => v = .agg #[.string ga, .string gb, .int .i64 gx, .int .i64 gy, .int .i64 gz]
    | 22 => v = .agg #[.string gb, .string ga, .int .i64 gx, .int .i64 gz, .int .i64 gy]
    | 23 => v = .bool true
    | _ => v = .bool true) (by kernel_rfl) (by kernel_rfl) (fun q hq w v hv => ?_) (Below.refl _ _) (fun _ _ _ h k => h.trans (k.mono h.size)) (fun k' w1 w2 v h => match k' with
    | 0 => fun x => x
    | 1 => fun x => x
    | 2 => fun x => x
    | 3 => fun x => x
    | 4 => fun x => x
    | 5 => fun x => x
    | 6 => fun x => x
    | 7 => fun x => x
    | 8 => fun x => x
    | 9 => fun x => x
    | 10 => fun x => x
    | 11 => fun x => x
    | 12 => fun x => x
    | 13 => fun x => x
    | 14 => fun x => x
    | 15 => fun x => x
    | 16 => fun x => x
    | 17 => fun x => x
    | 18 => fun x => x
    | 19 => fun x => x
    | 20 => fun x => x
    | 21 => fun x => x
    | 22 => fun x => x
    | 23 => fun x => x
    | _ + 24 => fun x => x) (fun _ _ _ _ _ h => h) ?_ _ (by rfl) ?_
  · simp only [List.mem_cons, List.not_mem_nil, or_false] at hq
    rcases hq with rfl | rfl | rfl | rfl <;> exact hv
  · refine obs_cons (by rfl) (fun vals w' hgr hdep K hK => ?_) (obs_cons (by rfl) (fun vals w' hgr hdep K hK => ?_) (obs_cons (by rfl) (fun vals w' hgr hdep K hK => ?_) (obs_cons (by rfl) (fun vals w' hgr hdep K hK => ?_) (obs_cons (by rfl) (fun vals w' hgr hdep K hK => ?_) (obs_cons (by rfl) (fun vals w' hgr hdep K hK => ?_) (obs_cons (by rfl) (fun vals w' hgr hdep K hK => ?_) (obs_cons (by rfl) (fun vals w' hgr hdep K hK => ?_) (obs_cons (by rfl) (fun vals w' hgr hdep K hK => ?_) (obs_cons (by rfl) (fun vals w' hgr hdep K hK => ?_) (obs_cons (by rfl) (fun vals w' hgr hdep K hK => ?_) (obs_cons (by rfl) (fun vals w' hgr hdep K hK => ?_) (obs_cons (by rfl) (fun vals w' hgr hdep K hK => ?_) (obs_cons (by rfl) (fun vals w' hgr hdep K hK => ?_) (obs_cons (by rfl) (fun vals w' hgr hdep K hK => ?_) (obs_cons (by rfl) (fun vals w' hgr hdep K hK => ?_) (obs_cons (by rfl) (fun vals w' hgr hdep K hK => ?_) (obs_cons (by rfl) (fun vals w' hgr hdep K hK => ?_) (obs_cons (by rfl) (fun vals w' hgr hdep K hK => ?_) (obs_cons (by rfl) (fun vals w' hgr hdep K hK => ?_) (obs_cons (by rfl) (fun vals w' hgr hdep K hK => ?_) (obs_cons (by rfl) (fun vals w' hgr hdep K hK => ?_) (obs_cons (by rfl) (fun vals w' hgr hdep K hK => ?_) (obs_cons (by rfl) (fun vals w' hgr hdep K hK => ?_) (obs_cons (by rfl) (fun vals w' hgr hdep K hK => ?_) (obs_nil)))))))))))))))))))))))))
    · exact wp_call 10 [] _ rfl ent_awake [] rfl (fun v w'' => v = .bool true ∧ Below w'.heap.size w' w'') ((awake_any w').mono fun e w'' ⟨h1, h2⟩ => ⟨_, h1, rfl, h2⟩) (fun v w'' ⟨h1, h2⟩ => hK _ _ h2 h1)
    · exact wp_move (.tmp 58) rfl _ ((at_dst 0 (by kernel_rfl)).trans (hdep 0 (by simp) (by kernel_rfl))) (hK _ _ (Below.refl _ _) rfl)
    · exact wp_move (.tmp 13) rfl _ (at_out _ (by kernel_rfl) rfl) (hK _ _ (Below.refl _ _) rfl)
    · exact wp_conv (.tmp 60) rfl _ _ ((at_dst 2 (by kernel_rfl)).trans (hdep 2 (by simp) (by kernel_rfl))) (V7.out _ hgr) (hK _ _ (Below.refl _ _) rfl)
    · exact wp_move (.tmp 3) rfl _ (at_out _ (by kernel_rfl) rfl) (hK _ _ (Below.refl _ _) rfl)
    · exact wp_conv (.tmp 62) rfl _ _ ((at_dst 4 (by kernel_rfl)).trans (hdep 4 (by simp) (by kernel_rfl))) (V3.out _ hgr) (hK _ _ (Below.refl _ _) rfl)
    · exact wp_bin (.tmp 61) (.tmp 63) rfl _ _ _ ((at_dst 3 (by kernel_rfl)).trans (hdep 3 (by simp) (by kernel_rfl))) ((at_dst 5 (by kernel_rfl)).trans (hdep 5 (by simp) (by kernel_rfl))) (Draw.b_eqs _ _ _ _) (hK _ _ (Below.refl _ _) rfl)
    · exact Draw.st_pick (.tmp 59) (.tmp 64) _ rfl _ ((at_dst 1 (by kernel_rfl)).trans (hdep 1 (by simp) (by kernel_rfl))) ((at_dst 6 (by kernel_rfl)).trans (hdep 6 (by simp) (by kernel_rfl))) (hK _ _ (Below.refl _ _) rfl)
    · exact wp_move (.tmp 65) rfl _ ((at_dst 7 (by kernel_rfl)).trans (hdep 7 (by simp) (by kernel_rfl))) (hK _ _ (Below.refl _ _) rfl)
    · exact st_load_row 24 (.tmp 14) rfl w2.heap.size (at_out _ (by kernel_rfl) rfl) 24 #[.string F.here, .string F.there, .int .i64 F.pr, .int .i64 F.near, .int .i64 F.far] (0, 0) _ (Xf.out w' hgr) Try.underlying24 rfl (by kernel_rfl) (hK _ _ (Below.refl _ _) rfl)
    · exact st_load_row 24 (.tmp 16) rfl w3.heap.size (at_out _ (by kernel_rfl) rfl) 24 #[.string F.here, .string F.there, .int .i64 F.pr, .int .i64 F.near, .int .i64 F.far] (0, 0) _ (Xh.out w' hgr) Try.underlying24 rfl (by kernel_rfl) (hK _ _ (Below.refl _ _) rfl)
    · exact wp_bin (.tmp 67) (.tmp 68) rfl _ _ _ ((at_dst 9 (by kernel_rfl)).trans (hdep 9 (by simp) (by kernel_rfl))) ((at_dst 10 (by kernel_rfl)).trans (hdep 10 (by simp) (by kernel_rfl))) (b_eqF _ _ _ _ _ _ _ _) (hK _ _ (Below.refl _ _) rfl)
    · exact Draw.st_pick (.tmp 66) (.tmp 69) _ rfl _ ((at_dst 8 (by kernel_rfl)).trans (hdep 8 (by simp) (by kernel_rfl))) ((at_dst 11 (by kernel_rfl)).trans (hdep 11 (by simp) (by kernel_rfl))) (hK _ _ (Below.refl _ _) rfl)
    · exact wp_move (.tmp 70) rfl _ ((at_dst 12 (by kernel_rfl)).trans (hdep 12 (by simp) (by kernel_rfl))) (hK _ _ (Below.refl _ _) rfl)
    · exact wp_move (.tmp 15) rfl _ (at_out _ (by kernel_rfl) rfl) (hK _ _ (Below.refl _ _) rfl)
    · exact wp_move (.tmp 17) rfl _ (at_out _ (by kernel_rfl) rfl) (hK _ _ (Below.refl _ _) rfl)
    · exact wp_bin (.tmp 72) (.tmp 73) rfl _ _ _ ((at_dst 14 (by kernel_rfl)).trans (hdep 14 (by simp) (by kernel_rfl))) ((at_dst 15 (by kernel_rfl)).trans (hdep 15 (by simp) (by kernel_rfl))) (Draw.b_eqe _ _ _ _) (hK _ _ (Below.refl _ _) rfl)
    · exact Draw.st_pick (.tmp 71) (.tmp 74) _ rfl _ ((at_dst 13 (by kernel_rfl)).trans (hdep 13 (by simp) (by kernel_rfl))) ((at_dst 16 (by kernel_rfl)).trans (hdep 16 (by simp) (by kernel_rfl))) (hK _ _ (Below.refl _ _) rfl)
    · exact wp_move (.tmp 75) rfl _ ((at_dst 17 (by kernel_rfl)).trans (hdep 17 (by simp) (by kernel_rfl))) (hK _ _ (Below.refl _ _) rfl)
    · exact st_load_row 24 (.tmp 11) rfl w.heap.size (at_out _ (by kernel_rfl) rfl) 24 #[.string ga, .string gb, .int .i64 gx, .int .i64 gy, .int .i64 gz] (0, 0) _ (Xg.out w' hgr) Try.underlying24 rfl (by kernel_rfl) (hK _ _ (Below.refl _ _) rfl)
    · exact wp_call 11 [.tmp 77] _ rfl ent_turned [.agg #[.string ga, .string gb, .int .i64 gx, .int .i64 gy, .int .i64 gz]] (Draw.list1 ((at_dst 19 (by kernel_rfl)).trans (hdep 19 (by simp) (by kernel_rfl)))) (fun v w'' => v = .agg #[.string gb, .string ga, .int .i64 gx, .int .i64 gz, .int .i64 gy] ∧ Below w'.heap.size w' w'') ((TC.out w').mono fun e w'' ⟨h1, h2⟩ => ⟨_, h1, rfl, h2⟩) (fun v w'' ⟨h1, h2⟩ => hK _ _ h2 h1)
    · exact st_load_row 24 (.tmp 11) rfl w.heap.size (at_out _ (by kernel_rfl) rfl) 24 #[.string ga, .string gb, .int .i64 gx, .int .i64 gy, .int .i64 gz] (0, 0) _ (Xg.out w' hgr) Try.underlying24 rfl (by kernel_rfl) (hK _ _ (Below.refl _ _) rfl)
    · exact wp_call 12 [.tmp 79] _ rfl ent_rturned [.agg #[.string ga, .string gb, .int .i64 gx, .int .i64 gy, .int .i64 gz]] (Draw.list1 ((at_dst 21 (by kernel_rfl)).trans (hdep 21 (by simp) (by kernel_rfl)))) (fun v w'' => v = .agg #[.string gb, .string ga, .int .i64 gx, .int .i64 gz, .int .i64 gy] ∧ Below w'.heap.size w' w'') ((TR.out w').mono fun e w'' ⟨h1, h2⟩ => ⟨_, h1, rfl, h2⟩) (fun v w'' ⟨h1, h2⟩ => hK _ _ h2 h1)
    · exact wp_bin (.tmp 78) (.tmp 80) rfl _ _ _ ((at_dst 20 (by kernel_rfl)).trans (hdep 20 (by simp) (by kernel_rfl))) ((at_dst 22 (by kernel_rfl)).trans (hdep 22 (by simp) (by kernel_rfl))) (b_eqF _ _ _ _ _ _ _ _) (hK _ _ (Below.refl _ _) rfl)
    · exact Draw.st_pick (.tmp 76) (.tmp 81) _ rfl _ ((at_dst 18 (by kernel_rfl)).trans (hdep 18 (by simp) (by kernel_rfl))) ((at_dst 23 (by kernel_rfl)).trans (hdep 23 (by simp) (by kernel_rfl))) (hK _ _ (Below.refl _ _) rfl)
  · intro vals w' hgr hG
    have ev : vals 24 = .bool true := hG 24 (by simp)
    refine st_assign (.tmp 82) _ rfl (at_dst 24 (by kernel_rfl)) (wpAnyH_done (by kernel_rfl) ?_ _)
    have BF := Lib.hid (B42.out.trans ((Draw.below_1 hgr).mono B42.out.size))
    clear hG hgr
    simp only [fill, dstAt, List.getElem?_cons_zero, List.getElem?_cons_succ, Option.bind_some, Act.put, List.setIfInBounds_toArray, List.set_cons_zero, List.set_cons_succ]
    rw [ev]
    clear ev
    generalize vals 0 = y0, vals 1 = y1, vals 2 = y2, vals 3 = y3, vals 4 = y4, vals 5 = y5, vals 6 = y6, vals 7 = y7, vals 8 = y8, vals 9 = y9, vals 10 = y10, vals 11 = y11, vals 12 = y12, vals 13 = y13, vals 14 = y14, vals 15 = y15, vals 16 = y16, vals 17 = y17, vals 18 = y18, vals 19 = y19, vals 20 = y20, vals 21 = y21, vals 22 = y22, vals 23 = y23 at *
    generalize w' = wz at *
    go_wp2_with fail
    go_ret
    exact ⟨rfl, BF.out⟩
end Go.Proofs.Ytijlggfcinnfeaa.LawFlows
