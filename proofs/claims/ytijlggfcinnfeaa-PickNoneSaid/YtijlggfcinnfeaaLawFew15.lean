/- few; bytes with their copies. -/
import Derived.Test.YtijlggfcinnfeaaPickA
import Derived.Test.YtijlggfcinnfeaaBoth
set_option linter.unusedVariables false
namespace Go.Proofs.Ytijlggfcinnfeaa.LawFew15
open Go.RowKit Go.Proofs.Ytijlggfcinnfeaa.Mem Go.Proofs.Ytijlggfcinnfeaa.Blk Go.Proofs.Ytijlggfcinnfeaa.Ahead Go.Proofs.Ytijlggfcinnfeaa.PickD Go.Proofs.Ytijlggfcinnfeaa.PickR1 Go.Proofs.Ytijlggfcinnfeaa.PickR2 Go.Proofs.Ytijlggfcinnfeaa.PickR3 Go.Proofs.Ytijlggfcinnfeaa.Pick1 Go.Proofs.Ytijlggfcinnfeaa.Pick2 Go.Proofs.Ytijlggfcinnfeaa.Pick3 Go.Proofs.Ytijlggfcinnfeaa.Pick4 Go.Proofs.Ytijlggfcinnfeaa.Free Go.Proofs.Ytijlggfcinnfeaa.Steps Go.Proofs.Ytijlggfcinnfeaa.Regs Go.Proofs.Ytijlggfcinnfeaa.Com Go.Proofs.Ytijlggfcinnfeaa.Pick5 Go.Proofs.Ytijlggfcinnfeaa.PickA

def sz (p : Pk) (f : Fl) : Nat := p.hl.size + p.hh.size + p.tl.size + p.th.size + f.here.size + f.there.size
def small (p : Pk) (f : Fl) : Prop := p.hl.size ≤ 140737488355328 ∧ p.hh.size ≤ 140737488355328 ∧ p.tl.size ≤ 140737488355328 ∧ p.th.size ≤ 140737488355328 ∧ f.here.size ≤ 140737488355328 ∧ f.there.size ≤ 140737488355328
set_option maxRecDepth 100000 in
set_option maxHeartbeats 1000000 in
theorem few_code (p : Pk) (f : Fl) (w : World) (h : small p f) : Calls Try.prog 13 #[.agg #[.string p.hl, .string p.hh, .string p.tl, .string p.th, .int .i64 p.pr, .int .i64 p.nl, .int .i64 p.nh, .int .i64 p.fl, .int .i64 p.fh], .agg #[.string f.here, .string f.there, .int .i64 f.pr, .int .i64 f.near, .int .i64 f.far]] w fun e w' => e = .returned (.bool (decide (sz p f ≤ 600))) ∧ Below w.heap.size w w' := by
  obtain ⟨r, hr⟩ : ∃ r, r = decide (sz p f ≤ 600) := ⟨_, rfl⟩
  rw [← hr]
  unfold sz at hr
  unfold small at h
  have B48 := Lib.hid (Below.refl w.heap.size w)
  have K49 : Hid (Blk (w.alloc (.cells #[.string p.hl, .string p.hh, .string p.tl, .string p.th, .int .i64 p.pr, .int .i64 p.nl, .int .i64 p.nh, .int .i64 p.fl, .int .i64 p.fh] 37)) w.heap.size 37 #[.string p.hl, .string p.hh, .string p.tl, .string p.th, .int .i64 p.pr, .int .i64 p.nl, .int .i64 p.nh, .int .i64 p.fl, .int .i64 p.fh]) := Lib.hid (by have h := Blk.new w 37 #[.string p.hl, .string p.hh, .string p.tl, .string p.th, .int .i64 p.pr, .int .i64 p.nl, .int .i64 p.nh, .int .i64 p.fl, .int .i64 p.fh]; first | exact h | simpa using h)
  have B50 := Lib.hid (B48.out.alloc (by have h := B48.out.size; first | exact h | omega | (simp at h ⊢; omega)) (.cells #[.string p.hl, .string p.hh, .string p.tl, .string p.th, .int .i64 p.pr, .int .i64 p.nl, .int .i64 p.nh, .int .i64 p.fl, .int .i64 p.fh] 37))
  have G51 : Hid (w.heap.size ≤ w.heap.size) := Lib.hid (by have h := B48.out.size; first | exact h | omega | (simp at h ⊢; omega))
  have K52 : Hid (Blk ((w.alloc (.cells #[.string p.hl, .string p.hh, .string p.tl, .string p.th, .int .i64 p.pr, .int .i64 p.nl, .int .i64 p.nh, .int .i64 p.fl, .int .i64 p.fh] 37)).alloc (.cells #[.string f.here, .string f.there, .int .i64 f.pr, .int .i64 f.near, .int .i64 f.far] 24)) w.heap.size 37 #[.string p.hl, .string p.hh, .string p.tl, .string p.th, .int .i64 p.pr, .int .i64 p.nl, .int .i64 p.nh, .int .i64 p.fl, .int .i64 p.fh]) := Lib.hid (Blk.alloc K49.out _)
  have N53 : Hid (w.heap.size ≠ (w.heap.size + 1)) := Lib.hid (by have h := Blk.lt K49.out; first | omega | (simp at h; omega))
  have K54 : Hid (Blk ((w.alloc (.cells #[.string p.hl, .string p.hh, .string p.tl, .string p.th, .int .i64 p.pr, .int .i64 p.nl, .int .i64 p.nh, .int .i64 p.fl, .int .i64 p.fh] 37)).alloc (.cells #[.string f.here, .string f.there, .int .i64 f.pr, .int .i64 f.near, .int .i64 f.far] 24)) (w.heap.size + 1) 24 #[.string f.here, .string f.there, .int .i64 f.pr, .int .i64 f.near, .int .i64 f.far]) := Lib.hid (by have h := Blk.new (w.alloc (.cells #[.string p.hl, .string p.hh, .string p.tl, .string p.th, .int .i64 p.pr, .int .i64 p.nl, .int .i64 p.nh, .int .i64 p.fl, .int .i64 p.fh] 37)) 24 #[.string f.here, .string f.there, .int .i64 f.pr, .int .i64 f.near, .int .i64 f.far]; first | exact h | simpa using h)
  have B55 := Lib.hid (B50.out.alloc (by have h := B50.out.size; first | exact h | omega | (simp at h ⊢; omega)) (.cells #[.string f.here, .string f.there, .int .i64 f.pr, .int .i64 f.near, .int .i64 f.far] 24))
  have G56 : Hid (w.heap.size ≤ (w.heap.size + 1)) := Lib.hid (by have h := B50.out.size; first | exact h | omega | (simp at h ⊢; omega))
  have c57 : ((w.alloc (.cells #[.string p.hl, .string p.hh, .string p.tl, .string p.th, .int .i64 p.pr, .int .i64 p.nl, .int .i64 p.nh, .int .i64 p.fl, .int .i64 p.fh] 37)).alloc (.cells #[.string f.here, .string f.there, .int .i64 f.pr, .int .i64 f.near, .int .i64 f.far] 24)).cell? ⟨w.heap.size, 0, none⟩ = some (.string p.hl) := K52.out.cell 0
  have c58 : ((w.alloc (.cells #[.string p.hl, .string p.hh, .string p.tl, .string p.th, .int .i64 p.pr, .int .i64 p.nl, .int .i64 p.nh, .int .i64 p.fl, .int .i64 p.fh] 37)).alloc (.cells #[.string f.here, .string f.there, .int .i64 f.pr, .int .i64 f.near, .int .i64 f.far] 24)).cell? ⟨w.heap.size, 1, none⟩ = some (.string p.hh) := K52.out.cell 1
  have c59 : ((w.alloc (.cells #[.string p.hl, .string p.hh, .string p.tl, .string p.th, .int .i64 p.pr, .int .i64 p.nl, .int .i64 p.nh, .int .i64 p.fl, .int .i64 p.fh] 37)).alloc (.cells #[.string f.here, .string f.there, .int .i64 f.pr, .int .i64 f.near, .int .i64 f.far] 24)).cell? ⟨w.heap.size, 2, none⟩ = some (.string p.tl) := K52.out.cell 2
  have c60 : ((w.alloc (.cells #[.string p.hl, .string p.hh, .string p.tl, .string p.th, .int .i64 p.pr, .int .i64 p.nl, .int .i64 p.nh, .int .i64 p.fl, .int .i64 p.fh] 37)).alloc (.cells #[.string f.here, .string f.there, .int .i64 f.pr, .int .i64 f.near, .int .i64 f.far] 24)).cell? ⟨w.heap.size, 3, none⟩ = some (.string p.th) := K52.out.cell 3
  have c61 : ((w.alloc (.cells #[.string p.hl, .string p.hh, .string p.tl, .string p.th, .int .i64 p.pr, .int .i64 p.nl, .int .i64 p.nh, .int .i64 p.fl, .int .i64 p.fh] 37)).alloc (.cells #[.string f.here, .string f.there, .int .i64 f.pr, .int .i64 f.near, .int .i64 f.far] 24)).cell? ⟨(w.heap.size + 1), 0, none⟩ = some (.string f.here) := K54.out.cell 0
  have c62 : ((w.alloc (.cells #[.string p.hl, .string p.hh, .string p.tl, .string p.th, .int .i64 p.pr, .int .i64 p.nl, .int .i64 p.nh, .int .i64 p.fl, .int .i64 p.fh] 37)).alloc (.cells #[.string f.here, .string f.there, .int .i64 f.pr, .int .i64 f.near, .int .i64 f.far] 24)).cell? ⟨(w.heap.size + 1), 1, none⟩ = some (.string f.there) := K54.out.cell 1
  have u0 : IntKind.i64.wrap ((p.hl.size : Int) + (p.hh.size : Int)) = (p.hl.size : Int) + (p.hh.size : Int) := IntWalk.i64_in _ (by omega)
  have u1 : IntKind.i64.wrap ((p.hl.size : Int) + (p.hh.size : Int) + (p.tl.size : Int)) = (p.hl.size : Int) + (p.hh.size : Int) + (p.tl.size : Int) := IntWalk.i64_in _ (by omega)
  have u2 : IntKind.i64.wrap ((p.hl.size : Int) + (p.hh.size : Int) + (p.tl.size : Int) + (p.th.size : Int)) = (p.hl.size : Int) + (p.hh.size : Int) + (p.tl.size : Int) + (p.th.size : Int) := IntWalk.i64_in _ (by omega)
  have u3 : IntKind.i64.wrap ((p.hl.size : Int) + (p.hh.size : Int) + (p.tl.size : Int) + (p.th.size : Int) + (f.here.size : Int)) = (p.hl.size : Int) + (p.hh.size : Int) + (p.tl.size : Int) + (p.th.size : Int) + (f.here.size : Int) := IntWalk.i64_in _ (by omega)
  have u4 : IntKind.i64.wrap ((p.hl.size : Int) + (p.hh.size : Int) + (p.tl.size : Int) + (p.th.size : Int) + (f.here.size : Int) + (f.there.size : Int)) = (p.hl.size : Int) + (p.hh.size : Int) + (p.tl.size : Int) + (p.th.size : Int) + (f.here.size : Int) + (f.there.size : Int) := IntWalk.i64_in _ (by omega)
  have g1 : decide ((p.hl.size : Int) + (p.hh.size : Int) + (p.tl.size : Int) + (p.th.size : Int) + (f.here.size : Int) + (f.there.size : Int) ≤ 600) = r := by rw [hr, decide_eq_decide]; omega
  clear hr h
  go_enter Try.func13, Try.ntmps13
  go_wp2_with fail
  go_ret
  exact ⟨by first | rfl | rw [g1], B55.out⟩
theorem both_one (A : Option Addr) (n c : Nat) (l : List Int) (w : World) (B : Nat) (h : Holds w B A n c l) (hB : B ≤ w.heap.size) (hn : n ≤ 1048576) (g : Nat) (hg : w.heap.size = g) (cs : Array Value) (hc : cs = #[.slice A n c]) :
    Calls Try.prog 7 #[.slice (some ⟨g, 0, none⟩) 1 1] (w.alloc (.cells cs 22)) fun e w' => ∃ A' c', e = .returned (.slice A' n c') ∧ Holds w' w'.heap.size A' n c' l ∧ Below w.heap.size w w' := by
  have q := Both.both_lit hB [⟨A, n, c, l⟩] cs 22 (by rw [hc]; rfl) (Both.mem1 h) g 1 hg rfl (by decide) (by show n + 0 ≤ 1048576; omega)
  rw [show Both.total [⟨A, n, c, l⟩] = n from rfl, show Both.flat [⟨A, n, c, l⟩] = l by simp [Both.flat]] at q
  exact q.mono fun e w' ⟨A', c', h1, h2, _, h3⟩ => ⟨A', c', h1, h2, h3⟩
theorem ent_awake : Enters Try.prog 10 := enters_of Try.func10 (by kernel_rfl) rfl
end Go.Proofs.Ytijlggfcinnfeaa.LawFew15
