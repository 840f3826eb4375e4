/- The code's divide. -/
import Derived.Test.YtdnkbefpbehllaaDoorM35
import Derived.Test.YtdnkbefpbehllaaDoorChecked
import Derived.WalkKit
import Derived.ProofKit
import Derived.LaidEql
import Derived.Stop.Asserts
import Derived.RowKitTokens
import Derived.Below
import Derived.Lib.Hide
import Derived.LoopTactic
set_option linter.unusedVariables false
namespace Go.Proofs.YtdnkbefpbehllaaDoor.Esp5
open Go.RowKit Go.Proofs.YtdnkbefpbehllaaDoor.Sums Go.Proofs.YtdnkbefpbehllaaDoor.Mem Go.Proofs.YtdnkbefpbehllaaDoor.Blk Go.Proofs.YtdnkbefpbehllaaDoor.Bits3 Go.Proofs.YtdnkbefpbehllaaDoor.Ints Go.Proofs.YtdnkbefpbehllaaDoor.AesB Go.Proofs.YtdnkbefpbehllaaDoor.PadR Go.Proofs.YtdnkbefpbehllaaDoor.EspD Go.Proofs.YtdnkbefpbehllaaDoor.CutA
open Go.Proofs.YtdnkbefpbehllaaDoor.CtrD (four four_byt)
open Go.Proofs.YtdnkbefpbehllaaDoor.EspR2 Go.Proofs.YtdnkbefpbehllaaDoor.Esp1 Go.Proofs.YtdnkbefpbehllaaDoor.Esp2 Go.Proofs.YtdnkbefpbehllaaDoor.Regs Go.Proofs.YtdnkbefpbehllaaDoor.Free Go.Proofs.YtdnkbefpbehllaaDoor.Steps Go.Proofs.YtdnkbefpbehllaaDoor.Dig1 Go.Proofs.YtdnkbefpbehllaaDoor.Esp3 Go.Proofs.YtdnkbefpbehllaaDoor.Esp4
open Go.Proofs.YtdnkbefpbehllaaDoor.Both (Row All total flat)

theorem ent_high : Enters Tryd.prog 18 := enters_of Tryd.func18 (by kernel_rfl) rfl
theorem build_pay (A0 : Option Addr) (n0 c0 : Nat) (A1 : Option Addr) (n1 c1 : Nat) (A2 : Option Addr) (n2 c2 : Nat) (A3 : Option Addr) (n3 c3 : Nat) (A4 : Option Addr) (n4 c4 : Nat) (w : World) :
    (Instr.build 47 #[(0, .slice A0 n0 c0), (1, .slice A1 n1 c1), (2, .slice A2 n2 c2), (3, .slice A3 n3 c3), (4, .slice A4 n4 c4)]).run Tryd.prog w = .ok (.agg #[.slice A0 n0 c0, .slice A1 n1 c1, .slice A2 n2 c2, .slice A3 n3 c3, .slice A4 n4 c4]) w := by kernel_rfl
theorem one5 (A0 : Option Addr) (n0 c0 : Nat) (A1 : Option Addr) (n1 c1 : Nat) (A2 : Option Addr) (n2 c2 : Nat) (A3 : Option Addr) (n3 c3 : Nat) (A4 : Option Addr) (n4 c4 : Nat) : (#[.slice A0 n0 c0, .slice A1 n1 c1, .slice A2 n2 c2, .slice A3 n3 c3, .slice A4 n4 c4] : Array Value).all (·.oneCell') = true := by simp [Value.oneCell']
theorem list5q {f : Operand → Value} {x0 x1 x2 x3 x4 : Operand} {v0 v1 v2 v3 v4 : Value} (h0 : f x0 = v0) (h1 : f x1 = v1) (h2 : f x2 = v2) (h3 : f x3 = v3) (h4 : f x4 = v4) :
    [(0, x0), (1, x1), (2, x2), (3, x3), (4, x4)].map (fun q : Nat × Operand => (q.1, f q.2)) = [(0, v0), (1, v1), (2, v2), (3, v3), (4, v4)] := by simp [h0, h1, h2, h3, h4]
theorem setRow_blk {w : World} {g : Nat} {t : TypeId} {old : Array Value} (h : Blk w g t old) (cs : Array Value) : Blk (w.setRow g cs) g t cs := setRow_heap w g old cs t (0, 0) h
theorem setRow_bel {w W : World} {g B : Nat} (h : Below B w W) (hg : B ≤ g) (cs : Array Value) : Below B w (W.setRow g cs) :=
  ⟨h.os, h.tape, h.output, by simpa [World.setRow] using h.size, fun k hk => (setRow_other W g k cs (by omega)).trans (h.block k hk)⟩
theorem setRow_size (W : World) (g : Nat) (cs : Array Value) : (W.setRow g cs).heap.size = W.heap.size := by simp [World.setRow]
theorem zp_no (i : Nat) (z : Int) : (#[.slice none 0 0, .slice none 0 0, .slice none 0 0, .slice none 0 0, .slice none 0 0] : Array Value)[i]? ≠ some (.int .u8 z) := by
  rcases i with _ | _ | _ | _ | _ | i <;> simp
theorem holds_set {w : World} {B n c g : Nat} {A : Option Addr} {l : List Int} (h : Holds w B A n c l) {t : TypeId} (hg : Blk w g t #[.slice none 0 0, .slice none 0 0, .slice none 0 0, .slice none 0 0, .slice none 0 0]) (cs : Array Value) : Holds (w.setRow g cs) B A n c l :=
  ⟨h.1, h.2.1, h.2.2.1, h.2.2.2.1, fun hn => by
    obtain ⟨b, o, e, hb, hc⟩ := h.2.2.2.2 hn
    refine ⟨b, o, e, hb, fun j z hz => ?_⟩
    have z1 := hc j z hz
    have ne : b ≠ g := fun q => by
      subst q
      rw [hg.cell] at z1
      exact zp_no _ _ z1
    have e2 := setRow_other w g b cs ne
    simp only [World.cell?] at z1 ⊢
    rw [e2]
    exact z1⟩
theorem below_drewN_1 {w w' : World} (h : Below w.drew.heap.size w.drew w') : Below w.heap.size w w' := (below_drewN (Below.refl w.heap.size w) 1).trans h

set_option maxRecDepth 100000 in
set_option maxHeartbeats 2000000 in
theorem divide_no (sp : Int) (ky sl mc : ByteArray) (es : Bool) (wn : Int) (q : Nat) (hq : q < 18446744073709551616) (b p n c : Nat) (l : List Int) (w : World) (B : Nat) (h : Holds w B (some ⟨b, p, none⟩) n c l) (hB : B ≤ w.heap.size) (h36 : 36 ≤ n) (hn : n ≤ 1000000) (N3 : Nat) (hN3 : N3 = if es then 4 else 0) (E : Nat) (hE : E = n - 16) :
    Calls Tryd.prog 26 #[.agg #[.int .i64 sp, .string ky, .string sl, .string mc, .bool es, .int .i64 wn], .int .u64 (q : Int), .slice (some ⟨b, p, none⟩) n c] w fun e w' => ∃ A3 c3, e = .returned (.agg #[.slice (some ⟨b, p, none⟩) 8 c, .slice (some (adr b p c 8)) 8 (c - 8), .slice (some (adr b p c 16)) (E - 16) (c - 16), .slice A3 N3 c3, .slice (some (adr b p c E)) (n - E) (c - E)]) ∧ Holds w' w'.heap.size A3 N3 c3 (ints (upL es q)) ∧ Below w.heap.size w w' := by
  have HC := Lib.hid h.2.1
  have NE : Hid (36 ≤ n ∧ E = n - 16) := Lib.hid ⟨h36, hE⟩
  have E16 : 16 ≤ E := by omega
  have EN : E ≤ n := by omega
  have EC : E ≤ c := by have := h.2.1; omega
  have c16 : 16 ≤ c := by omega
  have HI : Hid (∀ W, Calls Tryd.prog 18 #[.agg #[.int .i64 sp, .string ky, .string sl, .string mc, .bool es, .int .i64 wn], .int .u64 (q : Int)] W fun e w' => ∃ v, e = .returned v ∧ (∃ A3 c3, v = .slice A3 N3 c3 ∧ Holds w' w'.heap.size A3 N3 c3 (ints (upL es q))) ∧ Below W.heap.size W w') := Lib.hid fun W => (high_no sp ky sl mc es wn q hq W).mono fun e w' ⟨v, h1, h2, h3⟩ => ⟨v, h1, by rw [hN3]; exact h2, h3⟩
  have f1 : IntKind.i64.wrap ((n : Int) - 16) = (E : Int) := by rw [IntWalk.i64_in _ (by omega)]; omega
  have nc := h.2.1
  obtain ⟨g, hg⟩ : ∃ g, g = w.heap.size := ⟨_, rfl⟩
  obtain ⟨g6, hg6⟩ : ∃ g6, g6 = w.heap.size + 1 := ⟨_, rfl⟩
  have gs : (w.alloc (.cells #[.int .i64 sp, .string ky, .string sl, .string mc, .bool es, .int .i64 wn] 23)).heap.size = g6 := by rw [hg6]; simp
  obtain ⟨W, hW⟩ : ∃ W, W = (w.alloc (.cells #[.int .i64 sp, .string ky, .string sl, .string mc, .bool es, .int .i64 wn] 23)).alloc (.cells #[.slice none 0 0, .slice none 0 0, .slice none 0 0, .slice none 0 0, .slice none 0 0] 47) := ⟨_, rfl⟩
  have KS : Blk W g 23 #[.int .i64 sp, .string ky, .string sl, .string mc, .bool es, .int .i64 wn] := by rw [hW, hg]; exact Blk.alloc (Blk.new w 23 #[.int .i64 sp, .string ky, .string sl, .string mc, .bool es, .int .i64 wn]) _
  have KP : Blk W g6 47 #[.slice none 0 0, .slice none 0 0, .slice none 0 0, .slice none 0 0, .slice none 0 0] := by
    have := Blk.new (w.alloc (.cells #[.int .i64 sp, .string ky, .string sl, .string mc, .bool es, .int .i64 wn] 23)) 47 #[.slice none 0 0, .slice none 0 0, .slice none 0 0, .slice none 0 0, .slice none 0 0]
    rw [gs] at this
    rw [hW]
    exact this
  have B2 : Hid (Below w.heap.size w W) := Lib.hid (by rw [hW]; exact ((Below.refl w.heap.size w).alloc (Nat.le_refl _) _).alloc (by simp) _)
  have G6 : Hid (w.heap.size ≤ g6) := Lib.hid (by omega)
  have X : Hid (∀ V, Below W.drew.heap.size W.drew V → Blk V g 23 #[.int .i64 sp, .string ky, .string sl, .string mc, .bool es, .int .i64 wn]) := Lib.hid fun V hV => Blk.below (Blk.drew KS) hV (Blk.lt KS)
  have PG : Hid (∀ V, Below W.drew.heap.size W.drew V → Blk V g6 47 #[.slice none 0 0, .slice none 0 0, .slice none 0 0, .slice none 0 0, .slice none 0 0]) := Lib.hid fun V hV => Blk.below (Blk.drew KP) hV (Blk.lt KP)
  have EW : Hid ((w.alloc (.cells #[.int .i64 sp, .string ky, .string sl, .string mc, .bool es, .int .i64 wn] 23)).alloc (.cells #[.slice none 0 0, .slice none 0 0, .slice none 0 0, .slice none 0 0, .slice none 0 0] 47) = W) := Lib.hid hW.symm
  have GE : Hid (g = w.heap.size ∧ g6 = w.heap.size + 1) := Lib.hid ⟨hg, hg6⟩
  have HH := Lib.hid h
  generalize ints (upL es q) = UL at *
  clear hW hg hg6 gs KS KP h h36 hn hN3 hE hq
  go_enter Tryd.func26, Tryd.ntmps26
  go_wp2_with fail
  rw [EW.out, ← GE.out.2, ← GE.out.1]
  refine wp_region_free [0, 1, 2, 3, 4, 5, 6, 7, 8, 9, 10, 11, 12, 13] 14 [] (fun w1 w2 => Below w1.heap.size w1 w2) (fun k' w' v => match k' with
    | 0 => v = .slice (some ⟨b, p, none⟩) n c
    | 1 => v = .slice (some ⟨b, p, none⟩) 8 c
    | 2 => v = .slice (some ⟨b, p, none⟩) n c
    | 3 => v = .slice (some (adr b p c 8)) 8 (c - 8)
    | 4 => v = .slice (some ⟨b, p, none⟩) n c
    | 5 => v = .int .i64 ((E : Int))
    | 6 => v = .slice (some (adr b p c 16)) (E - 16) (c - 16)
    | 7 => v = .agg #[.int .i64 sp, .string ky, .string sl, .string mc, .bool es, .int .i64 wn]
    | 8 => v = .int .u64 (q : Int)
    | 9 => ∃ A3 c3, v = .slice A3 N3 c3 ∧ Holds w' w'.heap.size A3 N3 c3 UL
    | 10 => v = .slice (some ⟨b, p, none⟩) n c
    | 11 => v = .int .i64 ((E : Int))
    | 12 => v = .slice (some (adr b p c E)) (n - E) (c - E)
    | _ => ∃ A3 c3, v = .agg #[.slice (some ⟨b, p, none⟩) 8 c, .slice (some (adr b p c 8)) (16 - 8) (c - 8), .slice (some (adr b p c 16)) (E - 16) (c - 16), .slice A3 N3 c3, .slice (some (adr b p c E)) (n - E) (c - E)] ∧ Holds w' w'.heap.size A3 N3 c3 UL) (by kernel_rfl) (by kernel_rfl) (Below.refl _ _) (fun _ _ _ h k => h.trans (k.mono h.size)) (fun k' w1 w2 v h => match k' with
    | 0 => fun x => x
    | 1 => fun x => x
    | 2 => fun x => x
    | 3 => fun x => x
    | 4 => fun x => x
    | 5 => fun x => x
    | 6 => fun x => x
    | 7 => fun x => x
    | 8 => fun x => x
    | 9 => fun ⟨A3, c3, e, x⟩ => ⟨A3, c3, e, (x.below h).more h.size⟩
    | 10 => fun x => x
    | 11 => fun x => x
    | 12 => fun x => x
    | _ + 13 => fun ⟨A3, c3, e, x⟩ => ⟨A3, c3, e, (x.below h).more h.size⟩) (fun _ _ _ _ _ h => h) ?_ _ (by rfl) ?_
  · refine obs_cons (by rfl) (fun vals w' hgr hdep K hK => ?_) (obs_cons (by rfl) (fun vals w' hgr hdep K hK => ?_) (obs_cons (by rfl) (fun vals w' hgr hdep K hK => ?_) (obs_cons (by rfl) (fun vals w' hgr hdep K hK => ?_) (obs_cons (by rfl) (fun vals w' hgr hdep K hK => ?_) (obs_cons (by rfl) (fun vals w' hgr hdep K hK => ?_) (obs_cons (by rfl) (fun vals w' hgr hdep K hK => ?_) (obs_cons (by rfl) (fun vals w' hgr hdep K hK => ?_) (obs_cons (by rfl) (fun vals w' hgr hdep K hK => ?_) (obs_cons (by rfl) (fun vals w' hgr hdep K hK => ?_) (obs_cons (by rfl) (fun vals w' hgr hdep K hK => ?_) (obs_cons (by rfl) (fun vals w' hgr hdep K hK => ?_) (obs_cons (by rfl) (fun vals w' hgr hdep K hK => ?_) (obs_cons (by rfl) (fun vals w' hgr hdep K hK => ?_) (obs_nil))))))))))))))
    · exact wp_move (.tmp 2) rfl _ (at_out _ (by kernel_rfl) rfl) (hK _ _ (Below.refl _ _) rfl)
    · exact wp_slice (.tmp 11) rfl _ _ none (some (.int .i64 8)) none ((at_dst 0 (by kernel_rfl)).trans (hdep 0 (by simp) (by kernel_rfl))) rfl rfl rfl (MacU.cut_begin _ n c 8 (by have := NE.out; omega) HC.out _) (hK _ _ (Below.refl _ _) rfl)
    · exact wp_move (.tmp 2) rfl _ (at_out _ (by kernel_rfl) rfl) (hK _ _ (Below.refl _ _) rfl)
    · exact wp_slice (.tmp 13) rfl _ _ (some (.int .i64 8)) (some (.int .i64 16)) none ((at_dst 2 (by kernel_rfl)).trans (hdep 2 (by simp) (by kernel_rfl))) rfl rfl rfl (cutA_lh b p n c 8 16 _ (by omega) (by omega)) (hK _ _ (Below.refl _ _) rfl)
    · exact wp_move (.tmp 2) rfl _ (at_out _ (by kernel_rfl) rfl) (hK _ _ (Below.refl _ _) rfl)
    · exact wp_move (.tmp 7) rfl _ (at_out _ (by kernel_rfl) rfl) (hK _ _ (Below.refl _ _) rfl)
    · exact wp_slice (.tmp 15) rfl _ _ (some (.int .i64 16)) (some (.int .i64 ((E : Int)))) none ((at_dst 4 (by kernel_rfl)).trans (hdep 4 (by simp) (by kernel_rfl))) rfl (congrArg some ((at_dst 5 (by kernel_rfl)).trans (hdep 5 (by simp) (by kernel_rfl)))) rfl (cutA_lh b p n c 16 E _ (by omega) (by omega)) (hK _ _ (Below.refl _ _) rfl)
    · exact st_load_row 23 (.tmp 3) rfl g (at_out _ (by kernel_rfl) rfl) 23 _ (0, 0) _ (X.out w' hgr) Tryd.underlying23 rfl (by kernel_rfl) (hK _ _ (Below.refl _ _) rfl)
    · exact wp_move (.tmp 1) rfl _ (at_out _ (by kernel_rfl) rfl) (hK _ _ (Below.refl _ _) rfl)
    · exact wp_call 18 [.tmp 18, .tmp 19] _ rfl ent_high [.agg #[.int .i64 sp, .string ky, .string sl, .string mc, .bool es, .int .i64 wn], .int .u64 (q : Int)] (list2 ((at_dst 7 (by kernel_rfl)).trans (hdep 7 (by simp) (by kernel_rfl))) ((at_dst 8 (by kernel_rfl)).trans (hdep 8 (by simp) (by kernel_rfl)))) (fun v w'' => (∃ A3 c3, v = .slice A3 N3 c3 ∧ Holds w'' w''.heap.size A3 N3 c3 UL) ∧ Below w'.heap.size w' w'') ((HI.out w').mono fun e w'' ⟨v, h1, h2, h3⟩ => ⟨v, h1, h2, h3⟩) (fun v w'' ⟨h1, h2⟩ => hK _ _ h2 h1)
    · exact wp_move (.tmp 2) rfl _ (at_out _ (by kernel_rfl) rfl) (hK _ _ (Below.refl _ _) rfl)
    · exact wp_move (.tmp 7) rfl _ (at_out _ (by kernel_rfl) rfl) (hK _ _ (Below.refl _ _) rfl)
    · exact wp_slice (.tmp 21) rfl _ _ (some (.int .i64 ((E : Int)))) none none ((at_dst 10 (by kernel_rfl)).trans (hdep 10 (by simp) (by kernel_rfl))) (congrArg some ((at_dst 11 (by kernel_rfl)).trans (hdep 11 (by simp) (by kernel_rfl)))) rfl rfl (cutA_l b p n c E _ (by omega) (by omega)) (hK _ _ (Below.refl _ _) rfl)
    · obtain ⟨A3, c3, e9, h9⟩ := hdep 9 (by simp) (by kernel_rfl)
      exact st_build [(0, .tmp 12), (1, .tmp 14), (2, .tmp 17), (3, .tmp 20), (4, .tmp 23)] rfl [(0, .slice (some ⟨b, p, none⟩) 8 c), (1, .slice (some (adr b p c 8)) (16 - 8) (c - 8)), (2, .slice (some (adr b p c 16)) (E - 16) (c - 16)), (3, .slice A3 N3 c3), (4, .slice (some (adr b p c E)) (n - E) (c - E))] (list5q ((at_dst 1 (by kernel_rfl)).trans (hdep 1 (by simp) (by kernel_rfl))) ((at_dst 3 (by kernel_rfl)).trans (hdep 3 (by simp) (by kernel_rfl))) ((at_dst 6 (by kernel_rfl)).trans (hdep 6 (by simp) (by kernel_rfl))) ((at_dst 9 (by kernel_rfl)).trans e9) ((at_dst 12 (by kernel_rfl)).trans (hdep 12 (by simp) (by kernel_rfl)))) (.agg #[.slice (some ⟨b, p, none⟩) 8 c, .slice (some (adr b p c 8)) (16 - 8) (c - 8), .slice (some (adr b p c 16)) (E - 16) (c - 16), .slice A3 N3 c3, .slice (some (adr b p c E)) (n - E) (c - E)]) (build_pay _ _ _ _ _ _ _ _ _ _ _ _ _ _ _ _) (hK _ _ (Below.refl _ _) ⟨A3, c3, rfl, h9⟩)
  · intro vals w' hgr hG
    obtain ⟨A3, c3, e13, h3⟩ := hG 13 (by simp)
    have KG := PG.out w' hgr
    refine st_store_row 47 (.tmp 6) (.tmp 24) rfl g6 #[.slice (some ⟨b, p, none⟩) 8 c, .slice (some (adr b p c 8)) (16 - 8) (c - 8), .slice (some (adr b p c 16)) (E - 16) (c - 16), .slice A3 N3 c3, .slice (some (adr b p c E)) (n - E) (c - E)] (at_out _ (by kernel_rfl) rfl) ((at_dst 13 (by kernel_rfl)).trans e13) 47 _ KG (by kernel_rfl) rfl (one5 _ _ _ _ _ _ _ _ _ _ _ _ _ _ _) (wpAnyH_done (by kernel_rfl) ?_ _)
    have NB := setRow_blk KG #[.slice (some ⟨b, p, none⟩) 8 c, .slice (some (adr b p c 8)) (16 - 8) (c - 8), .slice (some (adr b p c 16)) (E - 16) (c - 16), .slice A3 N3 c3, .slice (some (adr b p c E)) (n - E) (c - E)]
    have BW := Lib.hid (setRow_bel (B2.out.trans ((below_drewN_1 hgr).mono B2.out.size)) G6.out #[.slice (some ⟨b, p, none⟩) 8 c, .slice (some (adr b p c 8)) (16 - 8) (c - 8), .slice (some (adr b p c 16)) (E - 16) (c - 16), .slice A3 N3 c3, .slice (some (adr b p c E)) (n - E) (c - E)])
    have H3 : Hid (Holds (w'.setRow g6 #[.slice (some ⟨b, p, none⟩) 8 c, .slice (some (adr b p c 8)) (16 - 8) (c - 8), .slice (some (adr b p c 16)) (E - 16) (c - 16), .slice A3 N3 c3, .slice (some (adr b p c E)) (n - E) (c - E)]) (w'.setRow g6 #[.slice (some ⟨b, p, none⟩) 8 c, .slice (some (adr b p c 8)) (16 - 8) (c - 8), .slice (some (adr b p c 16)) (E - 16) (c - 16), .slice A3 N3 c3, .slice (some (adr b p c E)) (n - E) (c - E)]).heap.size A3 N3 c3 UL) := Lib.hid (by rw [setRow_size]; exact holds_set h3 KG _)
    clear hG hgr KG h3
    generalize w'.setRow g6 #[.slice (some ⟨b, p, none⟩) 8 c, .slice (some (adr b p c 8)) (16 - 8) (c - 8), .slice (some (adr b p c 16)) (E - 16) (c - 16), .slice A3 N3 c3, .slice (some (adr b p c E)) (n - E) (c - E)] = w2 at *
    simp only [fill, dstAt, List.getElem?_cons_zero, List.getElem?_cons_succ, Option.bind_some, Act.put, List.setIfInBounds_toArray, List.set_cons_zero, List.set_cons_succ]
    rw [e13]
    clear e13
    generalize vals 0 = z0, vals 1 = z1, vals 2 = z2, vals 3 = z3, vals 4 = z4, vals 5 = z5, vals 6 = z6, vals 7 = z7, vals 8 = z8, vals 9 = z9, vals 10 = z10, vals 11 = z11, vals 12 = z12 at *
    go_wp2_with fail
    exact bodyPost_ret (results_cell_row rfl _ _ g6 47 #[.slice (some ⟨b, p, none⟩) 8 c, .slice (some (adr b p c 8)) (16 - 8) (c - 8), .slice (some (adr b p c 16)) (E - 16) (c - 16), .slice A3 N3 c3, .slice (some (adr b p c E)) (n - E) (c - E)] (0, 0) _ rfl NB Tryd.underlying47 rfl (by kernel_rfl)) rfl ⟨A3, c3, rfl, H3.out, BW.out⟩
end Go.Proofs.YtdnkbefpbehllaaDoor.Esp5

/- Closed facts on what errors.Is asks, with numbers of the program's own on both sides. The number 258 is 100 and how many types the translation has; 1 how many package variables. -/
namespace Go.Proofs.YtdnkbefpbehllaaDoor.EspI
open Go.RowKit Go.Extern.Stop Go.Stop Go.Extern
set_option linter.unusedVariables false

theorem typeOfE (v : Value) (w : World) : (ReflectliteType.typeOf #[.iface 27 v]).run Tryd.prog w = .ok (.iface 76 (.agg #[.pointer (some ⟨1, 27, none⟩)])) w := by kernel_rfl
theorem comparableE (w : World) : ((ReflectliteType.method fun t => do Rtype.noPackHeld "Comparable" t; (fun a => Value.bool a.comparable) <$> typeInfo t) #[.agg #[.pointer (some ⟨1, 27, none⟩)]]).run Tryd.prog w = .ok (.bool true) w := by kernel_rfl
theorem methodComparable (v : Value) (w : World) : (Go.method 258 76 v "Comparable").run Tryd.prog w = .ok (89, v) w := by kernel_rfl
theorem noIsE (v : Value) (xT : TypeId) (w : World) : (Instr.typeAssert (.iface 27 v) xT 78 true).run Tryd.prog w = .ok (.tuple #[.nilIface, .bool false]) w := run_typeAssert_lacksB Tryd.underlying78 (by kernel_rfl) (by kernel_rfl) v xT w
theorem noUnwrapE (v : Value) (xT : TypeId) (w : World) : (Instr.typeAssert (.iface 27 v) xT 81 true).run Tryd.prog w = .ok (.tuple #[.nilIface, .bool false]) w := run_typeAssert_lacksB Tryd.underlying81 (by kernel_rfl) (by kernel_rfl) v xT w
theorem noUnwrapsE (v : Value) (xT : TypeId) (w : World) : (Instr.typeAssert (.iface 27 v) xT 83 true).run Tryd.prog w = .ok (.tuple #[.nilIface, .bool false]) w := run_typeAssert_lacksB Tryd.underlying83 (by kernel_rfl) (by kernel_rfl) v xT w
theorem equalIn_iface_int {P : Program} (w : World) (d : Nat) {ti tn : TypeId} {ms : Array (String × TypeId)} {i : TypeInfo} {k : IntKind} (a b : Int)
    (hi : P.underlying ti = some (.interface ms)) (hn : P.underlying tn = some (.int k)) (hinfo : P.info? tn = some i) (hcomp : i.comparable = true) :
    (Op.equalIn (d + 2) ti (.iface tn (.int k a)) (.iface tn (.int k b))).run P w = .ok (a == b) w := by
  simp [Op.equalIn, run_underlying hi, run_underlying hn, typeInfo, hinfo, hcomp]
theorem eql_iface_int {P : Program} (w : World) {ti tn : TypeId} {ms : Array (String × TypeId)} {i : TypeInfo} {k : IntKind} (a b : Int)
    (hi : P.underlying ti = some (.interface ms)) (hn : P.underlying tn = some (.int k)) (hinfo : P.info? tn = some i) (hcomp : i.comparable = true) :
    (binOp .eql ti (.iface tn (.int k a)) (.iface tn (.int k b))).run P w = .ok (.bool (a == b)) w := by
  simp only [binOp]
  simp [Op.equal, Op.maxDepth, equalIn_iface_int w 9998 a b hi hn hinfo hcomp]
theorem compE : (Tryd.prog.info? 27).map (·.comparable) = some true := by kernel_rfl

set_option maxRecDepth 1000000 in
set_option maxHeartbeats 2000000 in
theorem is_errno (k t : Int) (w : World) :
    Calls Tryd.prog 37 #[.iface 27 (.int .i64 k), .iface 27 (.int .i64 t), .bool true] w fun e w' => e = .returned (.bool (k == t)) ∧ w = w' := by
  obtain ⟨i, hi, hcmp⟩ := Option.map_eq_some_iff.1 compE
  have nE := noIsE
  have uE := noUnwrapE
  have vE := noUnwrapsE
  have heq := fun W => eql_iface_int (P := Tryd.prog) W k t Tryd.underlying65 Tryd.underlying27 hi hcmp
  clear hi hcmp
  cases hk : (k == t)
  all_goals
    rw [hk] at heq
    clear hk
    go_enter Tryd.func37, Tryd.ntmps37
    go_wp2
    refine wp_loop_rounds 1 ?_
    rw [rounds_succ]
    go_wp2
    go_ret
    exact ⟨rfl, rfl⟩

set_option maxRecDepth 100000 in
theorem isE (k t : Int) (w : World) :
    Calls Tryd.prog 28 #[.iface 27 (.int .i64 k), .iface 27 (.int .i64 t)] w fun e w' => e = .returned (.bool (k == t)) ∧ w = w' := by
  have h10 := @run_callFunc_extern Tryd.prog 36 _ Extern.ReflectliteType.typeOf Tryd.func36 (by kernel_rfl) (by kernel_rfl) (by kernel_rfl) (by kernel_rfl)
  have h30 := @run_callFunc_extern Tryd.prog 89 _ (Extern.ReflectliteType.method fun t => do Extern.Rtype.noPackHeld "Comparable" t; pure (.bool (← typeInfo t).comparable)) Tryd.func89 (by kernel_rfl) (by kernel_rfl) (by kernel_rfl) (by kernel_rfl)
  have tT := typeOfE
  have cT := comparableE
  have mR := methodComparable
  have hcon := Lib.hid (is_errno k t w)
  go_enter Tryd.func28, Tryd.ntmps28
  go_wp2_with fail
  refine hcon.out.mono ?_
  rintro e w' ⟨rfl, rfl⟩
  go_wp2_with fail
  go_ret
  exact ⟨rfl, rfl⟩
end Go.Proofs.YtdnkbefpbehllaaDoor.EspI

