/- The code's Seal. -/
import Derived.Test.YtdnkbefpbehllaaDoorM36
import Derived.Test.YtdnkbefpbehllaaDoorM38
set_option linter.unusedVariables false
namespace Go.Proofs.YtdnkbefpbehllaaDoor.Esp7
open Go.RowKit Go.Proofs.YtdnkbefpbehllaaDoor.Sums Go.Proofs.YtdnkbefpbehllaaDoor.Mem Go.Proofs.YtdnkbefpbehllaaDoor.Blk Go.Proofs.YtdnkbefpbehllaaDoor.Bits3 Go.Proofs.YtdnkbefpbehllaaDoor.Ints Go.Proofs.YtdnkbefpbehllaaDoor.AesB Go.Proofs.YtdnkbefpbehllaaDoor.PadR Go.Proofs.YtdnkbefpbehllaaDoor.EspD Go.Proofs.YtdnkbefpbehllaaDoor.CutA
open Go.Proofs.YtdnkbefpbehllaaDoor.CtrD (four four_byt)
open Go.Proofs.YtdnkbefpbehllaaDoor.EspR2 Go.Proofs.YtdnkbefpbehllaaDoor.Esp1 Go.Proofs.YtdnkbefpbehllaaDoor.Esp2 Go.Proofs.YtdnkbefpbehllaaDoor.Regs Go.Proofs.YtdnkbefpbehllaaDoor.Free Go.Proofs.YtdnkbefpbehllaaDoor.Steps Go.Proofs.YtdnkbefpbehllaaDoor.Dig1 Go.Proofs.YtdnkbefpbehllaaDoor.Esp3 Go.Proofs.YtdnkbefpbehllaaDoor.Esp4 Go.Proofs.YtdnkbefpbehllaaDoor.Esp5 Go.Proofs.YtdnkbefpbehllaaDoor.PadO
open Go.Proofs.YtdnkbefpbehllaaDoor.Both (Row)

theorem ent_big : Enters Tryd.prog 17 := enters_of Tryd.func17 (by kernel_rfl) rfl
theorem build_two (A1 : Option Addr) (n1 c1 : Nat) (A3 : Option Addr) (n3 c3 : Nat) (w : World) :
    (Instr.build 47 #[(1, .slice A1 n1 c1), (3, .slice A3 n3 c3)]).run Tryd.prog w = .ok (.agg #[.slice none 0 0, .slice A1 n1 c1, .slice none 0 0, .slice A3 n3 c3, .slice none 0 0]) w := by kernel_rfl
theorem list2q {f : Operand → Value} {x0 x1 : Operand} {v0 v1 : Value} (h0 : f x0 = v0) (h1 : f x1 = v1) : [(1, x0), (3, x1)].map (fun q : Nat × Operand => (q.1, f q.2)) = [(1, v0), (3, v1)] := by simp [h0, h1]
theorem run_alloc_p (w : World) : (Instr.alloc 47 true (.tuple #[])).run Tryd.prog w = .ok (.pointer (some ⟨w.heap.size, 0, none⟩)) (w.alloc (.cells #[.slice none 0 0, .slice none 0 0, .slice none 0 0, .slice none 0 0, .slice none 0 0] 47)) := by kernel_rfl
theorem st_alloc_p {o : Oper} {a : Act} {w : World} {K : Act → World → Prop} {Q : Exit → Act → World → Prop} (ho : o.op = .alloc 47)
    (hK : K (a.put o.dst (.pointer (some ⟨w.heap.size, 0, none⟩))) (w.alloc (.cells #[.slice none 0 0, .slice none 0 0, .slice none 0 0, .slice none 0 0, .slice none 0 0] 47))) : Step Tryd.prog o a w K Q := by
  have hr : (execOp a.eval o).run Tryd.prog w = .ok (.value (.pointer (some ⟨w.heap.size, 0, none⟩))) (w.alloc (.cells #[.slice none 0 0, .slice none 0 0, .slice none 0 0, .slice none 0 0, .slice none 0 0] 47)) := by
    simp [execOp, ho, run_alloc_p w, Result.andThen]
  constructor
  unfold Oper.wp
  rw [hr]
  exact hK
theorem holds_cell {w : World} {B n c g : Nat} {A : Option Addr} {l : List Int} (h : Holds w B A n c l) {t : TypeId} {cs : Array Value} (hg : Blk w g t cs) (hs : ∀ (i : Nat) (z : Int), cs[i]? ≠ some (.int .u8 z)) (i : Nat) (u : Value) : Holds (w.setCell ⟨g, i, none⟩ u) B A n c l :=
  ⟨h.1, h.2.1, h.2.2.1, h.2.2.2.1, fun hn => by
    obtain ⟨b, o, e, hb, hc⟩ := h.2.2.2.2 hn
    refine ⟨b, o, e, hb, fun j z hz => ?_⟩
    have z1 := hc j z hz
    have ne : b ≠ g := fun q => by
      subst q
      rw [hg.cell] at z1
      exact hs _ _ z1
    have e2 := (Only.set w g i u).block b ne
    simp only [World.cell?] at z1 ⊢
    rw [e2]
    exact z1⟩
theorem five_no (A0 : Option Addr) (n0 c0 : Nat) (l0 : List Int) (A1 : Option Addr) (n1 c1 : Nat) (l1 : List Int) (A2 : Option Addr) (n2 c2 : Nat) (l2 : List Int) (A3 : Option Addr) (n3 c3 : Nat) (l3 : List Int) (A4 : Option Addr) (n4 c4 : Nat) (l4 : List Int) (i : Nat) (z : Int) : (#[.slice A0 n0 c0, .slice A1 n1 c1, .slice A2 n2 c2, .slice A3 n3 c3, .slice A4 n4 c4] : Array Value)[i]? ≠ some (.int .u8 z) := by
  rcases i with _ | _ | _ | _ | _ | i <;> simp
/-- Rows that lie in memory. -/
def Rows (V : World) (rs : List Row) : Prop := ∀ r ∈ rs, Holds V V.heap.size r.A r.n r.c r.l
theorem Rows.up {V V' : World} {rs : List Row} (h : Rows V rs) (hb : Below V.heap.size V V') : Rows V' rs := fun r hr => ((h r hr).below hb).more hb.size
theorem Rows.put {V : World} {rs : List Row} (h : Rows V rs) {g : Nat} {A0 A1 A2 A3 A4 : Option Addr} {n0 c0 n1 c1 n2 c2 n3 c3 n4 c4 : Nat} (hg : Blk V g 47 #[.slice A0 n0 c0, .slice A1 n1 c1, .slice A2 n2 c2, .slice A3 n3 c3, .slice A4 n4 c4]) (i : Nat) (u : Value) : Rows (V.setCell ⟨g, i, none⟩ u) rs := fun r hr => by
  have e : (V.setCell ⟨g, i, none⟩ u).heap.size = V.heap.size := by simp
  rw [e]
  exact holds_cell (h r hr) hg (five_no A0 n0 c0 [] A1 n1 c1 [] A2 n2 c2 [] A3 n3 c3 [] A4 n4 c4 []) i u
theorem Rows.cons {V : World} {rs : List Row} {A : Option Addr} {n c : Nat} {l : List Int} (h : Holds V V.heap.size A n c l) (hs : Rows V rs) : Rows V (⟨A, n, c, l⟩ :: rs) := fun r hr => by
  rcases List.mem_cons.1 hr with rfl | hr
  · exact h
  · exact hs r hr
theorem rows3 {V : World} {a b c : Row} (h1 : Holds V V.heap.size a.A a.n a.c a.l) (h2 : Holds V V.heap.size b.A b.n b.c b.l) (h3 : Holds V V.heap.size c.A c.n c.c c.l) : Rows V [a, b, c] := fun r hr => by
  simp only [List.mem_cons, List.not_mem_nil, or_false] at hr
  rcases hr with rfl | rfl | rfl
  · exact h1
  · exact h2
  · exact h3
/-- What Seal tells. -/
def sealX (sp : Int) (ky sl mc : ByteArray) (es : Bool) (wn : Int) (q : Nat) (l : List Int) (x : Int) : List Int := if sealE sp ky sl mc es wn q l.length x = 0 then ints (sealL sp ky sl mc es wn q l x) else []
def AnsS (w : World) (X : List Int) (er : Nat) (e : Ending) (w' : World) : Prop := ∃ v, e = .returned (.tuple #[v, .int .i64 (er : Int)]) ∧ Lies w' v X.length X ∧ Below w.heap.size w w'
theorem anss_err (sp : Int) (ky sl mc : ByteArray) (es : Bool) (wn : Int) (q : Nat) (l : List Int) (x : Int) {w w' : World} {e : Ending} {k : Nat} (hk : sealE sp ky sl mc es wn q l.length x = k) (h0 : k ≠ 0) (he : e = .returned (.tuple #[.slice none 0 0, .int .i64 (k : Int)])) (hb : Below w.heap.size w w') : AnsS w (sealX sp ky sl mc es wn q l x) (sealE sp ky sl mc es wn q l.length x) e w' := by
  have x : sealX sp ky sl mc es wn q l x = [] := by unfold sealX; rw [hk, if_neg h0]
  rw [x, hk]
  exact ⟨_, he, ⟨none, 0, rfl, Holds.nil _ _ _⟩, hb⟩

set_option maxRecDepth 100000 in
set_option maxHeartbeats 4000000 in
theorem seal_ok (sp : Int) (ky sl mc : ByteArray) (es : Bool) (wn : Int) (q : Nat) (hq : q < 18446744073709551616) (A : Option Addr) (n c : Nat) (l : List Int) (x : Int) (w : World) (B : Nat) (h : Holds w B A n c l) (hB : B ≤ w.heap.size) (hn : n ≤ 70000) (hm : may sp ky sl mc wn = true) (hu : num es q = true) (h0 : 0 ≤ x) (h1 : x ≤ 255) (hlen : 32 + long n ≤ 65535) (hT : Tab w) :
    Calls Tryd.prog 7 #[.agg #[.int .i64 sp, .string ky, .string sl, .string mc, .bool es, .int .i64 wn], .int .u64 (q : Int), .slice A n c, .int .i64 x] w fun e w' => ∃ v, e = .returned (.tuple #[v, .int .i64 0]) ∧ Lies w' v (32 + long n) (ints (sealL sp ky sl mc es wn q l x)) ∧ Below w.heap.size w w' := by
  obtain ⟨m1, m2, m3, m4, m5, m6, m7⟩ := may_facts hm
  have CC := Lib.hid (counts_no sp ky sl mc es wn q)
  rw [hm, hu] at CC
  have K1 := Lib.hid (Blk.new w 23 #[.int .i64 sp, .string ky, .string sl, .string mc, .bool es, .int .i64 wn])
  have B0 := Lib.hid ((Below.refl w.heap.size w).alloc (Nat.le_refl _) (.cells #[.int .i64 sp, .string ky, .string sl, .string mc, .bool es, .int .i64 wn] 23))
  have g1 : decide (x < 0) = false := decide_eq_false (by omega)
  have g2 : decide (255 < x) = false := decide_eq_false (by omega)
  have CL := Lib.hid (Esp1.length_no (n : Int) (by omega))
  have LE : lenI (n : Int) = 32 + long n := by unfold lenI lengthI; rw [if_neg (by omega), if_neg (by omega), Int.toNat_natCast]
  rw [LE] at CL
  obtain ⟨L, hL⟩ : ∃ L, L = long n := ⟨_, rfl⟩
  rw [← hL] at CL hlen ⊢
  obtain ⟨L2, hL2⟩ : ∃ L2, L2 = 32 + L := ⟨_, rfl⟩
  rw [← hL2] at CL ⊢
  have g3 : decide ((65535 : Int) < (L2 : Int)) = false := decide_eq_false (by omega)
  obtain ⟨N3, hN3⟩ : ∃ N3, N3 = if es then 4 else 0 := ⟨_, rfl⟩
  have N3L : Hid (N3 ≤ 4) := Lib.hid (by rw [hN3]; split <;> omega)
  have HI : Hid (∀ W, Calls Tryd.prog 18 #[.agg #[.int .i64 sp, .string ky, .string sl, .string mc, .bool es, .int .i64 wn], .int .u64 (q : Int)] W fun e w' => ∃ v, e = .returned v ∧ (∃ A3 c3, v = .slice A3 N3 c3 ∧ Holds w' w'.heap.size A3 N3 c3 (ints (upL es q))) ∧ Below W.heap.size W w') := Lib.hid fun W => (high_no sp ky sl mc es wn q hq W).mono fun e w' ⟨v, h1, h2, h3⟩ => ⟨v, h1, by rw [hN3]; exact h2, h3⟩
  have BG8 : Hid (∀ W, Calls Tryd.prog 17 #[.int .u64 (q : Int), .int .i64 8] W fun e w' => ∃ v, e = .returned v ∧ (∃ A1 c1, v = .slice A1 8 c1 ∧ Holds w' w'.heap.size A1 8 c1 (ints (ivL q))) ∧ Below W.heap.size W w') := Lib.hid fun W => (big_no q 8 hq (by decide) (by decide) W).mono fun e w' ⟨v, h1, h2, h3⟩ => ⟨v, h1, by rw [bigL_iv q hq] at h2; obtain ⟨A1, c1, e1, x1⟩ := h2.slice; exact ⟨A1, c1, e1, x1⟩, h3⟩
  obtain ⟨sn, rfl⟩ : ∃ sn : Nat, sp = (sn : Int) := ⟨sp.toNat, by omega⟩
  have su : IntKind.u64.wrap (sn : Int) = (sn : Int) := IntWalk.u64_in _ (by omega)
  have BGS : Hid (∀ W, Calls Tryd.prog 17 #[.int .u64 (sn : Int), .int .i64 4] W fun e w' => ∃ v, e = .returned v ∧ Owns w' W.heap.size v 4 (ints (four sn)) ∧ Below W.heap.size W w') := Lib.hid fun W => by
    have := big_no sn 4 (by omega) (by decide) (by decide) W
    rw [bigL_four, show loN sn = sn by unfold loN; omega] at this
    exact this
  have BGQ : Hid (∀ W, Calls Tryd.prog 17 #[.int .u64 (q : Int), .int .i64 4] W fun e w' => ∃ v, e = .returned v ∧ Owns w' W.heap.size v 4 (ints (four (loN q))) ∧ Below W.heap.size W w') := Lib.hid fun W => by
    have := big_no q 4 hq (by decide) (by decide) W
    rw [bigL_four] at this
    exact this
  have HH := Lib.hid (And.intro h (And.intro hB hn))
  have HX := Lib.hid (And.intro h0 h1)
  have HL := Lib.hid (And.intro hL (And.intro hL2 hlen))
  have HT := Lib.hid hT
  have MH := Lib.hid (And.intro m3 (And.intro m4 m5))
  have SL : (sealed l x).length = L := by rw [EspD.sealed_len, h.1, hL]
  have SEAL : Hid (∀ V, Holds V B A n c l → B ≤ V.heap.size → Calls Tryd.prog 19 #[.slice A n c, .int .i64 x] V fun e w' => ∃ A2 c2, e = .returned (.tuple #[.slice A2 L c2, .int .i64 0]) ∧ Holds w' w'.heap.size A2 L c2 (sealed l x) ∧ Below V.heap.size V w') := Lib.hid fun V hV hb => by
    have z := PadU.seal_u A n c l x V B hV hb (by omega)
    have nx : ¬ (x < 0 ∨ 255 < x) := by omega
    have nn : n ≤ 65535 := by unfold long at hL; omega
    have e1 : PadU.slO l x = sealed l x := by unfold PadU.slO; rw [if_neg nx, if_neg (by rw [h.1]; omega)]
    have e2 : PadU.slE n x = 0 := by unfold PadU.slE; rw [if_neg nx, if_neg (by omega)]
    rw [e1, e2] at z
    exact z.mono fun e w' ⟨A2, c2, q1, q2, q3⟩ => ⟨A2, c2, by rw [← SL]; exact q1, by rw [SL] at q2; exact q2, q3⟩
  obtain ⟨TU, hTU⟩ : ∃ TU, TU = turnL ky sl (ivL q) (nats (sealed l x)) := ⟨_, rfl⟩
  have TURN : Hid (∀ V A0 c0 A1 c1 A2 c2 A3 c3, Holds V V.heap.size A1 8 c1 (ints (ivL q)) → Holds V V.heap.size A2 L c2 (sealed l x) → Calls Tryd.prog 20 #[.agg #[.slice A0 8 c0, .slice A1 8 c1, .slice A2 L c2, .slice A3 N3 c3, .slice none 0 0], .agg #[.int .i64 (sn : Int), .string ky, .string sl, .string mc, .bool es, .int .i64 wn]] V fun e w' => ∃ v, e = .returned (.tuple #[v, .int .i64 0]) ∧ Lies w' v L (ints TU) ∧ Below V.heap.size V w') := Lib.hid fun V A0 c0 A1 c1 A2 c2 A3 c3 z1 z2 => by
    have := turn_no A0 8 c0 [] A1 8 c1 (ints (ivL q)) A2 L c2 (sealed l x) A3 N3 c3 [] none 0 0 [] sn ky sl mc es wn V V.heap.size z1 z2 (Nat.le_refl _) m3 m4 rfl (by omega)
    rw [nats_ints, ← hTU] at this
    exact this
  obtain ⟨FR, hFR⟩ : ∃ FR, FR = frontL sn ky sl q l x := ⟨_, rfl⟩
  have FRE : FR = four sn ++ (four (loN q) ++ (ivL q ++ TU)) := by rw [hFR, hTU]; rfl
  obtain ⟨TT, hTT⟩ : ∃ TT, TT = tagL mc es q FR := ⟨_, rfl⟩
  have na : ∀ a b : List Int, nats (a ++ b) = nats a ++ nats b := fun a b => by simp [nats]
  have EXPC : Hid (∀ V, Below w.heap.size w V → ∀ A0 c0 A1 c1 A5 c5 A3 c3, Holds V V.heap.size A0 8 c0 (ints (four sn) ++ ints (four (loN q))) → Holds V V.heap.size A1 8 c1 (ints (ivL q)) → Holds V V.heap.size A5 L c5 (ints TU) → Holds V V.heap.size A3 N3 c3 (ints (upL es q)) → Calls Tryd.prog 21 #[.agg #[.slice A0 8 c0, .slice A1 8 c1, .slice A5 L c5, .slice A3 N3 c3, .slice none 0 0], .agg #[.int .i64 (sn : Int), .string ky, .string sl, .string mc, .bool es, .int .i64 wn]] V fun e w' => ∃ v, e = .returned v ∧ Lies w' v 16 (ints TT) ∧ Below V.heap.size V w') := Lib.hid fun V hV A0 c0 A1 c1 A5 c5 A3 c3 z0 z1 z2 z3 => by
    have nl := N3L.out
    have := expect_no A0 8 c0 _ A1 8 c1 _ A5 L c5 _ A3 N3 c3 _ none 0 0 [] sn ky sl mc es wn V V.heap.size z0 z1 z2 z3 (Nat.le_refl _) (by omega) m5 (hT.up hV)
    rw [na, na, na, na, nats_ints, nats_ints, nats_ints, nats_ints, nats_ints] at this
    have e : (MacD.full (nats (nums mc)) (four sn ++ four (loN q) ++ (ivL q ++ (TU ++ upL es q)))).take 16 = TT := by
      rw [hTT, FRE]
      unfold tagL
      simp only [List.append_assoc]
    rw [e] at this
    exact this
  have SQ : Hid (ints (four sn) ++ ints (four (loN q)) ++ (ints (ivL q) ++ (ints TU ++ ints TT)) = ints (sealL sn ky sl mc es wn q l x)) := Lib.hid (by
    unfold sealL
    rw [← hFR, ← hTT, FRE]
    simp only [Ctr1.ints_app, List.append_assoc])
  have MS : Hid (((sn : Nat) : Int).toNat = sn) := Lib.hid rfl
  generalize hUL : ints (upL es q) = UL at *
  generalize hIV : ints (ivL q) = IV at *
  have EU := Lib.hid (And.intro hUL hIV)
  obtain ⟨g, hg⟩ : ∃ g, g = w.heap.size := ⟨_, rfl⟩
  have GE := Lib.hid hg
  clear hg hUL hIV hN3 hm hu h0 h1 hlen hT m1 m2 m3 m4 m5 m6 m7 h hB hn hq LE hL hL2 SL hTU hFR FRE hTT na
  go_enter Tryd.func7, Tryd.ntmps7
  go_wp2_with (refine Loads.wpList_load_w rfl 23 (.tmp 4) rfl w.heap.size rfl 23 #[.int .i64 sp, .string ky, .string sl, .string mc, .bool es, .int .i64 wn] (0, 0) _ (K1.out) Tryd.underlying23 rfl (by kernel_rfl) ?_)
  refine (CC.out _).mono ?_
  rintro e w2 ⟨rfl, hb⟩
  have B2 := Lib.hid (B0.out.trans (hb.mono (by simp)))
  have K2 := Lib.hid (Blk.below K1.out hb (Blk.lt K1.out))
  clear hb CC K1
  go_wp2_with fail
  refine (CL.out _).mono ?_
  rintro e w3 ⟨rfl, rfl⟩
  clear CL
  go_wp2_with fail
  have B3 := B2
  rw [← GE.out] at K2 ⊢
  have K3 := K2
  generalize w2 = w3 at *
  clear K2 B2
  have X : Hid (∀ V, Below w3.drew.heap.size w3.drew V → Blk V g 23 #[.int .i64 (sn : Int), .string ky, .string sl, .string mc, .bool es, .int .i64 wn]) := Lib.hid fun V hV => Blk.below (Blk.drew K3.out) hV (Blk.lt K3.out)
  refine wp_region_free [0, 1, 2, 3, 4, 5, 6] 7 [] (fun w1 w2 => Below w1.heap.size w1 w2) (fun k' w' v => match k' with
    | 0 => v = .int .u64 (q : Int)
    | 1 => ∃ A1 c1, v = .slice A1 8 c1 ∧ Holds w' w'.heap.size A1 8 c1 IV
    | 2 => v = .agg #[.int .i64 (sn : Int), .string ky, .string sl, .string mc, .bool es, .int .i64 wn]
    | 3 => v = .int .u64 (q : Int)
    | 4 => ∃ A3 c3, v = .slice A3 N3 c3 ∧ Holds w' w'.heap.size A3 N3 c3 UL
    | 5 => ∃ A1 c1 A3 c3, v = .agg #[.slice none 0 0, .slice A1 8 c1, .slice none 0 0, .slice A3 N3 c3, .slice none 0 0] ∧ Holds w' w'.heap.size A1 8 c1 IV ∧ Holds w' w'.heap.size A3 N3 c3 UL
    | _ => ∃ g', v = .pointer (some ⟨g', 0, none⟩) ∧ w3.heap.size ≤ g' ∧ Blk w' g' 47 #[.slice none 0 0, .slice none 0 0, .slice none 0 0, .slice none 0 0, .slice none 0 0]) (by kernel_rfl) (by kernel_rfl) (Below.refl _ _) (fun _ _ _ h k => h.trans (k.mono h.size)) (fun k' w1 w2 v h => match k' with
    | 0 => fun x => x
    | 1 => fun ⟨A1, c1, e, x⟩ => ⟨A1, c1, e, (x.below h).more h.size⟩
    | 2 => fun x => x
    | 3 => fun x => x
    | 4 => fun ⟨A3, c3, e, x⟩ => ⟨A3, c3, e, (x.below h).more h.size⟩
    | 5 => fun ⟨A1, c1, A3, c3, e, x, y⟩ => ⟨A1, c1, A3, c3, e, (x.below h).more h.size, (y.below h).more h.size⟩
    | _ + 6 => fun ⟨g', e, h1, h2⟩ => ⟨g', e, h1, h2.below h h2.lt⟩) (fun _ _ _ _ _ h => h) ?_ _ (by rfl) ?_
  · refine obs_cons (by rfl) (fun vals w' hgr hdep K hK => ?_) (obs_cons (by rfl) (fun vals w' hgr hdep K hK => ?_) (obs_cons (by rfl) (fun vals w' hgr hdep K hK => ?_) (obs_cons (by rfl) (fun vals w' hgr hdep K hK => ?_) (obs_cons (by rfl) (fun vals w' hgr hdep K hK => ?_) (obs_cons (by rfl) (fun vals w' hgr hdep K hK => ?_) (obs_cons (by rfl) (fun vals w' hgr hdep K hK => ?_) (obs_nil)))))))
    · exact wp_move (.tmp 1) rfl _ (at_out _ (by kernel_rfl) rfl) (hK _ _ (Below.refl _ _) rfl)
    · exact wp_call 17 [.tmp 25, .const (.int .i64 8)] _ rfl ent_big [.int .u64 (q : Int), .int .i64 8] (list2 ((at_dst 0 (by kernel_rfl)).trans (hdep 0 (by simp) (by kernel_rfl))) rfl) (fun v w'' => (∃ A1 c1, v = .slice A1 8 c1 ∧ Holds w'' w''.heap.size A1 8 c1 IV) ∧ Below w'.heap.size w' w'') (BG8.out w') (fun v w'' ⟨h1, h2⟩ => hK _ _ h2 h1)
    · exact st_load_row 23 (.tmp 4) rfl g (at_out _ (by kernel_rfl) rfl) 23 _ (0, 0) _ (X.out w' hgr) Tryd.underlying23 rfl (by kernel_rfl) (hK _ _ (Below.refl _ _) rfl)
    · exact wp_move (.tmp 1) rfl _ (at_out _ (by kernel_rfl) rfl) (hK _ _ (Below.refl _ _) rfl)
    · exact wp_call 18 [.tmp 27, .tmp 28] _ rfl ent_high [.agg #[.int .i64 (sn : Int), .string ky, .string sl, .string mc, .bool es, .int .i64 wn], .int .u64 (q : Int)] (list2 ((at_dst 2 (by kernel_rfl)).trans (hdep 2 (by simp) (by kernel_rfl))) ((at_dst 3 (by kernel_rfl)).trans (hdep 3 (by simp) (by kernel_rfl)))) (fun v w'' => (∃ A3 c3, v = .slice A3 N3 c3 ∧ Holds w'' w''.heap.size A3 N3 c3 UL) ∧ Below w'.heap.size w' w'') (HI.out w') (fun v w'' ⟨h1, h2⟩ => hK _ _ h2 h1)
    · obtain ⟨A1, c1, e1, h1⟩ := hdep 1 (by simp) (by kernel_rfl)
      obtain ⟨A3, c3, e4, h4⟩ := hdep 4 (by simp) (by kernel_rfl)
      exact st_build [(1, .tmp 26), (3, .tmp 29)] rfl [(1, .slice A1 8 c1), (3, .slice A3 N3 c3)] (list2q ((at_dst 1 (by kernel_rfl)).trans e1) ((at_dst 4 (by kernel_rfl)).trans e4)) (.agg #[.slice none 0 0, .slice A1 8 c1, .slice none 0 0, .slice A3 N3 c3, .slice none 0 0]) (build_two _ _ _ _ _ _ _) (hK _ _ (Below.refl _ _) ⟨A1, c1, A3, c3, rfl, h1, h4⟩)
    · exact st_alloc_p rfl (hK _ _ ((Below.refl _ _).alloc (Nat.le_refl _) _) ⟨_, rfl, (below_drewN_1 hgr).size, Blk.new _ _ _⟩)
  · intro vals w' hgr hG
    obtain ⟨A1, c1, A3, c3, e5, h1, h3⟩ := hG 5 (by simp)
    obtain ⟨gp, eg, hgp, KG⟩ := hG 6 (by simp)
    refine st_store_row 47 (.tmp 10) (.tmp 30) rfl gp #[.slice none 0 0, .slice A1 8 c1, .slice none 0 0, .slice A3 N3 c3, .slice none 0 0] ((at_dst 6 (by kernel_rfl)).trans eg) ((at_dst 5 (by kernel_rfl)).trans e5) 47 _ KG (by kernel_rfl) rfl (one5 _ _ _ _ _ _ _ _ _ _ _ _ _ _ _) (wpAnyH_done (by kernel_rfl) ?_ _)
    have NB := Lib.hid (setRow_blk KG #[.slice none 0 0, .slice A1 8 c1, .slice none 0 0, .slice A3 N3 c3, .slice none 0 0])
    have B4 := Lib.hid (B3.out.trans ((setRow_bel (below_drewN_1 hgr) hgp #[.slice none 0 0, .slice A1 8 c1, .slice none 0 0, .slice A3 N3 c3, .slice none 0 0]).mono B3.out.size))
    have KS4 := Lib.hid (Blk.below K3.out (setRow_bel (below_drewN_1 hgr) hgp #[.slice none 0 0, .slice A1 8 c1, .slice none 0 0, .slice A3 N3 c3, .slice none 0 0]) (Blk.lt K3.out))
    have GN : Hid (g ≠ gp) := Lib.hid (fun z => by have := Blk.lt K3.out; rw [← z] at hgp; exact absurd hgp (by omega))
    have WG : Hid (w.heap.size ≤ gp) := Lib.hid (Nat.le_trans B3.out.size hgp)
    have H1 : Hid (Holds (w'.setRow gp #[.slice none 0 0, .slice A1 8 c1, .slice none 0 0, .slice A3 N3 c3, .slice none 0 0]) (w'.setRow gp #[.slice none 0 0, .slice A1 8 c1, .slice none 0 0, .slice A3 N3 c3, .slice none 0 0]).heap.size A1 8 c1 IV) := Lib.hid (by rw [setRow_size]; exact holds_set h1 KG _)
    have H3 : Hid (Holds (w'.setRow gp #[.slice none 0 0, .slice A1 8 c1, .slice none 0 0, .slice A3 N3 c3, .slice none 0 0]) (w'.setRow gp #[.slice none 0 0, .slice A1 8 c1, .slice none 0 0, .slice A3 N3 c3, .slice none 0 0]).heap.size A3 N3 c3 UL) := Lib.hid (by rw [setRow_size]; exact holds_set h3 KG _)
    clear hG hgr KG h1 h3 X HI BG8 K3 hgp
    generalize w'.setRow gp #[.slice none 0 0, .slice A1 8 c1, .slice none 0 0, .slice A3 N3 c3, .slice none 0 0] = w4 at *
    simp only [fill, dstAt, List.getElem?_cons_zero, List.getElem?_cons_succ, Option.bind_some, Act.put, List.setIfInBounds_toArray, List.set_cons_zero, List.set_cons_succ]
    rw [eg, e5]
    clear eg e5
    generalize vals 0 = z0, vals 1 = z1, vals 2 = z2, vals 3 = z3, vals 4 = z4 at *
    generalize vals 6 = z6 at *
    have k0 : w4.cell? ⟨g, 0, none⟩ = some ((.int .i64 (sn : Int))) := KS4.out.cell 0
    go_wp2_with fail
    refine (BGS.out w4).mono ?_
    rintro e w5 ⟨v5, rfl, o5, hb⟩
    have O5 := Lib.hid o5
    have B5 := Lib.hid hb
    clear o5 hb BGS k0
    go_wp2_with fail
    refine (BGQ.out w5).mono ?_
    rintro e w6 ⟨v6, rfl, o6, hb⟩
    obtain ⟨A6, c6, rfl, h6⟩ := o6.slice
    have O5b := Lib.hid (O5.out.below hb (Nat.le_refl _))
    have B6 := Lib.hid (B5.out.trans (hb.mono B5.out.size))
    have H6 := Lib.hid h6
    clear o6 h6 hb BGQ O5 B5
    go_wp2_with (at_builtin
                 refine wpList_append_bytes rfl (.tmp 34) (.tmp 36) rfl w4.heap.size v5 4 _ rfl O5b.out w6.heap.size A6 4 c6 _ rfl H6.out (by decide) B6.out.size ?_
                 intro v7 w7 o7 g7 hat7
                 obtain ⟨A0, c0, rfl, h0⟩ := o7.slice
                 have B7 := Lib.hid (B6.out.grown g7 B6.out.size fun g hg => (O5b.out.lt g hg).1)
                 have H0 := Lib.hid h0
                 have NB7 := Lib.hid (Blk.below NB.out B7.out (Blk.lt NB.out))
                 have cx : w7.cell? ⟨gp, 0, none⟩ = some (.slice none 0 0) := NB7.out.cell 0
                 have fx := NB7.out.frozen 0
                 clear o7 g7 hat7 h0 O5b H6)
    have NB8 : Hid (Blk (w7.setCell ⟨gp, 0, none⟩ (.slice A0 8 c0)) gp 47 #[.slice A0 8 c0, .slice A1 8 c1, .slice none 0 0, .slice A3 N3 c3, .slice none 0 0]) := Lib.hid (by have := NB7.out.put 0 (.slice A0 8 c0); simpa using this)
    have KS8 : Hid (Blk (w7.setCell ⟨gp, 0, none⟩ (.slice A0 8 c0)) g 23 #[.int .i64 (sn : Int), .string ky, .string sl, .string mc, .bool es, .int .i64 wn]) := Lib.hid (Blk.far (Blk.below KS4.out B7.out (Blk.lt KS4.out)) GN.out _)
    have B8 : Hid (Below w.heap.size w (w7.setCell ⟨gp, 0, none⟩ (.slice A0 8 c0))) := Lib.hid ((B4.out.trans (B7.out.mono B4.out.size)).setCell (p := ⟨gp, 0, none⟩) WG.out _)
    have RS8 : Hid (Rows (w7.setCell ⟨gp, 0, none⟩ (.slice A0 8 c0)) [⟨A1, 8, c1, IV⟩, ⟨A3, N3, c3, UL⟩, ⟨A0, 8, c0, ints (four sn) ++ ints (four (loN q))⟩]) := Lib.hid (Rows.put (rows3 ((H1.out.below B7.out).more B7.out.size) ((H3.out.below B7.out).more B7.out.size) H0.out) NB7.out 0 _)
    generalize w7.setCell ⟨gp, 0, none⟩ (.slice A0 8 c0) = w8 at *
    clear NB7 KS4 B7 B4 H1 H3 H0 NB B6 cx fx
    refine (SEAL.out w8 (HH.out.1.below (B8.out.mono HH.out.2.1)) (Nat.le_trans HH.out.2.1 B8.out.size)).mono ?_
    rintro e w9 ⟨A2, c2, rfl, h2, hb⟩
    have RS9 : Hid (Rows w9 [⟨A2, L, c2, sealed l x⟩, ⟨A1, 8, c1, IV⟩, ⟨A3, N3, c3, UL⟩, ⟨A0, 8, c0, ints (four sn) ++ ints (four (loN q))⟩]) := Lib.hid (Rows.cons h2 (Rows.up RS8.out hb))
    have NB9 := Lib.hid (Blk.below NB8.out hb (Blk.lt NB8.out))
    have cx : w9.cell? ⟨gp, 2, none⟩ = some (.slice none 0 0) := NB9.out.cell 2
    have fx := NB9.out.frozen 2
    have NB10 : Hid (Blk (w9.setCell ⟨gp, 2, none⟩ (.slice A2 L c2)) gp 47 #[.slice A0 8 c0, .slice A1 8 c1, .slice A2 L c2, .slice A3 N3 c3, .slice none 0 0]) := Lib.hid (by have := NB9.out.put 2 (.slice A2 L c2); simpa using this)
    have KS10 : Hid (Blk (w9.setCell ⟨gp, 2, none⟩ (.slice A2 L c2)) g 23 #[.int .i64 (sn : Int), .string ky, .string sl, .string mc, .bool es, .int .i64 wn]) := Lib.hid (Blk.far (Blk.below KS8.out hb (Blk.lt KS8.out)) GN.out _)
    have B10 : Hid (Below w.heap.size w (w9.setCell ⟨gp, 2, none⟩ (.slice A2 L c2))) := Lib.hid ((B8.out.trans (hb.mono B8.out.size)).setCell (p := ⟨gp, 2, none⟩) WG.out _)
    have RS10 : Hid (Rows (w9.setCell ⟨gp, 2, none⟩ (.slice A2 L c2)) [⟨A2, L, c2, sealed l x⟩, ⟨A1, 8, c1, IV⟩, ⟨A3, N3, c3, UL⟩, ⟨A0, 8, c0, ints (four sn) ++ ints (four (loN q))⟩]) := Lib.hid (Rows.put RS9.out NB9.out 2 _)
    clear h2 hb SEAL RS8 NB8 KS8 B8
    go_wp2_with (first
      | (refine Loads.wpList_load_w rfl 47 (.tmp 10) rfl gp rfl 47 #[.slice A0 8 c0, .slice A1 8 c1, .slice A2 L c2, .slice A3 N3 c3, .slice none 0 0] (0, 0) _ (NB10.out) Tryd.underlying47 rfl (by kernel_rfl) ?_)
      | (refine Loads.wpList_load_w rfl 23 (.tmp 4) rfl g rfl 23 #[.int .i64 (sn : Int), .string ky, .string sl, .string mc, .bool es, .int .i64 wn] (0, 0) _ (KS10.out) Tryd.underlying23 rfl (by kernel_rfl) ?_))
    generalize w9.setCell ⟨gp, 2, none⟩ (.slice A2 L c2) = w10 at *
    clear RS9 NB9 cx fx
    refine (TURN.out w10 A0 c0 A1 c1 A2 c2 A3 c3 (RS10.out ⟨A1, 8, c1, IV⟩ (by simp)) (RS10.out ⟨A2, L, c2, sealed l x⟩ (by simp))).mono ?_
    rintro e w11 ⟨v, rfl, ⟨A5, c5, rfl, h5⟩, hb⟩
    have RS11 : Hid (Rows w11 [⟨A5, L, c5, ints TU⟩, ⟨A2, L, c2, sealed l x⟩, ⟨A1, 8, c1, IV⟩, ⟨A3, N3, c3, UL⟩, ⟨A0, 8, c0, ints (four sn) ++ ints (four (loN q))⟩]) := Lib.hid (Rows.cons h5 (Rows.up RS10.out hb))
    have NB11 := Lib.hid (Blk.below NB10.out hb (Blk.lt NB10.out))
    have cx : w11.cell? ⟨gp, 2, none⟩ = some (.slice A2 L c2) := NB11.out.cell 2
    have fx := NB11.out.frozen 2
    have NB12 : Hid (Blk (w11.setCell ⟨gp, 2, none⟩ (.slice A5 L c5)) gp 47 #[.slice A0 8 c0, .slice A1 8 c1, .slice A5 L c5, .slice A3 N3 c3, .slice none 0 0]) := Lib.hid (by have := NB11.out.put 2 (.slice A5 L c5); simpa using this)
    have KS12 : Hid (Blk (w11.setCell ⟨gp, 2, none⟩ (.slice A5 L c5)) g 23 #[.int .i64 (sn : Int), .string ky, .string sl, .string mc, .bool es, .int .i64 wn]) := Lib.hid (Blk.far (Blk.below KS10.out hb (Blk.lt KS10.out)) GN.out _)
    have B12 : Hid (Below w.heap.size w (w11.setCell ⟨gp, 2, none⟩ (.slice A5 L c5))) := Lib.hid ((B10.out.trans (hb.mono B10.out.size)).setCell (p := ⟨gp, 2, none⟩) WG.out _)
    have RS12 : Hid (Rows (w11.setCell ⟨gp, 2, none⟩ (.slice A5 L c5)) [⟨A5, L, c5, ints TU⟩, ⟨A2, L, c2, sealed l x⟩, ⟨A1, 8, c1, IV⟩, ⟨A3, N3, c3, UL⟩, ⟨A0, 8, c0, ints (four sn) ++ ints (four (loN q))⟩]) := Lib.hid (Rows.put RS11.out NB11.out 2 _)
    clear h5 hb TURN RS10 NB10 KS10 B10
    go_wp2_with (first
      | (refine Loads.wpList_load_w rfl 47 (.tmp 10) rfl gp rfl 47 #[.slice A0 8 c0, .slice A1 8 c1, .slice A5 L c5, .slice A3 N3 c3, .slice none 0 0] (0, 0) _ (NB12.out) Tryd.underlying47 rfl (by kernel_rfl) ?_)
      | (refine Loads.wpList_load_w rfl 23 (.tmp 4) rfl g rfl 23 #[.int .i64 (sn : Int), .string ky, .string sl, .string mc, .bool es, .int .i64 wn] (0, 0) _ (KS12.out) Tryd.underlying23 rfl (by kernel_rfl) ?_))
    generalize w11.setCell ⟨gp, 2, none⟩ (.slice A5 L c5) = w12 at *
    clear RS11 NB11 cx fx
    refine (EXPC.out w12 B12.out A0 c0 A1 c1 A5 c5 A3 c3 (RS12.out ⟨A0, 8, c0, ints (four sn) ++ ints (four (loN q))⟩ (by simp)) (RS12.out ⟨A1, 8, c1, IV⟩ (by simp)) (RS12.out ⟨A5, L, c5, ints TU⟩ (by simp)) (RS12.out ⟨A3, N3, c3, UL⟩ (by simp))).mono ?_
    rintro e w13 ⟨v, rfl, ⟨A4, c4, rfl, h4⟩, hb⟩
    have RS13 : Hid (Rows w13 [⟨A4, 16, c4, ints TT⟩, ⟨A5, L, c5, ints TU⟩, ⟨A2, L, c2, sealed l x⟩, ⟨A1, 8, c1, IV⟩, ⟨A3, N3, c3, UL⟩, ⟨A0, 8, c0, ints (four sn) ++ ints (four (loN q))⟩]) := Lib.hid (Rows.cons h4 (Rows.up RS12.out hb))
    have NB13 := Lib.hid (Blk.below NB12.out hb (Blk.lt NB12.out))
    have cx : w13.cell? ⟨gp, 4, none⟩ = some (.slice none 0 0) := NB13.out.cell 4
    have fx := NB13.out.frozen 4
    have NB14 : Hid (Blk (w13.setCell ⟨gp, 4, none⟩ (.slice A4 16 c4)) gp 47 #[.slice A0 8 c0, .slice A1 8 c1, .slice A5 L c5, .slice A3 N3 c3, .slice A4 16 c4]) := Lib.hid (by have := NB13.out.put 4 (.slice A4 16 c4); simpa using this)
    have B14 : Hid (Below w.heap.size w (w13.setCell ⟨gp, 4, none⟩ (.slice A4 16 c4))) := Lib.hid ((B12.out.trans (hb.mono B12.out.size)).setCell (p := ⟨gp, 4, none⟩) WG.out _)
    have RS14 : Hid (Rows (w13.setCell ⟨gp, 4, none⟩ (.slice A4 16 c4)) [⟨A4, 16, c4, ints TT⟩, ⟨A5, L, c5, ints TU⟩, ⟨A2, L, c2, sealed l x⟩, ⟨A1, 8, c1, IV⟩, ⟨A3, N3, c3, UL⟩, ⟨A0, 8, c0, ints (four sn) ++ ints (four (loN q))⟩]) := Lib.hid (Rows.put RS13.out NB13.out 4 _)
    clear h4 hb EXPC RS12 NB12 KS12 B12
    go_wp2_with (refine Loads.wpList_load_w rfl 47 (.tmp 10) rfl gp rfl 47 #[.slice A0 8 c0, .slice A1 8 c1, .slice A5 L c5, .slice A3 N3 c3, .slice A4 16 c4] (0, 0) _ (NB14.out) Tryd.underlying47 rfl (by kernel_rfl) ?_)
    generalize w13.setCell ⟨gp, 4, none⟩ (.slice A4 16 c4) = w14 at *
    clear RS13 NB13 cx fx
    refine (bytes_no A0 8 c0 (ints (four sn) ++ ints (four (loN q))) A1 8 c1 IV A5 L c5 (ints TU) A3 N3 c3 UL A4 16 c4 (ints TT) w14 w14.heap.size (RS14.out ⟨A0, 8, c0, ints (four sn) ++ ints (four (loN q))⟩ (by simp)) (RS14.out ⟨A1, 8, c1, IV⟩ (by simp)) (RS14.out ⟨A5, L, c5, ints TU⟩ (by simp)) (RS14.out ⟨A4, 16, c4, ints TT⟩ (by simp)) (Nat.le_refl _) (by decide) (by have := HL.out; omega)).mono ?_
    rintro e w15 ⟨v, rfl, ly, hb⟩
    have LY := Lib.hid ly
    have B15 := Lib.hid (B14.out.trans (hb.mono B14.out.size))
    clear ly hb RS14 NB14
    go_wp2_with fail
    go_ret2
    refine ⟨_, rfl, ?_, B15.out⟩
    have z := LY.out
    rw [SQ.out] at z
    have e : 8 + (8 + (L + 16)) = L2 := by have := HL.out; omega
    rwa [e] at z
end Go.Proofs.YtdnkbefpbehllaaDoor.Esp7

