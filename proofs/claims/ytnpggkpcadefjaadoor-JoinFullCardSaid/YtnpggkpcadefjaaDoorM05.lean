/- The code's add. -/
import Derived.Test.YtnpggkpcadefjaaDoorM04
import Derived.Test.YtnpggkpcadefjaaDoorM02
import Derived.BigQuiet
import Derived.Deep.QuietTactic
set_option linter.unusedVariables false
set_option maxRecDepth 100000
namespace Go.Proofs.YtnpggkpcadefjaaDoor.Jc6
open Go.RowKit Go.Proofs.YtnpggkpcadefjaaDoor.Sums Go.Proofs.YtnpggkpcadefjaaDoor.Mem Go.Proofs.YtnpggkpcadefjaaDoor.Blk Go.Proofs.YtnpggkpcadefjaaDoor.Pkt Go.Proofs.YtnpggkpcadefjaaDoor.Check Go.Proofs.YtnpggkpcadefjaaDoor.JoiM Go.Proofs.YtnpggkpcadefjaaDoor.JoiC Go.Proofs.YtnpggkpcadefjaaDoor.RowN Go.Proofs.YtnpggkpcadefjaaDoor.RowA Go.Proofs.YtnpggkpcadefjaaDoor.SplP Go.Proofs.YtnpggkpcadefjaaDoor.Spl1 Go.Proofs.YtnpggkpcadefjaaDoor.Spl5 Go.Proofs.YtnpggkpcadefjaaDoor.JcP Go.Proofs.YtnpggkpcadefjaaDoor.MapL Go.Proofs.YtnpggkpcadefjaaDoor.Free Go.Proofs.YtnpggkpcadefjaaDoor.Steps Go.Proofs.YtnpggkpcadefjaaDoor.Jc1 Go.Proofs.YtnpggkpcadefjaaDoor.Jc2 Go.Proofs.YtnpggkpcadefjaaDoor.Jc3 Go.Proofs.YtnpggkpcadefjaaDoor.Cat Go.Proofs.YtnpggkpcadefjaaDoor.Jc4 Go.Proofs.YtnpggkpcadefjaaDoor.Jc5

theorem ent_search : Enters Tryd.prog 65 := enters_of Tryd.func65 (by kernel_rfl) rfl
theorem ent_insert : Enters Tryd.prog 68 := enters_of Tryd.func68 (by kernel_rfl) rfl
theorem ent_piece : Enters Tryd.prog 59 := enters_of Tryd.func59 (by kernel_rfl) rfl
theorem list3 {f : Operand → Value} {x y z : Operand} {u v t : Value} (h1 : f x = u) (h2 : f y = v) (h3 : f z = t) : [x, y, z].map f = [u, v, t] := by simp [h1, h2, h3]
theorem st_store_run {o : Oper} {a : Act} {w w1 : World} {K : Act → World → Prop} {Q : Exit → Act → World → Prop} (ty : TypeId) (x y : Operand) (ho : o.op = .store ty x y) (ad : Addr) (hx : a.eval x = .pointer (some ad)) (v : Value) (hy : a.eval y = v)
    (hr : (storeVar ty ad v).run Tryd.prog w = .ok () w1) (hK : K (a.put o.dst undef) w1) : Step Tryd.prog o a w K Q := by
  constructor
  unfold Oper.wp execOp
  simp only [ho, hx, hy, Instr.storeAt, Instr.sureAddr, Sem.run_bind, Sem.run_pure, Result.andThen_ok, hr]
  exact hK
theorem owns_row {w w' : World} {base n c m : Nat} {v : Value} {l : List Int} {e : TypeId} {N : Nat} {A : Option Addr} {cs : List Value} (h : Owns w base v n l) (hr : RowAt e N w A m c cs) (he : e ≠ BT) (hk : Keep (fun k => ¬ own A k) w w') : Owns w' base v n l :=
  owns_stay h fun k X fz _ hX => hk.block k (fun o => by
    obtain ⟨Y, hY⟩ := hr.type o
    exact he (cells_ty hY hX)) (Array.getElem?_eq_some_iff.1 hX).1
/-- A piece is being put in its place. -/
structure MidI (W : World) (PA : Option Addr) (n pc : Nat) (cs : List Value) (P : Nat) (y : Pkt) (ly : List Int) (L : Nat → Bool) (vals : Nat → Value) (V : World) : Prop where
  keep : Keep (fun k => ¬ own PA k) W V
  c8 : L 8 = true → L 7 = true
  c9 : L 9 = true → L 8 = true
  r0 : L 9 = false → RowAt PT 11 V PA n pc cs
  r7 : L 7 = true → ∃ A' c', vals 7 = val y (.slice A' ly.length c') ∧ Owns V W.heap.size (.slice A' ly.length c') ly.length ly ∧
    (L 8 = true → L 9 = false → ∃ vb, vals 8 = .slice (some ⟨vb, 0, none⟩) 1 1 ∧ Blk V vb PT (pcCells y (.slice A' ly.length c')).toArray ∧ W.heap.size ≤ vb) ∧
    (L 9 = true → ∃ A2 c2, vals 9 = .slice A2 (n + 1) c2 ∧ RowAt PT 11 V A2 (n + 1) c2 (cs.take (P * 11) ++ (pcCells y (.slice A' ly.length c') ++ cs.drop (P * 11))) ∧ (A2 = PA ∨ ∃ k, A2 = some ⟨k, 0, none⟩ ∧ W.heap.size ≤ k))
section
variable {W V V' : World} {PA : Option Addr} {n pc P : Nat} {cs : List Value} {y : Pkt} {ly : List Int} {L : Nat → Bool} {vals : Nat → Value}
theorem not_true {b : Bool} (h : b = true → False) : b = false := by cases b with
  | false => rfl
  | true => exact (h rfl).elim
theorem MidI.start (h : RowAt PT 11 W PA n pc cs) (hL : ∀ j, j = 7 ∨ j = 8 ∨ j = 9 → L j = false) : MidI W PA n pc cs P y ly L vals W.drew :=
  ⟨(Keep.refl _ _).drew, fun e => (by rw [hL 8 (by simp)] at e; cases e), fun e => (by rw [hL 9 (by simp)] at e; cases e), fun _ => h.below (below_drewN (Below.refl _ _) 1), fun e => (by rw [hL 7 (by simp)] at e; cases e)⟩
theorem MidI.pure (h : MidI W PA n pc cs P y ly L vals V) (i : Nat) (v : Value) (h2 : i ≠ 7 ∧ i ≠ 8 ∧ i ≠ 9) : MidI W PA n pc cs P y ly (FreeJ.mark L i) (FreeJ.upd vals i v) V := by
  have e2 : FreeJ.mark L i 7 = L 7 := if_neg (fun e => h2.1 e.symm)
  have e3 : FreeJ.mark L i 8 = L 8 := if_neg (fun e => h2.2.1 e.symm)
  have e4 : FreeJ.mark L i 9 = L 9 := if_neg (fun e => h2.2.2 e.symm)
  have u2 : FreeJ.upd vals i v 7 = vals 7 := if_neg (fun e => h2.1 e.symm)
  have u3 : FreeJ.upd vals i v 8 = vals 8 := if_neg (fun e => h2.2.1 e.symm)
  have u4 : FreeJ.upd vals i v 9 = vals 9 := if_neg (fun e => h2.2.2 e.symm)
  exact ⟨h.keep, by rw [e3, e2]; exact h.c8, by rw [e4, e3]; exact h.c9, by rw [e4]; exact h.r0, by rw [e2, e3, e4, u2, u3, u4]; exact h.r7⟩
theorem MidI.seven (h : MidI W PA n pc cs P y ly L vals V) (hL : L 7 = false) (hb : Below V.heap.size V V') {A' : Option Addr} {c' : Nat} (ho : Owns V' W.heap.size (.slice A' ly.length c') ly.length ly) : MidI W PA n pc cs P y ly (FreeJ.mark L 7) (FreeJ.upd vals 7 (val y (.slice A' ly.length c'))) V' := by
  have l8 : L 8 = false := not_true fun e => by rw [h.c8 e] at hL; cases hL
  have l9 : L 9 = false := not_true fun e => by rw [h.c9 e] at l8; cases l8
  have e2 : FreeJ.mark L 7 7 = true := if_pos rfl
  have e3 : FreeJ.mark L 7 8 = L 8 := if_neg (by decide)
  have e4 : FreeJ.mark L 7 9 = L 9 := if_neg (by decide)
  have u2 : FreeJ.upd vals 7 (val y (.slice A' ly.length c')) 7 = val y (.slice A' ly.length c') := if_pos rfl
  exact ⟨h.keep.trans (Keep.of hb), fun _ => e2, by rw [e4, e3]; exact h.c9, fun _ => (h.r0 l9).below hb, fun _ => ⟨A', c', u2, ho, fun e => (by rw [e3, l8] at e; cases e), fun e => (by rw [e4, l9] at e; cases e)⟩⟩
theorem MidI.eight (h : MidI W PA n pc cs P y ly L vals V) (hL : L 8 = false) (h7 : L 7 = true) {A' : Option Addr} {c' : Nat} (hv : vals 7 = val y (.slice A' ly.length c')) : MidI W PA n pc cs P y ly (FreeJ.mark L 8) (FreeJ.upd vals 8 (.slice (some ⟨V.heap.size, 0, none⟩) 1 1)) (V.alloc (.cells (pcCells y (.slice A' ly.length c')).toArray PT)) := by
  have l9 : L 9 = false := not_true fun e => by rw [h.c9 e] at hL; cases hL
  have e2 : FreeJ.mark L 8 7 = L 7 := if_neg (by decide)
  have e3 : FreeJ.mark L 8 8 = true := if_pos rfl
  have e4 : FreeJ.mark L 8 9 = L 9 := if_neg (by decide)
  have u2 : FreeJ.upd vals 8 (.slice (some ⟨V.heap.size, 0, none⟩) 1 1) 7 = vals 7 := if_neg (by decide)
  have u3 : FreeJ.upd vals 8 (.slice (some ⟨V.heap.size, 0, none⟩) 1 1) 8 = .slice (some ⟨V.heap.size, 0, none⟩) 1 1 := if_pos rfl
  have hb : Below V.heap.size V (V.alloc (.cells (pcCells y (.slice A' ly.length c')).toArray PT)) := (Below.refl _ _).alloc (Nat.le_refl _) _
  obtain ⟨A1, c1, q1, q2, -, -⟩ := h.r7 h7
  have ee : (.slice A' ly.length c' : Value) = .slice A1 ly.length c1 := by
    have := hv.symm.trans q1
    unfold val at this
    simp at this
    simp [this]
  refine ⟨h.keep.trans (Keep.of hb), fun _ => by rw [e2]; exact h7, fun _ => e3, fun _ => (h.r0 l9).below hb, fun _ => ⟨A1, c1, by rw [u2]; exact q1, q2.alloc _, fun _ _ => ⟨_, u3, by rw [← ee]; exact Blk.new _ _ _, h.keep.size⟩, fun e => (by rw [e4, l9] at e; cases e)⟩⟩
theorem MidI.nine (h : MidI W PA n pc cs P y ly L vals V) (hL : L 9 = false) (h8 : L 8 = true) (v : Value) {V' : World} (hi : ∀ A' c', vals 7 = val y (.slice A' ly.length c') → ∃ A2 c2, v = .slice A2 (n + 1) c2 ∧ RowAt PT 11 V' A2 (n + 1) c2 (cs.take (P * 11) ++ (pcCells y (.slice A' ly.length c') ++ cs.drop (P * 11))) ∧ (A2 = PA ∨ ∃ k, A2 = some ⟨k, 0, none⟩ ∧ V.heap.size ≤ k)) (hk : Keep (fun k => ¬ own PA k) V V') : MidI W PA n pc cs P y ly (FreeJ.mark L 9) (FreeJ.upd vals 9 v) V' := by
  have e2 : FreeJ.mark L 9 7 = L 7 := if_neg (by decide)
  have e3 : FreeJ.mark L 9 8 = L 8 := if_neg (by decide)
  have e4 : FreeJ.mark L 9 9 = true := if_pos rfl
  have u2 : FreeJ.upd vals 9 v 7 = vals 7 := if_neg (by decide)
  have u4 : FreeJ.upd vals 9 v 9 = v := if_pos rfl
  obtain ⟨A1, c1, q1, q2, -, -⟩ := h.r7 (h.c8 h8)
  obtain ⟨A2, c2, z1, z2, z3⟩ := hi A1 c1 q1
  refine ⟨h.keep.trans hk, fun _ => by rw [e2]; exact h.c8 h8, fun _ => by rw [e3]; exact h8, fun e => (by rw [e4] at e; cases e), fun _ => ⟨A1, c1, by rw [u2]; exact q1, owns_row q2 (h.r0 hL) (by decide) hk, fun _ e => (by rw [e4] at e; cases e), fun _ => ⟨A2, c2, by rw [u4]; exact z1, z2, z3.imp id fun ⟨k, y1, y2⟩ => ⟨k, y1, Nat.le_trans h.keep.size y2⟩⟩⟩⟩
end
theorem holds_keep {K : Nat → Prop} {w w' : World} {B n c : Nat} {A : Option Addr} {l : List Int} (h : Holds w B A n c l) (hB : B ≤ w.heap.size) (hA : ∀ b o, 0 < n → A = some ⟨b, o, none⟩ → K b) (hk : Keep K w w') : Holds w' B A n c l :=
  ⟨h.1, h.2.1, h.2.2.1, h.2.2.2.1, fun hn => by
    obtain ⟨b, o, e, hb, hc⟩ := h.2.2.2.2 hn
    exact ⟨b, o, e, hb, fun j z hz => (World.cell?_of_block (w := w) (hk.block b (hA b o hn e) (by omega))).trans (hc j z hz)⟩⟩
/-- What add leaves. -/
def AddR (F : Nat → Prop) (T : Nat → Nat) (w : World) (e : ME) (x : Frag) (w' : World) : Prop := (∃ e' T', e'.nm = e.nm ∧ e'.since = e.since ∧ e'.eb = e.eb ∧ e'.zs.map (·.1) = insF (e.zs.map (·.1)) x ∧ (∀ k, k < w.heap.size → T' k = T k) ∧ EAt F T' w' e') ∧ Keep (fun k => k ≠ e.eb ∧ ¬ own e.PA k) w w'
theorem fin_add {F : Nat → Prop} {T : Nat → Nat} {w w2 V : World} {e : ME} {N P : Nat} {y : Pkt} {l : List Int} {A' A2 : Option Addr} {cc c2 : Nat} (h : EAt F T w e) (hF : ∀ k, F k → k < w.heap.size) (hb : Below w.heap.size w w2) (hN : e.zs.length = N) (hk : Keep (fun k => ¬ own e.PA k) w2 V) (te : Blk V e.eb IT #[.int .i64 e.since, .slice e.PA N e.pc])
    (hP : placeF (e.zs.map (·.1)) y.off = P) (ho : Owns V w2.heap.size (.slice A' l.length cc) l.length l) (hr : RowAt PT 11 V A2 (N + 1) c2 ((flat e.zs).take (P * 11) ++ (pcCells y (.slice A' l.length cc) ++ (flat e.zs).drop (P * 11)))) (hA : A2 = e.PA ∨ ∃ k, A2 = some ⟨k, 0, none⟩ ∧ w2.heap.size ≤ k) :
    AddR F T w e (y, l) (V.setRow e.eb #[.int .i64 e.since, .slice A2 (N + 1) c2]) := by
  have E2 := h.stay (w' := w2) fun k _ hK => hb.block k (by
    obtain ⟨X, t, fz, hX, _⟩ := hK
    exact (Array.getElem?_eq_some_iff.1 hX).1)
  have kp : Keep (fun k => k ≠ e.eb ∧ ¬ own e.PA k) w (V.setRow e.eb #[.int .i64 e.since, .slice A2 (N + 1) c2]) := (Keep.of hb).trans ((hk.mono fun k hk' _ => hk'.2).trans (Keep.row _ _ _ fun z => z.1 rfl))
  have zl : (e.zs.take P ++ ((y, l), (.slice A' l.length cc : Value)) :: e.zs.drop P).length = N + 1 := by
    rw [List.length_append, List.length_cons, List.length_take, List.length_drop, hN]
    omega
  have fl : flat (e.zs.take P ++ ((y, l), (.slice A' l.length cc : Value)) :: e.zs.drop P) = (flat e.zs).take (P * 11) ++ (pcCells y (.slice A' l.length cc) ++ (flat e.zs).drop (P * 11)) := by
    rw [flat_take, flat_drop]
    simp [flat]
  have stay : ∀ {v : Value} {n base : Nat} {k : List Int}, Owns V base v n k → Owns (V.setRow e.eb #[.int .i64 e.since, .slice A2 (N + 1) c2]) base v n k := fun ho => owns_stay ho fun k X fz _ hX => setRow_other _ _ _ _ fun z => by
    subst z
    exact absurd (cells_ty hX te) (by decide)
  refine ⟨⟨⟨e.nm, e.since, e.zs.take P ++ ((y, l), .slice A' l.length cc) :: e.zs.drop P, e.eb, A2, c2⟩, fun k => if k < w.heap.size then T k else e.eb, rfl, rfl, rfl, ?_, fun k hk' => if_pos hk', ⟨?_, h.nf, ⟨?_, fun k o => ?_, fun z hz => ?_⟩⟩⟩, kp⟩
  · unfold insF
    rw [hP]
    simp
  · show Blk _ e.eb IT #[.int .i64 e.since, .slice A2 (e.zs.take P ++ ((y, l), (.slice A' l.length cc : Value)) :: e.zs.drop P).length c2]
    rw [zl]
    exact setRow_heap _ _ _ _ _ _ te
  · show RowAt PT 11 _ A2 (e.zs.take P ++ ((y, l), (.slice A' l.length cc : Value)) :: e.zs.drop P).length c2 (flat (e.zs.take P ++ ((y, l), (.slice A' l.length cc : Value)) :: e.zs.drop P))
    rw [zl, fl]
    refine hr.keep fun k o _ => setRow_other _ _ _ _ fun z => ?_
    subst z
    obtain ⟨Y, hY⟩ := hr.type o
    exact absurd (cells_ty hY te) (by decide)
  · rcases hA with rfl | ⟨g, rfl, hg⟩
    · have := h.row.own k o
      have lt := h.row.row.lt o
      exact ⟨this.1, by rw [if_pos lt]; exact this.2⟩
    · obtain ⟨a, ea, rfl⟩ := o
      cases ea
      have := hb.size
      exact ⟨fun z => by have := hF _ z; dsimp only at this; omega, if_neg (by dsimp only; omega)⟩
  · have old : ∀ z ∈ e.zs, DAt F (V.setRow e.eb #[.int .i64 e.since, .slice A2 (N + 1) c2]) z := fun z hz => ⟨stay (owns_row (E2.row.dat z hz).1 E2.row.row (by decide) hk), (h.row.dat z hz).2⟩
    rcases List.mem_append.1 hz with hz | hz
    · exact old z (List.mem_of_mem_take hz)
    · rcases List.mem_cons.1 hz with rfl | hz
      · refine ⟨stay (ho.mono (Nat.zero_le _)), fun k hk' z => ?_⟩
        have := (ho.lt k hk').1
        have := hF k z
        have := hb.size
        omega
      · exact old z (List.mem_of_mem_drop hz)
set_option maxHeartbeats 4000000 in
theorem add_c (F : Nat → Prop) (T : Nat → Nat) (e : ME) (p : Pkt) (A : Option Addr) (n c : Nat) (l : List Int) (w : World) (h : EAt F T w e) (hF : ∀ k, F k → k < w.heap.size) (h64 : e.zs.length ≤ 64) (hs : Srt (e.zs.map (·.1))) (hp : Holds w w.heap.size A n c l) (hA : ∀ b o, 0 < n → A = some ⟨b, o, none⟩ → F b) (hT : Texts p) (hn : n ≤ 1048576) :
    Calls Tryd.prog 49 #[.pointer (some ⟨e.eb, 0, none⟩), val p (.slice A n c)] w fun er w' => er = .returned (.tuple #[]) ∧ AddR F T w e (bareF (p, l)) w' := by
  obtain ⟨y, hy⟩ : ∃ y, (bareF (p, l)).1 = y := ⟨_, rfl⟩
  have YY := Lib.hid hy
  have be : bareF (p, l) = (y, l) := by rw [← hy, show (bareF (p, l)) = ((bareF (p, l)).1, (bareF (p, l)).2) from rfl, bare_dat]
  rw [be]
  obtain ⟨N, hN⟩ : ∃ N, e.zs.length = N := ⟨_, rfl⟩
  obtain ⟨P, hP⟩ : ∃ P, placeF (e.zs.map (·.1)) p.off = P := ⟨_, rfl⟩
  obtain ⟨CS, hC⟩ : ∃ CS, flat e.zs = CS := ⟨_, rfl⟩
  have yo : y.off = p.off := by rw [← hy]; exact bare_off (p, l)
  have NN := Lib.hid hN
  have CC := Lib.hid hC
  have PF : Hid (placeF (e.zs.map (·.1)) y.off = P) := Lib.hid (by rw [yo]; exact hP)
  have PN : Hid (P ≤ N) := Lib.hid (by
    rw [← hP, ← hN]
    unfold placeF
    exact Nat.le_trans (List.takeWhile_sublist _).length_le (by simp))
  have LL := Lib.hid hp.1
  have HNB := Lib.hid hn
  have HT := Lib.hid hT
  have NB : Hid (N ≤ 64) := Lib.hid (by rw [← hN]; exact h64)
  have H0 := Lib.hid h
  have HF := Lib.hid hF
  have HP := Lib.hid hp
  have HA := Lib.hid hA
  have B0 := (Below.refl w.heap.size w).alloc (Nat.le_refl _) (.cells #[.int .i64 p.tos, .int .i64 p.id, .int .i64 p.ttl, .int .i64 p.proto, .bool p.df, .bool p.mf, .int .i64 p.off, .string p.src, .string p.dst, .string p.opt, .slice A n c] 32)
  have B1 := Lib.hid B0
  have E1 : Hid (Blk (w.alloc (.cells #[.int .i64 p.tos, .int .i64 p.id, .int .i64 p.ttl, .int .i64 p.proto, .bool p.df, .bool p.mf, .int .i64 p.off, .string p.src, .string p.dst, .string p.opt, .slice A n c] 32)) e.eb 64 #[.int .i64 e.since, .slice e.PA N e.pc]) := Lib.hid (by rw [← hN]; exact Blk.alloc h.blk _)
  have K1 := Lib.hid (Blk.new w 32 #[.int .i64 p.tos, .int .i64 p.id, .int .i64 p.ttl, .int .i64 p.proto, .bool p.df, .bool p.mf, .int .i64 p.off, .string p.src, .string p.dst, .string p.opt, .slice A n c])
  have SC : Hid (∀ V, Below (w.alloc (.cells #[.int .i64 p.tos, .int .i64 p.id, .int .i64 p.ttl, .int .i64 p.proto, .bool p.df, .bool p.mf, .int .i64 p.off, .string p.src, .string p.dst, .string p.opt, .slice A n c] 32)).drew.heap.size (w.alloc (.cells #[.int .i64 p.tos, .int .i64 p.id, .int .i64 p.ttl, .int .i64 p.proto, .bool p.df, .bool p.mf, .int .i64 p.off, .string p.src, .string p.dst, .string p.opt, .slice A n c] 32)).drew V → Calls Tryd.prog 65 #[.slice e.PA N e.pc, .int .i64 p.off, .func (.func 66) #[] #[]] V fun e w' => (∃ u, e = .returned (.tuple #[.int .i64 (P : Int), .bool u])) ∧ Below V.heap.size V w') := Lib.hid fun V hV => by
    have := search_c e.PA e.pc e.zs p.off V (((Jc4.RAt.pr h.row).below B0).below (Draw.below_1 hV)) h64 hs
    rw [hN, hP] at this
    exact this
  unfold val
  clear h hF h64 hs hp hA hT hn hN hP hC be hy yo B0
  go_enter Tryd.func49, Tryd.ntmps49
  go_wp2_with fail
  generalize (w.alloc (.cells #[.int .i64 p.tos, .int .i64 p.id, .int .i64 p.ttl, .int .i64 p.proto, .bool p.df, .bool p.mf, .int .i64 p.off, .string p.src, .string p.dst, .string p.opt, .slice A n c] 32)) = w1 at *
  have XE : Hid (∀ V, Below w1.drew.heap.size w1.drew V → Blk V e.eb 64 #[.int .i64 e.since, .slice e.PA N e.pc]) := Lib.hid fun V hV => Blk.below (show Blk w1.drew e.eb 64 #[.int .i64 e.since, .slice e.PA N e.pc] from E1.out) hV (Blk.lt E1.out)
  have XB : Hid (∀ V, Below w1.drew.heap.size w1.drew V → Blk V w.heap.size 32 #[.int .i64 p.tos, .int .i64 p.id, .int .i64 p.ttl, .int .i64 p.proto, .bool p.df, .bool p.mf, .int .i64 p.off, .string p.src, .string p.dst, .string p.opt, .slice A n c]) := Lib.hid fun V hV => Blk.below (show Blk w1.drew w.heap.size 32 #[.int .i64 p.tos, .int .i64 p.id, .int .i64 p.ttl, .int .i64 p.proto, .bool p.df, .bool p.mf, .int .i64 p.off, .string p.src, .string p.dst, .string p.opt, .slice A n c] from K1.out) hV (Blk.lt K1.out)
  refine wp_region_free [0, 1, 2, 3, 4, 5, 6, 7, 8, 9, 10] 11 [] (fun w1 w2 => Below w1.heap.size w1 w2) (fun k' w' v => match k' with
      | 0 => v = .pointer (some ⟨e.eb, 0, none⟩)
      | 1 => v = .pointer (some ⟨e.eb, 0, none⟩)
      | 2 => v = .pointer (some ⟨e.eb, 1, none⟩)
      | 3 => v = .slice e.PA N e.pc
      | 4 => v = .pointer (some ⟨w.heap.size, 6, none⟩)
      | 5 => v = .int .i64 p.off
      | 6 => ∃ u, v = .tuple #[.int .i64 (P : Int), .bool u]
      | 7 => ∃ u, v = .tuple #[.int .i64 (P : Int), .bool u]
      | 8 => v = .int .i64 (P : Int)
      | 9 => ∃ u : Bool, v = .bool u
      | _ => v = .int .i64 (P : Int)) (by kernel_rfl) (by kernel_rfl) (Below.refl _ _) (fun _ _ _ h k => h.trans (k.mono h.size)) (fun k' w1 w2 v h => match k' with
      | 0 => fun x => x
      | 1 => fun x => x
      | 2 => fun x => x
      | 3 => fun x => x
      | 4 => fun x => x
      | 5 => fun x => x
      | 6 => fun x => x
      | 7 => fun x => x
      | 8 => fun x => x
      | 9 => fun x => x
      | _ + 10 => fun x => x) (fun _ _ _ _ _ h => h) ?_ _ (by rfl) ?_
  · refine obs_cons (by rfl) (fun vals w' hgr hdep K hK => ?_) (obs_cons (by rfl) (fun vals w' hgr hdep K hK => ?_) (obs_cons (by rfl) (fun vals w' hgr hdep K hK => ?_) (obs_cons (by rfl) (fun vals w' hgr hdep K hK => ?_) (obs_cons (by rfl) (fun vals w' hgr hdep K hK => ?_) (obs_cons (by rfl) (fun vals w' hgr hdep K hK => ?_) (obs_cons (by rfl) (fun vals w' hgr hdep K hK => ?_) (obs_cons (by rfl) (fun vals w' hgr hdep K hK => ?_) (obs_cons (by rfl) (fun vals w' hgr hdep K hK => ?_) (obs_cons (by rfl) (fun vals w' hgr hdep K hK => ?_) (obs_cons (by rfl) (fun vals w' hgr hdep K hK => ?_) (obs_nil)))))))))))
    · exact wp_move (.tmp 0) rfl _ (at_out _ (by kernel_rfl) rfl) (hK _ _ (Below.refl _ _) rfl)
    · exact MapS.st_nil (.tmp 7) rfl _ ((at_dst 0 (by kernel_rfl)).trans (hdep 0 (by simp) (by kernel_rfl))) (hK _ _ (Below.refl _ _) rfl)
    · exact wp_field (.tmp 8) rfl _ _ ((at_dst 1 (by kernel_rfl)).trans (hdep 1 (by simp) (by kernel_rfl))) (by kernel_rfl) (hK _ _ (Below.refl _ _) rfl)
    · exact wp_load1 (.tmp 9) rfl ⟨e.eb, 1, none⟩ ((at_dst 2 (by kernel_rfl)).trans (hdep 2 (by simp) (by kernel_rfl))) Tryd.underlying36 rfl _ ((XE.out w' hgr).cell 1) (hK _ _ (Below.refl _ _) rfl)
    · exact wp_field (.tmp 3) rfl _ _ (at_out _ (by kernel_rfl) rfl) (by kernel_rfl) (hK _ _ (Below.refl _ _) rfl)
    · exact wp_load1 (.tmp 11) rfl ⟨w.heap.size, 6, none⟩ ((at_dst 4 (by kernel_rfl)).trans (hdep 4 (by simp) (by kernel_rfl))) Tryd.underlying3 rfl _ ((XB.out w' hgr).cell 6) (hK _ _ (Below.refl _ _) rfl)
    · exact wp_call 65 [.tmp 10, .tmp 12, .func 66] _ rfl ent_search [.slice e.PA N e.pc, .int .i64 p.off, .func (.func 66) #[] #[]] (list3 ((at_dst 3 (by kernel_rfl)).trans (hdep 3 (by simp) (by kernel_rfl))) ((at_dst 5 (by kernel_rfl)).trans (hdep 5 (by simp) (by kernel_rfl))) rfl) (fun v w'' => (∃ u, v = .tuple #[.int .i64 (P : Int), .bool u]) ∧ Below w'.heap.size w' w'') ((SC.out w' hgr).mono fun e w'' ⟨⟨u, h1⟩, h2⟩ => ⟨_, h1, ⟨u, rfl⟩, h2⟩) (fun v w'' ⟨h1, h2⟩ => hK _ _ h2 h1)
    · obtain ⟨u, hu⟩ := hdep 6 (by simp) (by kernel_rfl)
      exact wp_move (.tmp 13) rfl _ ((at_dst 6 (by kernel_rfl)).trans hu) (hK _ _ (Below.refl _ _) ⟨u, rfl⟩)
    · obtain ⟨u, hu⟩ := hdep 7 (by simp) (by kernel_rfl)
      exact MapS.st_extract (.tmp 6) 0 rfl #[.int .i64 (P : Int), .bool u] (.int .i64 (P : Int)) ((at_dst 7 (by kernel_rfl)).trans hu) rfl (hK _ _ (Below.refl _ _) rfl)
    · obtain ⟨u, hu⟩ := hdep 7 (by simp) (by kernel_rfl)
      exact MapS.st_extract (.tmp 6) 1 rfl #[.int .i64 (P : Int), .bool u] (.bool u) ((at_dst 7 (by kernel_rfl)).trans hu) rfl (hK _ _ (Below.refl _ _) ⟨u, rfl⟩)
    · exact st_assign (.tmp 14) _ rfl ((at_dst 8 (by kernel_rfl)).trans (hdep 8 (by simp) (by kernel_rfl))) (hK _ _ (Below.refl _ _) rfl)
  · intro vals w' hgr hG
    obtain ⟨u, hu⟩ := hG 9 (by simp)
    refine st_assign (.tmp 15) _ rfl ((at_dst 9 (by kernel_rfl)).trans hu) (wpAnyH_done (by kernel_rfl) ?_ _)
    have e10 : vals 10 = .int .i64 (P : Int) := hG 10 (by simp)
    have B2 := Lib.hid (B1.out.trans ((Draw.below_1 hgr).mono B1.out.size))
    have E2 := Lib.hid (XE.out w' hgr)
    have K2 := Lib.hid (XB.out w' hgr)
    clear hG hgr hu XE XB SC E1 K1
    simp only [fill, dstAt, List.getElem?_cons_zero, List.getElem?_cons_succ, Option.bind_some, Act.put, List.setIfInBounds_toArray, List.set_cons_zero, List.set_cons_succ]
    rw [e10]
    generalize vals 0 = y0, vals 1 = y1, vals 2 = y2, vals 3 = y3, vals 4 = y4, vals 5 = y5, vals 6 = y6, vals 7 = y7, vals 8 = y8, vals 9 = y9 at *
    generalize w' = w2 at *
    have R2 := Lib.hid (H0.out.row.row.below B2.out)
    rw [NN.out, CC.out] at R2
    have XE : Hid (∀ V, Keep (fun k => ¬ own e.PA k) w2 V → Blk V e.eb 64 #[.int .i64 e.since, .slice e.PA N e.pc]) := Lib.hid fun V hV => (hV.block e.eb (fun z => by
      obtain ⟨Y, hY⟩ := R2.out.type z
      exact absurd (cells_ty hY E2.out) (by decide)) E2.out.lt).trans E2.out
    have XB : Hid (∀ V, Keep (fun k => ¬ own e.PA k) w2 V → Blk V w.heap.size 32 #[.int .i64 p.tos, .int .i64 p.id, .int .i64 p.ttl, .int .i64 p.proto, .bool p.df, .bool p.mf, .int .i64 p.off, .string p.src, .string p.dst, .string p.opt, .slice A n c]) := Lib.hid fun V hV => (hV.block w.heap.size (fun z => by
      have := H0.out.row.row.lt z
      omega) K2.out.lt).trans K2.out
    have OC : Hid (∀ V, Keep (fun k => ¬ own e.PA k) w2 V → Calls Tryd.prog 59 #[val p (.slice A n c)] V fun e w' => ∃ A' c', e = .returned (val y (.slice A' l.length c')) ∧ Owns w' V.heap.size (.slice A' l.length c') l.length l ∧ Below V.heap.size V w') := Lib.hid fun V hV => by
      have hh : Holds V w.heap.size A n c l := holds_keep (HP.out.below B2.out) B2.out.size (fun b o h0 hA z => (H0.out.row.own b z).1 (HA.out b o h0 hA)) hV
      exact (ownPiece_c p A n c w.heap.size l V hh (Nat.le_trans B2.out.size hV.size) HNB.out HT.out).mono fun e w' ⟨A', c', h1, h2, h3⟩ => ⟨A', c', by rw [h1, YY.out, LL.out], by rw [LL.out]; exact h2, h3⟩
    have FI : Hid (∀ V A' cc A2 c2, Keep (fun k => ¬ own e.PA k) w2 V → Blk V e.eb IT #[.int .i64 e.since, .slice e.PA N e.pc] → Owns V w2.heap.size (.slice A' l.length cc) l.length l → RowAt PT 11 V A2 (N + 1) c2 (CS.take (P * 11) ++ (pcCells y (.slice A' l.length cc) ++ CS.drop (P * 11))) → (A2 = e.PA ∨ ∃ k, A2 = some ⟨k, 0, none⟩ ∧ w2.heap.size ≤ k) → AddR F T w e (y, l) (V.setRow e.eb #[.int .i64 e.since, .slice A2 (N + 1) c2])) := Lib.hid fun V A' cc A2 c2 h1 h2 h3 h4 h5 => by
      rw [← CC.out] at h4
      exact fin_add H0.out HF.out B2.out NN.out h1 h2 PF.out h3 h4 h5
    clear K2 B1
    go_wp2_with fail
    refine FreeJ.wp_region_freeJ [0, 1, 2, 3, 4, 5, 6, 7, 8, 9, 10, 11] 12 [] [] (fun L vals V => MidI w2 e.PA N e.pc CS P y l L vals V) (fun k' v => match k' with
        | 0 => v = .pointer (some ⟨e.eb, 0, none⟩)
        | 1 => v = .pointer (some ⟨e.eb, 0, none⟩)
        | 2 => v = .pointer (some ⟨e.eb, 0, none⟩)
        | 3 => v = .pointer (some ⟨e.eb, 1, none⟩)
        | 4 => v = .slice e.PA N e.pc
        | 5 => v = .int .i64 (P : Int)
        | 6 => v = .agg #[.int .i64 p.tos, .int .i64 p.id, .int .i64 p.ttl, .int .i64 p.proto, .bool p.df, .bool p.mf, .int .i64 p.off, .string p.src, .string p.dst, .string p.opt, .slice A n c]
        | 7 => True
        | 8 => True
        | 9 => True
        | 10 => v = .pointer (some ⟨e.eb, 0, none⟩)
        | _ => v = .pointer (some ⟨e.eb, 1, none⟩)) (by kernel_rfl) (by kernel_rfl) (fun x hx => by cases hx) (fun L vals h0 => MidI.start R2.out fun j hj => h0 j (by rcases hj with rfl | rfl | rfl <;> simp)) (fun _ _ _ _ _ h => h) ?_ _ (by rfl) ?_
    · refine FreeJ.obsJ_cons (by rfl) (fun vals w' L hI hL hdep K hK => ?_) (FreeJ.obsJ_cons (by rfl) (fun vals w' L hI hL hdep K hK => ?_) (FreeJ.obsJ_cons (by rfl) (fun vals w' L hI hL hdep K hK => ?_) (FreeJ.obsJ_cons (by rfl) (fun vals w' L hI hL hdep K hK => ?_) (FreeJ.obsJ_cons (by rfl) (fun vals w' L hI hL hdep K hK => ?_) (FreeJ.obsJ_cons (by rfl) (fun vals w' L hI hL hdep K hK => ?_) (FreeJ.obsJ_cons (by rfl) (fun vals w' L hI hL hdep K hK => ?_) (FreeJ.obsJ_cons (by rfl) (fun vals w' L hI hL hdep K hK => ?_) (FreeJ.obsJ_cons (by rfl) (fun vals w' L hI hL hdep K hK => ?_) (FreeJ.obsJ_cons (by rfl) (fun vals w' L hI hL hdep K hK => ?_) (FreeJ.obsJ_cons (by rfl) (fun vals w' L hI hL hdep K hK => ?_) (FreeJ.obsJ_cons (by rfl) (fun vals w' L hI hL hdep K hK => ?_) (FreeJ.obsJ_nil))))))))))))
      · exact wp_move (.tmp 0) rfl _ (at_out _ (by kernel_rfl) rfl) (hK _ _ (hI.pure 0 _ (by decide)) rfl)
      · exact wp_move (.tmp 0) rfl _ (at_out _ (by kernel_rfl) rfl) (hK _ _ (hI.pure 1 _ (by decide)) rfl)
      · exact MapS.st_nil (.tmp 17) rfl _ ((at_dst 1 (by kernel_rfl)).trans ((hdep 1 (by simp) (by kernel_rfl)).2)) (hK _ _ (hI.pure 2 _ (by decide)) rfl)
      · exact wp_field (.tmp 18) rfl _ _ ((at_dst 2 (by kernel_rfl)).trans ((hdep 2 (by simp) (by kernel_rfl)).2)) (by kernel_rfl) (hK _ _ (hI.pure 3 _ (by decide)) rfl)
      · exact wp_load1 (.tmp 19) rfl ⟨e.eb, 1, none⟩ ((at_dst 3 (by kernel_rfl)).trans ((hdep 3 (by simp) (by kernel_rfl)).2)) Tryd.underlying36 rfl _ ((XE.out w' hI.keep).cell 1) (hK _ _ (hI.pure 4 _ (by decide)) rfl)
      · exact wp_move (.tmp 4) rfl _ (at_out _ (by kernel_rfl) rfl) (hK _ _ (hI.pure 5 _ (by decide)) rfl)
      · exact st_load_row 32 (.tmp 3) rfl w.heap.size (at_out _ (by kernel_rfl) rfl) 32 #[.int .i64 p.tos, .int .i64 p.id, .int .i64 p.ttl, .int .i64 p.proto, .bool p.df, .bool p.mf, .int .i64 p.off, .string p.src, .string p.dst, .string p.opt, .slice A n c] (0, 0) _ (XB.out w' hI.keep) Tryd.underlying32 rfl (by kernel_rfl) (hK _ _ (hI.pure 6 _ (by decide)) rfl)
      · exact wp_call 59 [.tmp 22] _ rfl ent_piece [val p (.slice A n c)] (Draw.list1 ((at_dst 6 (by kernel_rfl)).trans ((hdep 6 (by simp) (by kernel_rfl)).2))) (fun v w'' => ∃ A' c', v = val y (.slice A' l.length c') ∧ Owns w'' w'.heap.size (.slice A' l.length c') l.length l ∧ Below w'.heap.size w' w'') ((OC.out w' hI.keep).mono fun e w'' ⟨A', c', h1, h2, h3⟩ => ⟨_, h1, A', c', rfl, h2, h3⟩) (fun v w'' ⟨A', c', h1, h2, h3⟩ => by
          subst h1
          exact hK _ _ (hI.seven hL h3 (h2.mono hI.keep.size)) trivial)
      · obtain ⟨A', c', q1, -, -, -⟩ := hI.r7 (hdep 7 (by simp) (by kernel_rfl)).1
        exact Spl7.st_one (.tmp 23) rfl y A' _ c' ((at_dst 7 (by kernel_rfl)).trans q1) (hK _ _ (hI.eight hL (hdep 7 (by simp) (by kernel_rfl)).1 q1) trivial)
      · obtain ⟨A', c', q1, q2, q3, -⟩ := hI.r7 (hI.c8 (hdep 8 (by simp) (by kernel_rfl)).1)
        obtain ⟨vb, s1, s2, s3⟩ := q3 (hdep 8 (by simp) (by kernel_rfl)).1 hL
        have rw_ := hI.r0 hL
        exact wp_call 68 [.tmp 20, .tmp 21, .tmp 24] _ rfl ent_insert [.slice e.PA N e.pc, .int .i64 (P : Int), .slice (some ⟨vb, 0, none⟩) 1 1] (list3 ((at_dst 4 (by kernel_rfl)).trans ((hdep 4 (by simp) (by kernel_rfl)).2)) ((at_dst 5 (by kernel_rfl)).trans ((hdep 5 (by simp) (by kernel_rfl)).2)) ((at_dst 8 (by kernel_rfl)).trans s1)) (fun v w'' => InsP.Ins e.PA N e.pc (CS.take (P * 11) ++ (pcCells y (.slice A' l.length c') ++ CS.drop (P * 11))) w' (.returned v) w'')
          ((InsP.insert_pkt e.PA N e.pc P CS vb (pcCells y (.slice A' l.length c')).toArray w' rw_ s2 (by simp [pcCells]) (by simp [pcCells, Value.oneCell']) (by have := NB.out; omega) PN.out (fun z => by
            have := R2.out.lt z
            omega)).mono fun e w'' h => by
              obtain ⟨⟨A2, c2, he, _⟩, _⟩ := id h
              exact ⟨_, he, by rw [← he]; exact h⟩) (fun v w'' ⟨⟨A2, c2, h1, h2, h3⟩, h4, _⟩ => hK _ _ (hI.nine hL (hdep 8 (by simp) (by kernel_rfl)).1 v (fun A1 c1 he => by
              have ee : (.slice A1 l.length c1 : Value) = .slice A' l.length c' := by
                have := he.symm.trans q1
                unfold val at this
                simp at this
                simp [this]
              rw [ee]
              injection h1 with h1
              exact ⟨A2, c2, h1, h2, h3⟩) h4) trivial)
      · exact MapS.st_nil (.tmp 16) rfl _ ((at_dst 0 (by kernel_rfl)).trans ((hdep 0 (by simp) (by kernel_rfl)).2)) (hK _ _ (hI.pure 10 _ (by decide)) rfl)
      · exact wp_field (.tmp 26) rfl _ _ ((at_dst 10 (by kernel_rfl)).trans ((hdep 10 (by simp) (by kernel_rfl)).2)) (by kernel_rfl) (hK _ _ (hI.pure 11 _ (by decide)) rfl)
    · intro vals w' L hI hL hV
      obtain ⟨A', cc, q1, q2, -, q4⟩ := hI.r7 (hL 7 (by simp))
      obtain ⟨A2, c2, z1, z2, z3⟩ := q4 (hL 9 (by simp))
      have NE : ¬ own e.PA e.eb := fun z => by
        obtain ⟨Y, hY⟩ := R2.out.type z
        exact absurd (cells_ty hY E2.out) (by decide)
      have TE := (hI.keep.block e.eb NE E2.out.lt).trans E2.out
      refine st_store_run 36 (.tmp 27) (.tmp 25) rfl ⟨e.eb, 1, none⟩ ((at_dst 11 (by kernel_rfl)).trans (hV 11 (by simp))) (.slice A2 (N + 1) c2) ((at_dst 9 (by kernel_rfl)).trans z1) (Store.run_store_one TE (by simp) (by kernel_rfl) rfl #[.int .i64 e.since, .slice A2 (N + 1) c2] rfl rfl) (wpAnyH_done (by kernel_rfl) ?_ _)
      have FIN := Lib.hid (FI.out w' A' cc A2 c2 hI.keep TE q2 z2 z3)
      clear hI hL hV q1 q2 q4 z1 z2 z3 TE NE R2 E2 FI XE XB
      simp only [fill, dstAt, List.getElem?_cons_zero, List.getElem?_cons_succ, Option.bind_some, Act.put, List.setIfInBounds_toArray, List.set_cons_zero, List.set_cons_succ]
      generalize w'.setRow e.eb #[.int .i64 e.since, .slice A2 (N + 1) c2] = w3 at *
      generalize vals 0 = y0, vals 1 = y1, vals 2 = y2, vals 3 = y3, vals 4 = y4, vals 5 = y5, vals 6 = y6, vals 7 = y7, vals 8 = y8, vals 9 = y9, vals 10 = y10, vals 11 = y11 at *
      go_wp2_with fail
      go_end0
      exact ⟨rfl, FIN.out⟩
end Go.Proofs.YtnpggkpcadefjaaDoor.Jc6

/- The code's whole and packet. -/
set_option linter.unusedVariables false
set_option maxRecDepth 100000
namespace Go.Proofs.YtnpggkpcadefjaaDoor.Jc7
open Go.RowKit Go.Proofs.YtnpggkpcadefjaaDoor.Sums Go.Proofs.YtnpggkpcadefjaaDoor.Mem Go.Proofs.YtnpggkpcadefjaaDoor.Blk Go.Proofs.YtnpggkpcadefjaaDoor.Pkt Go.Proofs.YtnpggkpcadefjaaDoor.Check Go.Proofs.YtnpggkpcadefjaaDoor.JoiM Go.Proofs.YtnpggkpcadefjaaDoor.JoiC Go.Proofs.YtnpggkpcadefjaaDoor.RowN Go.Proofs.YtnpggkpcadefjaaDoor.RowA Go.Proofs.YtnpggkpcadefjaaDoor.SplP Go.Proofs.YtnpggkpcadefjaaDoor.Spl5 Go.Proofs.YtnpggkpcadefjaaDoor.MapL Go.Proofs.YtnpggkpcadefjaaDoor.Jc1 Go.Proofs.YtnpggkpcadefjaaDoor.Jc2 Go.Proofs.YtnpggkpcadefjaaDoor.Jc3 Go.Proofs.YtnpggkpcadefjaaDoor.Cat Go.Proofs.YtnpggkpcadefjaaDoor.Jc4 Go.Proofs.YtnpggkpcadefjaaDoor.Jc5 Go.Proofs.YtnpggkpcadefjaaDoor.Jc6

theorem pc_one {z : Pc} (h : ∃ A c, z.2 = .slice A z.1.2.length c) : ∀ v ∈ pcCells z.1.1 z.2, v.oneCell' = true := by
  obtain ⟨A, c, e⟩ := h
  rw [e]
  simp [pcCells, Value.oneCell']
theorem drop_cons {α : Type} : ∀ (l : List α) (i : Nat) (x : α), l[i]? = some x → l.drop i = x :: l.drop (i + 1)
  | [], i, x, h => by simp at h
  | y :: l, 0, x, h => by simp at h; subst h; rfl
  | y :: l, i + 1, x, h => by
    rw [List.drop_succ_cons, List.drop_succ_cons]
    exact drop_cons l i x (by simpa using h)
set_option maxHeartbeats 4000000 in
theorem whole_c (b : Nat) (since : Int) (PA : Option Addr) (pc : Nat) (zs : List Pc) (w : World) (hb : Blk w b 64 #[.int .i64 since, .slice PA zs.length pc]) (h : PR w PA pc zs) (h0 : 0 < zs.length) (hn : zs.length ≤ 64) (hz : ∀ z ∈ zs, FOk z.1) :
    Calls Tryd.prog 50 #[.pointer (some ⟨b, 0, none⟩)] w fun e w' => e = .returned (.bool (wholeC (zs.map (·.1)))) ∧ Below w.heap.size w w' := by
  obtain ⟨N, hN⟩ : ∃ N, zs.length = N := ⟨_, rfl⟩
  obtain ⟨cl, hcl⟩ : ∃ cl, zs.map (·.1) = cl := ⟨_, rfl⟩
  have at_ : ∀ (i : Nat) (z : Pc), zs[i]? = some z → cl[i]? = some z.1 := fun i z hi => by rw [← hcl, List.getElem?_map, hi]; rfl
  obtain ⟨u, hu⟩ : ∃ u, wholeC cl = u := ⟨_, rfl⟩
  have HU : Hid (contF 0 cl = true → u = !lastMf cl) := Lib.hid (fun z => by rw [← hu]; unfold wholeC; rw [z, Bool.true_and])
  have HU2 : Hid (contF 0 cl = false → u = false) := Lib.hid (fun z => by rw [← hu]; unfold wholeC; rw [z, Bool.false_and])
  have AT := Lib.hid at_
  have NN := Lib.hid hN
  have CN : Hid (cl.length = N) := Lib.hid (by rw [← hcl, List.length_map, hN])
  rw [hN] at hb h0 hn
  have K1 := Lib.hid hb
  have H1 := Lib.hid h
  have HZ := Lib.hid hz
  rw [hcl, hu]
  clear hb h hz hN hcl at_ hu
  go_enter Tryd.func50, Tryd.ntmps50
  have c1 := K1.out.cell 1
  go_wp2_with fail
  clear c1
  go_loopw [3, 11] (fun av iv wr => ∃ (i : Nat) (a : Int), av = .int .i64 a ∧ iv = .int .i64 (i : Int) ∧ i ≤ N ∧ 0 ≤ a ∧ a ≤ 200000 ∧ Hid (contF 0 cl = contF a (cl.drop i)) ∧ Hid (Below w.heap.size w wr)) (fun _ iv _ => N - (intOf iv).toNat)
  case atStart => exact ⟨0, 0, rfl, rfl, by omega, by omega, by omega, Lib.hid rfl, Lib.hid (Below.refl _ _)⟩
  case round =>
    obtain ⟨i, a, rfl, rfl, hi, a0, a1, HC, HB⟩ := hrel
    by_cases lt : i < N
    · obtain ⟨z, hz⟩ : ∃ z, zs[i]? = some z := ⟨_, List.getElem?_eq_getElem (by rw [NN.out]; exact lt)⟩
      have fz := HZ.out z (List.mem_of_getElem? hz)
      obtain ⟨gb, A', c', rfl, hbl, hat, hd, -⟩ := (H1.out.below HB.out).at_ hz
      have CZ := Lib.hid (AT.out i z hz)
      obtain ⟨⟨q, lq⟩, dq⟩ := z
      have one := pc_one ⟨A', c', hd⟩
      dsimp only at hd fz CZ one
      subst hd
      have HC2 : Hid (contF 0 cl = (decide (q.off = a) && contF (q.off + (lq.length : Int)) (cl.drop (i + 1)))) := Lib.hid (by
        rw [HC.out, drop_cons cl i _ CZ.out]
        rfl)
      have RP := Lib.hid (Part.run_part wr gb (i * 11) PT [.int .i64 q.tos, .int .i64 q.id, .int .i64 q.ttl, .int .i64 q.proto, .bool q.df, .bool q.mf, .int .i64 q.off, .string q.src, .string q.dst, .string q.opt, .slice A' lq.length c'] _ Tryd.underlying32 rfl (by kernel_rfl) hat)
      have EC := Lib.hid (fun W => end_c q A' lq.length c' W (by have := fz.o0; dsimp only at this; omega) (by have := fz.o1; dsimp only at this; omega) (by have := fz.len; dsimp only at this; omega))
      have o0 := fz.o0
      have o1 := fz.o1
      have o2 := fz.len
      dsimp only at o0 o1 o2
      have S0 := Lib.hid (Blk.new wr PT #[.int .i64 0, .int .i64 0, .int .i64 0, .int .i64 0, .bool false, .bool false, .int .i64 0, .string ⟨#[]⟩, .string ⟨#[]⟩, .string ⟨#[]⟩, .slice none 0 0])
      have RS := Lib.hid (run_storeVar_row (P := Tryd.prog) (wr.alloc (.cells #[.int .i64 0, .int .i64 0, .int .i64 0, .int .i64 0, .bool false, .bool false, .int .i64 0, .string ⟨#[]⟩, .string ⟨#[]⟩, .string ⟨#[]⟩, .slice none 0 0] PT)) wr.heap.size PT PT #[.int .i64 0, .int .i64 0, .int .i64 0, .int .i64 0, .bool false, .bool false, .int .i64 0, .string ⟨#[]⟩, .string ⟨#[]⟩, .string ⟨#[]⟩, .slice none 0 0] #[.int .i64 q.tos, .int .i64 q.id, .int .i64 q.ttl, .int .i64 q.proto, .bool q.df, .bool q.mf, .int .i64 q.off, .string q.src, .string q.dst, .string q.opt, .slice A' lq.length c'] S0.out (by kernel_rfl) rfl (by simp [Value.oneCell']))
      obtain ⟨w1, hw1⟩ : ∃ w1, w1 = (wr.alloc (.cells #[.int .i64 0, .int .i64 0, .int .i64 0, .int .i64 0, .bool false, .bool false, .int .i64 0, .string ⟨#[]⟩, .string ⟨#[]⟩, .string ⟨#[]⟩, .slice none 0 0] PT)).setRow wr.heap.size #[.int .i64 q.tos, .int .i64 q.id, .int .i64 q.ttl, .int .i64 q.proto, .bool q.df, .bool q.mf, .int .i64 q.off, .string q.src, .string q.dst, .string q.opt, .slice A' lq.length c'] := ⟨_, rfl⟩
      rw [← hw1] at RS
      have K2 : Hid (Blk w1 wr.heap.size PT #[.int .i64 q.tos, .int .i64 q.id, .int .i64 q.ttl, .int .i64 q.proto, .bool q.df, .bool q.mf, .int .i64 q.off, .string q.src, .string q.dst, .string q.opt, .slice A' lq.length c']) := Lib.hid (by rw [hw1]; exact setRow_heap _ _ _ _ _ _ S0.out)
      have B1 : Hid (Below w.heap.size w w1) := Lib.hid (by rw [hw1]; exact Com.setRow_bel (HB.out.alloc HB.out.size _) HB.out.size _)
      have d6 := K2.out.cell 6
      have f1 : decide (i < N) = true := decide_eq_true lt
      have f2 : IntKind.i64.wrap ((i : Int) + 1) = ((i + 1 : Nat) : Int) := by rw [IntWalk.i64_in _ (by omega)]; omega
      unfold val at EC
      clear hz hat hbl one hw1 S0 fz HC
      by_cases oa : q.off = a
      · have g : (q.off != a) = false := by simp [oa]
        have HC3 : Hid (contF 0 cl = contF (q.off + (lq.length : Int)) (cl.drop (i + 1))) := Lib.hid (by rw [HC2.out, decide_eq_true oa, Bool.true_and])
        have OB : Hid (0 ≤ q.off + (lq.length : Int) ∧ q.off + (lq.length : Int) ≤ 200000) := Lib.hid (by omega)
        clear HC2 oa o0 o1 o2
        go_wp2_with (first | (refine Store.at_load 32 (.tmp 13) ?_ ?_; exact rfl; refine Part.wpList_load_part rfl 32 (.tmp 13) rfl gb (i * 11) [.int .i64 q.tos, .int .i64 q.id, .int .i64 q.ttl, .int .i64 q.proto, .bool q.df, .bool q.mf, .int .i64 q.off, .string q.src, .string q.dst, .string q.opt, .slice A' lq.length c'] rfl (RP.out) ?_) | (refine Store.at_store PT (.tmp 5) (.tmp 14) ?_ ?_; exact rfl; refine JcP.wpList_store_run rfl PT (.tmp 5) (.tmp 14) rfl ⟨wr.heap.size, 0, none⟩ (.agg #[.int .i64 q.tos, .int .i64 q.id, .int .i64 q.ttl, .int .i64 q.proto, .bool q.df, .bool q.mf, .int .i64 q.off, .string q.src, .string q.dst, .string q.opt, .slice A' lq.length c']) rfl rfl RS.out ?_) | (refine Store.at_load 32 (.tmp 5) ?_ ?_; exact rfl; refine Loads.wpList_load_w rfl 32 (.tmp 5) rfl wr.heap.size rfl 32 #[.int .i64 q.tos, .int .i64 q.id, .int .i64 q.ttl, .int .i64 q.proto, .bool q.df, .bool q.mf, .int .i64 q.off, .string q.src, .string q.dst, .string q.opt, .slice A' lq.length c'] (0, 0) _ (K2.out) Tryd.underlying32 rfl (by kernel_rfl) ?_))
        refine (EC.out _).mono ?_
        rintro e w2 ⟨rfl, hb⟩
        have B2 := Lib.hid (B1.out.trans (hb.mono B1.out.size))
        have OB1 := OB.out
        clear hb EC RP RS d6
        go_wp2_with fail
        go_roundw
        case rel => exact ⟨i + 1, q.off + (lq.length : Int), rfl, by go_num, by omega, OB1.1, OB1.2, HC3, B2⟩
        case measure => simp [intOf]; omega
      · have g : (q.off != a) = true := by simp [oa]
        have UE := HU2.out (by rw [HC2.out, decide_eq_false oa, Bool.false_and])
        clear HC2 oa o0 o1 o2
        go_wp2_with (first | (refine Store.at_load 32 (.tmp 13) ?_ ?_; exact rfl; refine Part.wpList_load_part rfl 32 (.tmp 13) rfl gb (i * 11) [.int .i64 q.tos, .int .i64 q.id, .int .i64 q.ttl, .int .i64 q.proto, .bool q.df, .bool q.mf, .int .i64 q.off, .string q.src, .string q.dst, .string q.opt, .slice A' lq.length c'] rfl (RP.out) ?_) | (refine Store.at_store PT (.tmp 5) (.tmp 14) ?_ ?_; exact rfl; refine JcP.wpList_store_run rfl PT (.tmp 5) (.tmp 14) rfl ⟨wr.heap.size, 0, none⟩ (.agg #[.int .i64 q.tos, .int .i64 q.id, .int .i64 q.ttl, .int .i64 q.proto, .bool q.df, .bool q.mf, .int .i64 q.off, .string q.src, .string q.dst, .string q.opt, .slice A' lq.length c']) rfl rfl RS.out ?_))
        go_ret
        exact ⟨by rw [UE]; rfl, B1.out⟩
    · obtain rfl : i = N := by omega
      have UE := HU.out (by rw [HC.out, List.drop_of_length_le (by rw [CN.out]; exact Nat.le_refl _)]; rfl)
      obtain ⟨z, hz⟩ : ∃ z, zs[i - 1]? = some z := ⟨_, List.getElem?_eq_getElem (by rw [NN.out]; omega)⟩
      have hl : cl.getLast? = some z.1 := by rw [List.getLast?_eq_getElem?, CN.out]; exact AT.out _ _ hz
      have ul : u = !z.1.1.mf := by rw [UE]; unfold lastMf; rw [hl]
      obtain ⟨gb, A', c', rfl, hbl, hat, -, -⟩ := (H1.out.below HB.out).at_ hz
      have E2 := Lib.hid (K1.out.below HB.out K1.out.lt)
      obtain ⟨k, rfl⟩ : ∃ k, i = k + 1 := ⟨i - 1, by omega⟩
      rw [Nat.add_sub_cancel] at hat
      have c5 : wr.cell? ⟨gb, k * 11 + 5, none⟩ = some (.bool z.1.1.mf) := hat 5 _ rfl
      have c1 := E2.out.cell 1
      obtain ⟨mf, hmf⟩ : ∃ mf, z.1.1.mf = mf := ⟨_, rfl⟩
      rw [hmf] at c5 ul
      have UL := Lib.hid ul
      have f1 : decide (k + 1 < k + 1) = false := decide_eq_false (by omega)
      have f2 : IntKind.i64.wrap (((k + 1 : Nat) : Int) - 1) = ((k : Nat) : Int) := by rw [IntWalk.i64_in _ (by omega)]; omega
      have f3 : decide (k < k + 1) = true := decide_eq_true (by omega)
      clear hz hl ul hat hbl UE HC hmf E2
      go_wp2_with fail
      go_quiet (fail)
      go_wp2_with fail
      go_ret
      exact ⟨by rw [UL.out]; rfl, below_drewN HB.out _⟩
theorem dat_take : ∀ (l : List Frag) (i : Nat) (x : Frag), l[i]? = some x → dataC (l.take (i + 1)) = dataC (l.take i) ++ x.2
  | [], i, x, h => by simp at h
  | y :: l, 0, x, h => by simp at h; subst h; simp [dataC]
  | y :: l, i + 1, x, h => by
    rw [List.take_succ_cons, List.take_succ_cons]
    have := dat_take l i x (by simpa using h)
    unfold dataC at this ⊢
    rw [List.flatMap_cons, List.flatMap_cons, this, List.append_assoc]
theorem dat_le : ∀ (l : List Frag) (i : Nat), (dataC (l.take i)).length ≤ (dataC l).length
  | [], i => by simp
  | y :: l, 0 => by simp [dataC]
  | y :: l, i + 1 => by
    have := dat_le l i
    unfold dataC at this ⊢
    rw [List.take_succ_cons, List.flatMap_cons, List.flatMap_cons, List.length_append, List.length_append]
    omega
theorem owns_set {W : World} {g base n : Nat} {v : Value} {l : List Int} {C X : Array Value} (h : Owns W base v n l) (hg : Blk W g PT X) : Owns (W.setRow g C) base v n l := owns_stay h fun k Y fz _ hY => setRow_other _ _ _ _ fun z => by
  subst z
  exact absurd (cells_ty hY hg) (by decide)
set_option maxHeartbeats 4000000 in
theorem packet_c (b : Nat) (since : Int) (PA : Option Addr) (pc : Nat) (zs : List Pc) (w : World) (hb : Blk w b 64 #[.int .i64 since, .slice PA zs.length pc]) (h : PR w PA pc zs) (h0 : 0 < zs.length) (hn : zs.length ≤ 64) (hz : ∀ z ∈ zs, FOk z.1) (ht : (dataC (zs.map (·.1))).length ≤ 200000) :
    Calls Tryd.prog 51 #[.pointer (some ⟨b, 0, none⟩)] w fun e w' => (∃ A c, e = .returned (val (packC (zs.map (·.1))).1 (.slice A (packC (zs.map (·.1))).2.length c)) ∧ Owns w' w.heap.size (.slice A (packC (zs.map (·.1))).2.length c) (packC (zs.map (·.1))).2.length (packC (zs.map (·.1))).2) ∧ Below w.heap.size w w' := by
  obtain ⟨N, hN⟩ : ∃ N, zs.length = N := ⟨_, rfl⟩
  obtain ⟨cl, hcl⟩ : ∃ cl, zs.map (·.1) = cl := ⟨_, rfl⟩
  have at_ : ∀ (i : Nat) (z : Pc), zs[i]? = some z → cl[i]? = some z.1 := fun i z hi => by rw [← hcl, List.getElem?_map, hi]; rfl
  rw [hcl] at ht
  have HT := Lib.hid ht
  obtain ⟨z0, hz0⟩ : ∃ z0, zs[0]? = some z0 := ⟨_, List.getElem?_eq_getElem h0⟩
  obtain ⟨gb, A0, c0', hPA, hbl, hat0, hd0, -⟩ := h.at_ hz0
  have pk : packC cl = ({ z0.1.1 with mf := false }, dataC cl) := by
    have := at_ 0 z0 hz0
    cases cl with
    | nil => simp at this
    | cons x t =>
      simp at this
      subst this
      rfl
  obtain ⟨⟨y, l0⟩, d0⟩ := z0
  dsimp only at hd0 pk hat0
  rw [hcl, pk]
  have AT := Lib.hid at_
  have NN := Lib.hid hN
  have CN : Hid (cl.length = N) := Lib.hid (by rw [← hcl, List.length_map, hN])
  rw [hN] at hb h0 hn
  subst hPA
  have one0 : (#[.int .i64 y.tos, .int .i64 y.id, .int .i64 y.ttl, .int .i64 y.proto, .bool y.df, .bool y.mf, .int .i64 y.off, .string y.src, .string y.dst, .string y.opt, d0] : Array Value).all (·.oneCell') = true := by rw [hd0]; simp [Value.oneCell']
  have B0 := ((Below.refl w.heap.size w).alloc (Nat.le_refl _) (.cells #[.int .i64 0, .int .i64 0, .int .i64 0, .int .i64 0, .bool false, .bool false, .int .i64 0, .string ⟨#[]⟩, .string ⟨#[]⟩, .string ⟨#[]⟩, .slice none 0 0] PT)).alloc (by simp) (.cells #[.int .i64 0, .int .i64 0, .int .i64 0, .int .i64 0, .bool false, .bool false, .int .i64 0, .string ⟨#[]⟩, .string ⟨#[]⟩, .string ⟨#[]⟩, .slice none 0 0] PT)
  have K1 := Lib.hid (hb.below B0 hb.lt)
  have H1 := Lib.hid (h.below B0)
  have HZ := Lib.hid hz
  have HX := Lib.hid h0
  have RP0 := Lib.hid (Part.run_part (w.alloc (.cells #[.int .i64 0, .int .i64 0, .int .i64 0, .int .i64 0, .bool false, .bool false, .int .i64 0, .string ⟨#[]⟩, .string ⟨#[]⟩, .string ⟨#[]⟩, .slice none 0 0] PT)) gb 0 PT [.int .i64 y.tos, .int .i64 y.id, .int .i64 y.ttl, .int .i64 y.proto, .bool y.df, .bool y.mf, .int .i64 y.off, .string y.src, .string y.dst, .string y.opt, d0] _ Tryd.underlying32 rfl (by kernel_rfl) (fun j v hj => by
    have := hat0 j v hj
    rw [Nat.zero_mul] at this
    exact keep_cell this ((Below.refl _ _).alloc (Nat.le_refl _) _)))
  have S0 : Blk ((w.alloc (.cells #[.int .i64 0, .int .i64 0, .int .i64 0, .int .i64 0, .bool false, .bool false, .int .i64 0, .string ⟨#[]⟩, .string ⟨#[]⟩, .string ⟨#[]⟩, .slice none 0 0] PT)).alloc (.cells #[.int .i64 0, .int .i64 0, .int .i64 0, .int .i64 0, .bool false, .bool false, .int .i64 0, .string ⟨#[]⟩, .string ⟨#[]⟩, .string ⟨#[]⟩, .slice none 0 0] PT)) (w.heap.size + 1) PT #[.int .i64 0, .int .i64 0, .int .i64 0, .int .i64 0, .bool false, .bool false, .int .i64 0, .string ⟨#[]⟩, .string ⟨#[]⟩, .string ⟨#[]⟩, .slice none 0 0] := by
    have := Blk.new (w.alloc (.cells #[.int .i64 0, .int .i64 0, .int .i64 0, .int .i64 0, .bool false, .bool false, .int .i64 0, .string ⟨#[]⟩, .string ⟨#[]⟩, .string ⟨#[]⟩, .slice none 0 0] PT)) PT #[.int .i64 0, .int .i64 0, .int .i64 0, .int .i64 0, .bool false, .bool false, .int .i64 0, .string ⟨#[]⟩, .string ⟨#[]⟩, .string ⟨#[]⟩, .slice none 0 0]
    simpa using this
  have G0 : Blk ((w.alloc (.cells #[.int .i64 0, .int .i64 0, .int .i64 0, .int .i64 0, .bool false, .bool false, .int .i64 0, .string ⟨#[]⟩, .string ⟨#[]⟩, .string ⟨#[]⟩, .slice none 0 0] PT)).alloc (.cells #[.int .i64 0, .int .i64 0, .int .i64 0, .int .i64 0, .bool false, .bool false, .int .i64 0, .string ⟨#[]⟩, .string ⟨#[]⟩, .string ⟨#[]⟩, .slice none 0 0] PT)) w.heap.size PT #[.int .i64 0, .int .i64 0, .int .i64 0, .int .i64 0, .bool false, .bool false, .int .i64 0, .string ⟨#[]⟩, .string ⟨#[]⟩, .string ⟨#[]⟩, .slice none 0 0] := Blk.alloc (Blk.new w PT #[.int .i64 0, .int .i64 0, .int .i64 0, .int .i64 0, .bool false, .bool false, .int .i64 0, .string ⟨#[]⟩, .string ⟨#[]⟩, .string ⟨#[]⟩, .slice none 0 0]) _
  have R1 := Lib.hid (run_storeVar_row (P := Tryd.prog) _ (w.heap.size + 1) PT PT #[.int .i64 0, .int .i64 0, .int .i64 0, .int .i64 0, .bool false, .bool false, .int .i64 0, .string ⟨#[]⟩, .string ⟨#[]⟩, .string ⟨#[]⟩, .slice none 0 0] #[.int .i64 y.tos, .int .i64 y.id, .int .i64 y.ttl, .int .i64 y.proto, .bool y.df, .bool y.mf, .int .i64 y.off, .string y.src, .string y.dst, .string y.opt, d0] S0 (by kernel_rfl) rfl one0)
  have ne : w.heap.size ≠ w.heap.size + 1 := by omega
  obtain ⟨w1, hw1⟩ : ∃ w1, w1 = ((w.alloc (.cells #[.int .i64 0, .int .i64 0, .int .i64 0, .int .i64 0, .bool false, .bool false, .int .i64 0, .string ⟨#[]⟩, .string ⟨#[]⟩, .string ⟨#[]⟩, .slice none 0 0] PT)).alloc (.cells #[.int .i64 0, .int .i64 0, .int .i64 0, .int .i64 0, .bool false, .bool false, .int .i64 0, .string ⟨#[]⟩, .string ⟨#[]⟩, .string ⟨#[]⟩, .slice none 0 0] PT)).setRow (w.heap.size + 1) #[.int .i64 y.tos, .int .i64 y.id, .int .i64 y.ttl, .int .i64 y.proto, .bool y.df, .bool y.mf, .int .i64 y.off, .string y.src, .string y.dst, .string y.opt, d0] := ⟨_, rfl⟩
  have S1 : Blk w1 (w.heap.size + 1) PT #[.int .i64 y.tos, .int .i64 y.id, .int .i64 y.ttl, .int .i64 y.proto, .bool y.df, .bool y.mf, .int .i64 y.off, .string y.src, .string y.dst, .string y.opt, d0] := by rw [hw1]; exact setRow_heap _ _ _ _ _ _ S0
  have G1 : Blk w1 w.heap.size PT #[.int .i64 0, .int .i64 0, .int .i64 0, .int .i64 0, .bool false, .bool false, .int .i64 0, .string ⟨#[]⟩, .string ⟨#[]⟩, .string ⟨#[]⟩, .slice none 0 0] := by rw [hw1]; exact (setRow_other _ _ _ _ ne).trans G0
  have B1 : Below w.heap.size w w1 := by rw [hw1]; exact Com.setRow_bel B0 (by omega) _
  rw [← hw1] at R1
  have R2 := Lib.hid (Store.run_store_one (ty := 4) (p := 5) S1 (by simp) (by kernel_rfl) (u := .bool false) rfl #[.int .i64 y.tos, .int .i64 y.id, .int .i64 y.ttl, .int .i64 y.proto, .bool y.df, .bool false, .int .i64 y.off, .string y.src, .string y.dst, .string y.opt, d0] rfl rfl)
  obtain ⟨w2, hw2⟩ : ∃ w2, w2 = w1.setRow (w.heap.size + 1) #[.int .i64 y.tos, .int .i64 y.id, .int .i64 y.ttl, .int .i64 y.proto, .bool y.df, .bool false, .int .i64 y.off, .string y.src, .string y.dst, .string y.opt, d0] := ⟨_, rfl⟩
  have S2 : Blk w2 (w.heap.size + 1) PT #[.int .i64 y.tos, .int .i64 y.id, .int .i64 y.ttl, .int .i64 y.proto, .bool y.df, .bool false, .int .i64 y.off, .string y.src, .string y.dst, .string y.opt, d0] := by rw [hw2]; exact setRow_heap _ _ _ _ _ _ S1
  have G2 : Blk w2 w.heap.size PT #[.int .i64 0, .int .i64 0, .int .i64 0, .int .i64 0, .bool false, .bool false, .int .i64 0, .string ⟨#[]⟩, .string ⟨#[]⟩, .string ⟨#[]⟩, .slice none 0 0] := by rw [hw2]; exact (setRow_other _ _ _ _ ne).trans G1
  have B2 : Below w.heap.size w w2 := by rw [hw2]; exact Com.setRow_bel B1 (by omega) _
  rw [← hw2] at R2
  have R3 := Lib.hid (Store.run_store_one (ty := 30) (p := 10) S2 (by simp) (by kernel_rfl) (u := .slice none 0 0) rfl #[.int .i64 y.tos, .int .i64 y.id, .int .i64 y.ttl, .int .i64 y.proto, .bool y.df, .bool false, .int .i64 y.off, .string y.src, .string y.dst, .string y.opt, .slice none 0 0] rfl rfl)
  obtain ⟨w3, hw3⟩ : ∃ w3, w3 = w2.setRow (w.heap.size + 1) #[.int .i64 y.tos, .int .i64 y.id, .int .i64 y.ttl, .int .i64 y.proto, .bool y.df, .bool false, .int .i64 y.off, .string y.src, .string y.dst, .string y.opt, .slice none 0 0] := ⟨_, rfl⟩
  have S3 := Lib.hid (show Blk w3 (w.heap.size + 1) PT #[.int .i64 y.tos, .int .i64 y.id, .int .i64 y.ttl, .int .i64 y.proto, .bool y.df, .bool false, .int .i64 y.off, .string y.src, .string y.dst, .string y.opt, .slice none 0 0] from by rw [hw3]; exact setRow_heap _ _ _ _ _ _ S2)
  have G3 := Lib.hid (show Blk w3 w.heap.size PT #[.int .i64 0, .int .i64 0, .int .i64 0, .int .i64 0, .bool false, .bool false, .int .i64 0, .string ⟨#[]⟩, .string ⟨#[]⟩, .string ⟨#[]⟩, .slice none 0 0] from by rw [hw3]; exact (setRow_other _ _ _ _ ne).trans G2)
  have B3 := Lib.hid (show Below w.heap.size w w3 from by rw [hw3]; exact Com.setRow_bel B2 (by omega) _)
  rw [← hw3] at R3
  have E0 : (w.alloc (.cells #[.int .i64 0, .int .i64 0, .int .i64 0, .int .i64 0, .bool false, .bool false, .int .i64 0, .string ⟨#[]⟩, .string ⟨#[]⟩, .string ⟨#[]⟩, .slice none 0 0] PT)).cell? ⟨b, 1, none⟩ = some (.slice (some ⟨gb, 0, none⟩) N pc) := keep_cell (hb.cell 1) ((Below.refl _ _).alloc (Nat.le_refl _) _)
  have E3 : w3.cell? ⟨b, 1, none⟩ = some (.slice (some ⟨gb, 0, none⟩) N pc) := keep_cell (hb.cell 1) B3.out
  have f0 : decide (0 < N) = true := decide_eq_true h0
  have H3 := Lib.hid (h.below B3.out)
  have H0r := Lib.hid h
  have HN := Lib.hid hn
  clear hb h hz hN hcl at_ ht hz0 hbl hat0 hd0 pk one0 B0 S0 G0 hw1 S1 G1 B1 hw2 S2 G2 B2 hw3 K1 H1
  go_enter Tryd.func51, Tryd.ntmps51
  go_wp2_with (first | (refine Store.at_load 32 (.tmp 10) ?_ ?_; exact rfl; refine Part.wpList_load_part rfl 32 (.tmp 10) rfl gb (0) [.int .i64 y.tos, .int .i64 y.id, .int .i64 y.ttl, .int .i64 y.proto, .bool y.df, .bool y.mf, .int .i64 y.off, .string y.src, .string y.dst, .string y.opt, d0] rfl (RP0.out) ?_) | (refine Store.at_store PT (.tmp 3) (.tmp 11) ?_ ?_; exact rfl; refine JcP.wpList_store_run rfl PT (.tmp 3) (.tmp 11) rfl ⟨w.heap.size + 1, 0, none⟩ (.agg #[.int .i64 y.tos, .int .i64 y.id, .int .i64 y.ttl, .int .i64 y.proto, .bool y.df, .bool y.mf, .int .i64 y.off, .string y.src, .string y.dst, .string y.opt, d0]) rfl rfl R1.out ?_) | (refine Store.at_store 4 (.tmp 12) (.const (.bool false)) ?_ ?_; exact rfl; refine JcP.wpList_store_run rfl 4 (.tmp 12) (.const (.bool false)) rfl ⟨w.heap.size + 1, 5, none⟩ (.bool false) rfl rfl R2.out ?_) | (refine Store.at_store 30 (.tmp 13) (.const (.slice none 0 0)) ?_ ?_; exact rfl; refine JcP.wpList_store_run rfl 30 (.tmp 13) (.const (.slice none 0 0)) rfl ⟨w.heap.size + 1, 10, none⟩ (.slice none 0 0) rfl rfl R3.out ?_))
  clear E0 E3 f0 R1 R2 R3 RP0
  go_loopw [19] (fun iv wr => ∃ i : Nat, iv = .int .i64 (i : Int) ∧ i ≤ N ∧ Hid (∃ AV cV, Blk wr (w.heap.size + 1) PT #[.int .i64 y.tos, .int .i64 y.id, .int .i64 y.ttl, .int .i64 y.proto, .bool y.df, .bool false, .int .i64 y.off, .string y.src, .string y.dst, .string y.opt, .slice AV (dataC (cl.take i)).length cV] ∧ Owns wr w.heap.size (.slice AV (dataC (cl.take i)).length cV) (dataC (cl.take i)).length (dataC (cl.take i))) ∧ Hid (Blk wr w.heap.size PT #[.int .i64 0, .int .i64 0, .int .i64 0, .int .i64 0, .bool false, .bool false, .int .i64 0, .string ⟨#[]⟩, .string ⟨#[]⟩, .string ⟨#[]⟩, .slice none 0 0]) ∧ Hid (PR wr (some ⟨gb, 0, none⟩) pc zs) ∧ Hid (Below w.heap.size w wr)) (fun iv _ => N - (intOf iv).toNat)
  case atStart => exact ⟨0, rfl, by omega, Lib.hid ⟨none, 0, S3.out, Owns.nil _ _⟩, G3, H3, B3⟩
  case round =>
    obtain ⟨i, rfl, hi, HV, HG, HR, HB⟩ := hrel
    obtain ⟨AV, cV, hv1, hv2⟩ := HV.out
    by_cases lt : i < N
    · obtain ⟨z, hz⟩ : ∃ z, zs[i]? = some z := ⟨_, List.getElem?_eq_getElem (by rw [NN.out]; exact lt)⟩
      have fz := HZ.out z (List.mem_of_getElem? hz)
      obtain ⟨gb2, A', c', e2, hbl, hat, hd, hdh⟩ := HR.out.at_ hz
      cases e2
      have CZ := AT.out i z hz
      obtain ⟨⟨q, lq⟩, dq⟩ := z
      dsimp only at hd fz CZ hdh
      subst hd
      have DT := Lib.hid (dat_take cl i _ CZ)
      have DL := Lib.hid (dat_le cl i)
      obtain ⟨acc, hacc⟩ : ∃ acc, dataC (cl.take i) = acc := ⟨_, rfl⟩
      rw [hacc] at hv1 hv2 DT DL
      obtain ⟨m, hm⟩ : ∃ m, acc.length = m := ⟨_, rfl⟩
      have HM := Lib.hid hm
      rw [hm] at hv1 hv2 DL
      have RP := Lib.hid (Part.run_part wr gb (i * 11) PT [.int .i64 q.tos, .int .i64 q.id, .int .i64 q.ttl, .int .i64 q.proto, .bool q.df, .bool q.mf, .int .i64 q.off, .string q.src, .string q.dst, .string q.opt, .slice A' lq.length c'] _ Tryd.underlying32 rfl (by kernel_rfl) hat)
      have S0 := Blk.new wr PT #[.int .i64 0, .int .i64 0, .int .i64 0, .int .i64 0, .bool false, .bool false, .int .i64 0, .string ⟨#[]⟩, .string ⟨#[]⟩, .string ⟨#[]⟩, .slice none 0 0]
      have one1 : (#[.int .i64 q.tos, .int .i64 q.id, .int .i64 q.ttl, .int .i64 q.proto, .bool q.df, .bool q.mf, .int .i64 q.off, .string q.src, .string q.dst, .string q.opt, .slice A' lq.length c'] : Array Value).all (·.oneCell') = true := by simp [Value.oneCell']
      have RS := Lib.hid (run_storeVar_row (P := Tryd.prog) (wr.alloc (.cells #[.int .i64 0, .int .i64 0, .int .i64 0, .int .i64 0, .bool false, .bool false, .int .i64 0, .string ⟨#[]⟩, .string ⟨#[]⟩, .string ⟨#[]⟩, .slice none 0 0] PT)) wr.heap.size PT PT #[.int .i64 0, .int .i64 0, .int .i64 0, .int .i64 0, .bool false, .bool false, .int .i64 0, .string ⟨#[]⟩, .string ⟨#[]⟩, .string ⟨#[]⟩, .slice none 0 0] #[.int .i64 q.tos, .int .i64 q.id, .int .i64 q.ttl, .int .i64 q.proto, .bool q.df, .bool q.mf, .int .i64 q.off, .string q.src, .string q.dst, .string q.opt, .slice A' lq.length c'] S0 (by kernel_rfl) rfl one1)
      obtain ⟨w4, hw4⟩ : ∃ w4, w4 = (wr.alloc (.cells #[.int .i64 0, .int .i64 0, .int .i64 0, .int .i64 0, .bool false, .bool false, .int .i64 0, .string ⟨#[]⟩, .string ⟨#[]⟩, .string ⟨#[]⟩, .slice none 0 0] PT)).setRow wr.heap.size #[.int .i64 q.tos, .int .i64 q.id, .int .i64 q.ttl, .int .i64 q.proto, .bool q.df, .bool q.mf, .int .i64 q.off, .string q.src, .string q.dst, .string q.opt, .slice A' lq.length c'] := ⟨_, rfl⟩
      rw [← hw4] at RS
      have ba : Below wr.heap.size wr w4 := by rw [hw4]; exact Com.setRow_bel ((Below.refl _ _).alloc (Nat.le_refl _) _) (Nat.le_refl _) _
      have K4 : Blk w4 wr.heap.size PT #[.int .i64 q.tos, .int .i64 q.id, .int .i64 q.ttl, .int .i64 q.proto, .bool q.df, .bool q.mf, .int .i64 q.off, .string q.src, .string q.dst, .string q.opt, .slice A' lq.length c'] := by rw [hw4]; exact setRow_heap _ _ _ _ _ _ S0
      have V4 : Blk w4 (w.heap.size + 1) PT #[.int .i64 y.tos, .int .i64 y.id, .int .i64 y.ttl, .int .i64 y.proto, .bool y.df, .bool false, .int .i64 y.off, .string y.src, .string y.dst, .string y.opt, .slice AV m cV] := hv1.below ba hv1.lt
      have G4 : Blk w4 w.heap.size PT #[.int .i64 0, .int .i64 0, .int .i64 0, .int .i64 0, .bool false, .bool false, .int .i64 0, .string ⟨#[]⟩, .string ⟨#[]⟩, .string ⟨#[]⟩, .slice none 0 0] := HG.out.below ba HG.out.lt
      have O4 : Owns w4 w.heap.size (.slice AV m cV) m acc := hv2.below ba (Nat.le_refl _)
      have h4 : Holds w4 w4.heap.size A' lq.length c' lq := (hdh.below ba).more ba.size
      have b4 : Below w.heap.size w w4 := HB.out.trans (ba.mono HB.out.size)
      have len := fz.len
      dsimp only at len
      obtain ⟨v5, w5, r5, o5, g5, -⟩ := run_append_bytes w4 30 w.heap.size (.slice AV m cV) m acc O4 w4.heap.size A' lq.length c' lq h4 (by have := DL.out; have := HT.out; omega) b4.size
      have nk : ∀ k X, Blk w4 k PT X → some k ≠ (Value.slice AV m cV).ownBlock := fun k X hX z => (Com.own_other O4 hX (by decide)) z.symm
      have V5 : Blk w5 (w.heap.size + 1) PT #[.int .i64 y.tos, .int .i64 y.id, .int .i64 y.ttl, .int .i64 y.proto, .bool y.df, .bool false, .int .i64 y.off, .string y.src, .string y.dst, .string y.opt, .slice AV m cV] := V4.grown g5 (nk _ _ V4)
      have G5 : Blk w5 w.heap.size PT #[.int .i64 0, .int .i64 0, .int .i64 0, .int .i64 0, .bool false, .bool false, .int .i64 0, .string ⟨#[]⟩, .string ⟨#[]⟩, .string ⟨#[]⟩, .slice none 0 0] := G4.grown g5 (nk _ _ G4)
      have b5 : Below w.heap.size w w5 := b4.grown g5 b4.size fun k hk => (O4.lt k hk).1
      obtain ⟨A5, c5, rfl, -⟩ := o5.slice
      have R5 := Lib.hid r5
      have R6 := Lib.hid (Store.run_store_one (ty := 30) (p := 10) V5 (by simp) (by kernel_rfl) (u := .slice A5 (m + lq.length) c5) rfl #[.int .i64 y.tos, .int .i64 y.id, .int .i64 y.ttl, .int .i64 y.proto, .bool y.df, .bool false, .int .i64 y.off, .string y.src, .string y.dst, .string y.opt, .slice A5 (m + lq.length) c5] rfl rfl)
      obtain ⟨w6, hw6⟩ : ∃ w6, w6 = w5.setRow (w.heap.size + 1) #[.int .i64 y.tos, .int .i64 y.id, .int .i64 y.ttl, .int .i64 y.proto, .bool y.df, .bool false, .int .i64 y.off, .string y.src, .string y.dst, .string y.opt, .slice A5 (m + lq.length) c5] := ⟨_, rfl⟩
      rw [← hw6] at R6
      have V6 : Blk w6 (w.heap.size + 1) PT #[.int .i64 y.tos, .int .i64 y.id, .int .i64 y.ttl, .int .i64 y.proto, .bool y.df, .bool false, .int .i64 y.off, .string y.src, .string y.dst, .string y.opt, .slice A5 (m + lq.length) c5] := by rw [hw6]; exact setRow_heap _ _ _ _ _ _ V5
      have G6 := Lib.hid (show Blk w6 w.heap.size PT #[.int .i64 0, .int .i64 0, .int .i64 0, .int .i64 0, .bool false, .bool false, .int .i64 0, .string ⟨#[]⟩, .string ⟨#[]⟩, .string ⟨#[]⟩, .slice none 0 0] from by rw [hw6]; exact (setRow_other _ _ _ _ (by omega)).trans G5)
      have O6 : Owns w6 w.heap.size (.slice A5 (m + lq.length) c5) (m + lq.length) (acc ++ lq) := by rw [hw6]; exact owns_set o5 V5
      have B6 := Lib.hid (show Below w.heap.size w w6 from by rw [hw6]; exact Com.setRow_bel b5 (by omega) _)
      have R7 := Lib.hid (H0r.out.below B6.out)
      have e10 : w4.cell? ⟨w.heap.size + 1, 10, none⟩ = some (.slice AV m cV) := V4.cell 10
      have e11 : w4.cell? ⟨wr.heap.size, 10, none⟩ = some (.slice A' lq.length c') := K4.cell 10
      have NX : Hid (∃ AV cV, Blk w6 (w.heap.size + 1) PT #[.int .i64 y.tos, .int .i64 y.id, .int .i64 y.ttl, .int .i64 y.proto, .bool y.df, .bool false, .int .i64 y.off, .string y.src, .string y.dst, .string y.opt, .slice AV (dataC (cl.take (i + 1))).length cV] ∧ Owns w6 w.heap.size (.slice AV (dataC (cl.take (i + 1))).length cV) (dataC (cl.take (i + 1))).length (dataC (cl.take (i + 1)))) := Lib.hid (by
        have e : (dataC (cl.take (i + 1))).length = m + lq.length := by rw [DT.out, List.length_append, HM.out]
        rw [e, DT.out]
        exact ⟨A5, c5, V6, O6⟩)
      have f1 : decide (i < N) = true := decide_eq_true lt
      have f2 : IntKind.i64.wrap ((i : Int) + 1) = ((i + 1 : Nat) : Int) := by rw [IntWalk.i64_in _ (by have := HN.out; omega)]; omega
      clear hz fz hat hbl hdh hacc hm one1 S0 hw4 ba K4 V4 G4 O4 h4 b4 len r5 o5 g5 nk V5 G5 b5 hw6 V6 O6 hv1 hv2 HV CZ
      go_wp2_with (first | (refine Store.at_load 32 (.tmp 21) ?_ ?_; exact rfl; refine Part.wpList_load_part rfl 32 (.tmp 21) rfl gb (i * 11) [.int .i64 q.tos, .int .i64 q.id, .int .i64 q.ttl, .int .i64 q.proto, .bool q.df, .bool q.mf, .int .i64 q.off, .string q.src, .string q.dst, .string q.opt, .slice A' lq.length c'] rfl (RP.out) ?_) | (refine Store.at_store PT (.tmp 5) (.tmp 22) ?_ ?_; exact rfl; refine JcP.wpList_store_run rfl PT (.tmp 5) (.tmp 22) rfl ⟨wr.heap.size, 0, none⟩ (.agg #[.int .i64 q.tos, .int .i64 q.id, .int .i64 q.ttl, .int .i64 q.proto, .bool q.df, .bool q.mf, .int .i64 q.off, .string q.src, .string q.dst, .string q.opt, .slice A' lq.length c']) rfl rfl RS.out ?_) | (at_builtin; refine Lib.wpList_append_run w4 rfl (.tmp 24) (.tmp 26) 30 30 rfl (.slice AV m cV) (.slice A' lq.length c') rfl rfl (.slice A5 (m + lq.length) c5) w5 R5.out ?_) | (refine Store.at_store 30 (.tmp 28) (.tmp 27) ?_ ?_; exact rfl; refine JcP.wpList_store_run rfl 30 (.tmp 28) (.tmp 27) rfl ⟨w.heap.size + 1, 10, none⟩ (.slice A5 (m + lq.length) c5) rfl rfl R6.out ?_))
      go_roundw
      case rel => exact ⟨i + 1, by go_num, by omega, NX, G6, R7, B6⟩
      case measure => simp [intOf]; omega
    · obtain rfl : i = N := by omega
      have tk : cl.take i = cl := List.take_of_length_le (by rw [CN.out]; exact Nat.le_refl _)
      rw [tk] at hv1 hv2
      have V1 := Lib.hid hv1
      have V2 := Lib.hid hv2
      have f1 : decide (i < i) = false := decide_eq_false (by omega)
      obtain ⟨m, hm⟩ : ∃ m, (dataC cl).length = m := ⟨_, rfl⟩
      rw [hm] at V1 V2
      have one : Hid ((#[.int .i64 y.tos, .int .i64 y.id, .int .i64 y.ttl, .int .i64 y.proto, .bool y.df, .bool false, .int .i64 y.off, .string y.src, .string y.dst, .string y.opt, .slice AV m cV] : Array Value).all (·.oneCell') = true) := Lib.hid (by simp [Value.oneCell'])
      have O5 := Lib.hid (owns_set (C := #[.int .i64 y.tos, .int .i64 y.id, .int .i64 y.ttl, .int .i64 y.proto, .bool y.df, .bool false, .int .i64 y.off, .string y.src, .string y.dst, .string y.opt, .slice AV m cV]) V2.out HG.out)
      have B5 := Lib.hid (Com.setRow_bel HB.out (Nat.le_refl _) #[.int .i64 y.tos, .int .i64 y.id, .int .i64 y.ttl, .int .i64 y.proto, .bool y.df, .bool false, .int .i64 y.off, .string y.src, .string y.dst, .string y.opt, .slice AV m cV])
      have HM := Lib.hid hm
      clear hv1 hv2 HV hm tk
      go_wp2_with (first | (refine Store.at_load 32 (.tmp 3) ?_ ?_; exact rfl; refine Loads.wpList_load_w rfl 32 (.tmp 3) rfl (w.heap.size + 1) rfl 32 #[.int .i64 y.tos, .int .i64 y.id, .int .i64 y.ttl, .int .i64 y.proto, .bool y.df, .bool false, .int .i64 y.off, .string y.src, .string y.dst, .string y.opt, .slice AV m cV] (0, 0) _ (V1.out) Tryd.underlying32 rfl (by kernel_rfl) ?_) | (refine Store.at_store 32 (.tmp 2) (.tmp 30) ?_ ?_; exact rfl; refine wpList_store_row rfl 32 (.tmp 2) (.tmp 30) rfl (w.heap.size) #[.int .i64 y.tos, .int .i64 y.id, .int .i64 y.ttl, .int .i64 y.proto, .bool y.df, .bool false, .int .i64 y.off, .string y.src, .string y.dst, .string y.opt, .slice AV m cV] rfl rfl 32 _ (HG.out) (by kernel_rfl) rfl (one.out) ?_))
      exact bodyPost_ret (results_cell_row rfl _ _ w.heap.size PT #[.int .i64 y.tos, .int .i64 y.id, .int .i64 y.ttl, .int .i64 y.proto, .bool y.df, .bool false, .int .i64 y.off, .string y.src, .string y.dst, .string y.opt, .slice AV m cV] (0, 0) _ rfl (setRow_heap _ _ _ _ _ _ HG.out) Tryd.underlying32 rfl (by kernel_rfl)) rfl ⟨⟨AV, cV, by rw [HM.out]; rfl, by rw [HM.out]; exact O5.out⟩, B5.out⟩
end Go.Proofs.YtnpggkpcadefjaaDoor.Jc7

