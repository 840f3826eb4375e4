/- A head's numbers are laid down: the closure. -/
import Derived.Test.YtibfdacgdffpiaaDoorBlk
import Derived.Test.YtibfdacgdffpiaaDoorPkt
import Derived.Test.YtibfdacgdffpiaaDoorBits
import Derived.Deep.RegionLaw
namespace Go.Proofs.YtibfdacgdffpiaaDoor.Lay
open Go.RowKit Go.Proofs.YtibfdacgdffpiaaDoor.Sums Go.Proofs.YtibfdacgdffpiaaDoor.Mem Go.Proofs.YtibfdacgdffpiaaDoor.Blk Go.Proofs.YtibfdacgdffpiaaDoor.Bits

theorem at_append {ops : Array Oper} {o : Oper} {a : Act} {w : World} {K : Act → World → Prop} {Q : Exit → Act → World → Prop} {E : Prop} (s x : Operand)
    (_ho : o.op = .call { callee := .builtin .append, args := #[s, x], argTypes := #[22, 22] }) (h : if Region.wanted o (yielded ops a.tmps) = true then Oper.wp Tryd.prog o a w K Q else E) :
    if Region.wanted o (yielded ops a.tmps) = true then Oper.wp Tryd.prog o a w K Q else E := h

theorem lit_one (x : Int) (x0 : 0 ≤ x) (x1 : x ≤ 255) (W : World) : Holds (W.alloc (.cells #[.int .u8 x] 5)) (W.heap.size + 1) (some ⟨W.heap.size, 0, none⟩) 1 1 [x] :=
  Holds.lit W [x] _ rfl (by simp [maxLen]) (fun z hz => by simp at hz; omega)

theorem own_ne {w : World} {base n q : Nat} {v : Value} {l : List Int} {cs : Array Value} (h : Owns w base v n l) (hq : Blk w q 22 cs) : v.ownBlock ≠ some q := by
  rcases h.2.2 with ⟨rfl, _⟩ | ⟨g, cap, cur, fz, rfl, _, hg, _⟩
  · simp [Value.ownBlock]
  · intro e
    have : g = q := by simpa [Value.ownBlock] using e
    subst this
    unfold Blk at hq
    rw [hg] at hq
    injection hq with e
    injection e with _ e _
    revert e
    decide
theorem own_far {w : World} {base n q : Nat} {v : Value} {l : List Int} {cs : Array Value} (h : Owns w base v n l) (hq : Blk w q 22 cs) (o : Nat) (u : Value) : Owns (w.setCell ⟨q, o, none⟩ u) base v n l :=
  h.kept (row := some q) ⟨rfl, rfl, rfl, by simp, fun k _ hk => Below.heap_setCell w ⟨q, o, none⟩ u k (fun e => hk (by rw [e]))⟩ (.inr (own_ne h hq))

/-- What the append and the store leave. -/
theorem laid {w W w2 : World} {base q n : Nat} {v v2 u : Value} {l m : List Int} (hW : Below base w W) (hsz : w.heap.size ≤ W.heap.size) (ho : Owns W base v n l) (hq : Blk W q 22 #[u]) (hg : W.grownBy w2 v.ownBlock) (o2 : Owns w2 base v2 (n + 1) m) (hb : base ≤ q) (hbw : base ≤ w.heap.size) :
    Blk (w2.setCell ⟨q, 0, none⟩ v2) q 22 #[v2] ∧ Owns (w2.setCell ⟨q, 0, none⟩ v2) base v2 (n + 1) m ∧ Below base w (w2.setCell ⟨q, 0, none⟩ v2) := by
  have q2 : Blk w2 q 22 #[u] := hq.grown hg (fun e => own_ne ho hq e.symm)
  exact ⟨by simpa using q2.put 0 v2, own_far o2 q2 0 v2, (hW.grown hg (by omega) fun k hk => (ho.lt k hk).1).setCell hb _⟩

theorem lay_one (g q o base n : Nat) (v : Value) (l : List Int) (z : Int) (w : World) (t : TypeId) (cs : Array Value) (hg : Blk w g t cs) (hz : cs[o]? = some (.int .i64 z)) (hq : Blk w q 22 #[v]) (ho : Owns w base v n l) (hn : n + 1 ≤ 1000) (z0 : 0 ≤ z) (z1 : z ≤ 255) (hb : base ≤ q) :
    Calls Tryd.prog 34 #[.pointer (some ⟨g, o, none⟩), .int .i64 1, .pointer (some ⟨q, 0, none⟩)] w fun e w' => e = .returned (.tuple #[]) ∧
      ∃ v', Blk w' q 22 #[v'] ∧ Owns w' base v' (n + 1) (l ++ [z]) ∧ Below base w w' := by
  have hc : w.cell? ⟨g, o, none⟩ = some (.int .i64 z) := (hg.cell o).trans hz
  have hqc : w.cell? ⟨q, 0, none⟩ = some v := (hq.cell 0).trans rfl
  have hqs := hq.lt
  have hs : n + 1 ≤ 1048576 := by omega
  have e1 : IntKind.u8.wrap z = z := by rw [IntKind.wrap_u8]; omega
  have HO := Lib.hid ho
  have HQ := Lib.hid hq
  have HL := Lib.hid (lit_one z z0 z1)
  have B0 := Lib.hid (show Below base w (w.alloc (.cells #[.int .u8 z] 5)) from (Below.refl _ _).alloc (by omega) _)
  clear ho hq hg hz
  go_enter Tryd.func34, Tryd.ntmps34
  go_wp2_with fail
  go_region_law (first
    | ((refine at_append (.tmp 15) (.tmp 20) ?_ ?_; rfl)
       refine step_append_bytes rfl (.tmp 15) (.tmp 20) rfl base v n l rfl (HO.out.alloc _) (w.heap.size + 1) (some ⟨w.heap.size, 0, none⟩) 1 1 [z] rfl (HL.out w) hs (by simp; omega) ?_
       intro v2 w2 o2 hg2 hat2
       have G2 : Hid ((w.alloc (.cells #[.int .u8 z] 5)).grownBy w2 v.ownBlock) := Lib.hid ⟨hg2.os, hg2.tape, hg2.output, hg2.size, hg2.block⟩
       have q2 := (HQ.out.alloc (.cells #[.int .u8 z] 5)).grown G2.out (fun e => own_ne (HO.out.alloc (.cells #[.int .u8 z] 5)) (HQ.out.alloc _) e.symm)
       obtain ⟨A2, c2, rfl, _⟩ := o2.slice
       have qc2 : w2.cell? ⟨q, 0, none⟩ = some v := (q2.cell 0).trans rfl
       have qf2 := q2.frozen 0))
  all_goals
    go_wp2_with fail
    go_end0
    exact ⟨rfl, _, laid B0.out (by simp) (HO.out.alloc _) (HQ.out.alloc _) G2.out o2 hb (by omega)⟩

theorem lay_two (g q o base n : Nat) (v : Value) (l : List Int) (z : Int) (w : World) (t : TypeId) (cs : Array Value) (hg : Blk w g t cs) (hz : cs[o]? = some (.int .i64 z)) (hq : Blk w q 22 #[v]) (ho : Owns w base v n l) (hn : n + 2 ≤ 1000) (z0 : 0 ≤ z) (z1 : z ≤ 65535) (hb : base ≤ q) (hgb : g < base) :
    Calls Tryd.prog 34 #[.pointer (some ⟨g, o, none⟩), .int .i64 2, .pointer (some ⟨q, 0, none⟩)] w fun e w' => e = .returned (.tuple #[]) ∧
      ∃ v', Blk w' q 22 #[v'] ∧ Owns w' base v' (n + 2) (l ++ [z / 256, z % 256]) ∧ Below base w w' := by
  have hc : w.cell? ⟨g, o, none⟩ = some (.int .i64 z) := (hg.cell o).trans hz
  have hqc : w.cell? ⟨q, 0, none⟩ = some v := (hq.cell 0).trans rfl
  have hqs := hq.lt
  have hs : n + 1 ≤ 1048576 := by omega
  have hs2 : n + 1 + 1 ≤ 1048576 := by omega
  have e1 : IntKind.u8.wrap (z / 256) = z / 256 := by rw [IntKind.wrap_u8]; omega
  have e2 : IntKind.u8.wrap z = z % 256 := by rw [IntKind.wrap_u8]
  have HO := Lib.hid ho
  have HQ := Lib.hid hq
  have HL := Lib.hid (lit_one (z / 256) (by omega) (by omega))
  have HM := Lib.hid (lit_one (z % 256) (by omega) (by omega))
  have B0 := Lib.hid (show Below base w (w.alloc (.cells #[.int .u8 (z / 256)] 5)) from (Below.refl _ _).alloc (by omega) _)
  clear ho hq hg hz
  go_enter Tryd.func34, Tryd.ntmps34
  go_wp2_with fail
  go_region_law (first
    | ((refine at_append (.tmp 7) (.tmp 13) ?_ ?_; rfl)
       refine step_append_bytes rfl (.tmp 7) (.tmp 13) rfl base v n l rfl (HO.out.alloc _) (w.heap.size + 1) (some ⟨w.heap.size, 0, none⟩) 1 1 [z / 256] rfl (HL.out w) hs (by simp; omega) ?_
       intro v2 w2 o2 hg2 hat2
       have G2 : Hid ((w.alloc (.cells #[.int .u8 (z / 256)] 5)).grownBy w2 v.ownBlock) := Lib.hid ⟨hg2.os, hg2.tape, hg2.output, hg2.size, hg2.block⟩
       have q2 := (HQ.out.alloc (.cells #[.int .u8 (z / 256)] 5)).grown G2.out (fun e => own_ne (HO.out.alloc (.cells #[.int .u8 (z / 256)] 5)) (HQ.out.alloc _) e.symm)
       obtain ⟨A2, c2, rfl, _⟩ := o2.slice
       have qc2 : w2.cell? ⟨q, 0, none⟩ = some v := (q2.cell 0).trans rfl
       have qf2 := q2.frozen 0))
  all_goals
    have L := laid B0.out (by simp) (HO.out.alloc _) (HQ.out.alloc _) G2.out o2 hb (by omega)
    have X : Hid (∀ W, W = w2.setCell ⟨q, 0, none⟩ (.slice A2 (n + 1) c2) → Blk W q 22 #[.slice A2 (n + 1) c2] ∧ Owns W base (.slice A2 (n + 1) c2) (n + 1) (l ++ [z / 256]) ∧ Below base w W) := Lib.hid (fun W e => by subst e; exact L)
    clear L qc2 qf2 q2 o2 hg2 hat2 G2
    generalize w2.setCell ⟨q, 0, none⟩ (.slice A2 (n + 1) c2) = W at *
    obtain ⟨q3, o3, b3⟩ := X.out W rfl
    have hc3 : W.cell? ⟨g, o, none⟩ = some (.int .i64 z) := (b3.cell (p := ⟨g, o, none⟩) hgb).trans hc
    have hqc3 : W.cell? ⟨q, 0, none⟩ = some (.slice A2 (n + 1) c2) := (q3.cell 0).trans rfl
    have hqs3 := q3.lt
    have HO3 := Lib.hid o3
    have HQ3 := Lib.hid q3
    have b3s := b3.size
    have B3 := Lib.hid (b3.alloc (by omega) (.cells #[.int .u8 (z % 256)] 5))
    have B4 := Lib.hid b3
    clear o3 q3 b3 X
    go_wp2_with fail
    go_region_law (first
      | ((refine at_append (.tmp 15) (.tmp 20) ?_ ?_; rfl)
         refine step_append_bytes rfl (.tmp 15) (.tmp 20) rfl base (.slice A2 (n + 1) c2) (n + 1) (l ++ [z / 256]) rfl (HO3.out.alloc _) (W.heap.size + 1) (some ⟨W.heap.size, 0, none⟩) 1 1 [z % 256] rfl (HM.out W) hs2 (by simp; omega) ?_
         intro v4 w4 o4 hg4 hat4
         have G4 : Hid ((W.alloc (.cells #[.int .u8 (z % 256)] 5)).grownBy w4 (Value.ownBlock (.slice A2 (n + 1) c2))) := Lib.hid ⟨hg4.os, hg4.tape, hg4.output, hg4.size, hg4.block⟩
         have q4 := (HQ3.out.alloc (.cells #[.int .u8 (z % 256)] 5)).grown G4.out (fun e => own_ne (HO3.out.alloc (.cells #[.int .u8 (z % 256)] 5)) (HQ3.out.alloc _) e.symm)
         obtain ⟨A4, c4, rfl, _⟩ := o4.slice
         have qc4 : w4.cell? ⟨q, 0, none⟩ = some (.slice A2 (n + 1) c2) := (q4.cell 0).trans rfl
         have qf4 := q4.frozen 0))
    all_goals
      go_wp2_with fail
      go_end0
      have X := laid (w := w) B3.out (by simp; omega) (HO3.out.alloc _) (HQ3.out.alloc _) G4.out o4 hb (by omega)
      exact ⟨rfl, _, X.1, by simpa using X.2.1, X.2.2⟩

end Go.Proofs.YtibfdacgdffpiaaDoor.Lay
