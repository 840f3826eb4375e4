/- A joiner's contract, as the laws use it. -/
import Derived.Test.YtnpggkpcadefjaaDoorObj
import Derived.Test.YtnpggkpcadefjaaDoorJoiM
import Derived.Test.YtnpggkpcadefjaaDoorSplP
import Derived.Test.YtnpggkpcadefjaaDoorM23
import Derived.LoopTactic
set_option linter.unusedVariables false
namespace Go.Proofs.YtnpggkpcadefjaaDoor.JoiP
open Go.RowKit Go.Proofs.YtnpggkpcadefjaaDoor.Sums Go.Proofs.YtnpggkpcadefjaaDoor.Mem Go.Proofs.YtnpggkpcadefjaaDoor.Blk Go.Proofs.YtnpggkpcadefjaaDoor.Pkt Go.Proofs.YtnpggkpcadefjaaDoor.Check Go.Proofs.YtnpggkpcadefjaaDoor.RowN Go.Proofs.YtnpggkpcadefjaaDoor.Obj Go.Proofs.YtnpggkpcadefjaaDoor.JoiM Go.Proofs.YtnpggkpcadefjaaDoor.SplP Go.Proofs.YtnpggkpcadefjaaDoor.Errno

abbrev HB : Nat := 0
/-- What Put gives. -/
def PutR (w : World) (r : Option Frag × Int) (e : Ending) : Prop := ∃ A c, e = .returned (.tuple #[val (ansP r).1 (.slice A (ansP r).2.length c), .bool (ansB r), .int .i64 r.2]) ∧ Holds w w.heap.size A (ansP r).2.length c (ansP r).2
/-- What is wanted of the code's joiner: JA F w g st: it lies at g, in blocks that are none of F, and st waits. -/
structure JoinSpec (JA : (Nat → Prop) → World → Nat → JSt → Prop) : Prop where
  obj : ∀ g st, IsObj fun F w => JA F w g st
  good : ∀ F w g st, JA F w g st → GoodJ st
  new : ∀ w, Calls Tryd.prog 9 #[] w fun e w' => (∃ g, e = .returned (.pointer (some ⟨g, 0, none⟩)) ∧ JA (fun k => k < w.heap.size) w' g []) ∧ Below w.heap.size w w'
  put : ∀ (F : Nat → Prop) g st (now : Int) (p : Pkt) A n c l B w, Handle w → F HB → JA F w g st → (∀ k, F k → k < w.heap.size) → Holds w B A n c l → B ≤ w.heap.size → (∀ b o, 0 < n → A = some ⟨b, o, none⟩ → F b) → p.src.size ≤ 10000 → p.dst.size ≤ 10000 → p.opt.size ≤ 10000 → n ≤ 1048576 → -1099511627776 ≤ now → now ≤ 1099511627776 →
    Calls Tryd.prog 14 #[.pointer (some ⟨g, 0, none⟩), .int .i64 now, val p (.slice A n c)] w fun e w' => (PutR w' (putJ now (p, l) st).1 e ∧ JA F w' g (putJ now (p, l) st).2) ∧ Keep F w w'
  tick : ∀ (F : Nat → Prop) g st (now : Int) w, JA F w g st → (∀ k, F k → k < w.heap.size) → -1099511627776 ≤ now → now ≤ 1099511627776 →
    Calls Tryd.prog 11 #[.pointer (some ⟨g, 0, none⟩), .int .i64 now] w fun e w' => ((∃ v, e = .returned v ∧ PcsAt w' v (tickJ now st).1) ∧ JA F w' g (tickJ now st).2) ∧ Keep F w w'
  waiting : ∀ (F : Nat → Prop) g st w, JA F w g st → Calls Tryd.prog 17 #[.pointer (some ⟨g, 0, none⟩)] w fun e w' => e = .returned (.int .i64 (st.length : Int)) ∧ Below w.heap.size w w'
  put_nil : ∀ (now : Int) (p : Pkt) D w, Calls Tryd.prog 14 #[.pointer none, .int .i64 now, val p D] w fun e w' => e = .returned (.tuple #[val Pkt.zero (.slice none 0 0), .bool false, .int .i64 3]) ∧ Below w.heap.size w w'
  tick_nil : ∀ (now : Int) w, Calls Tryd.prog 11 #[.pointer none, .int .i64 now] w fun e w' => (∃ A c, e = .returned (.slice A 0 c)) ∧ Below w.heap.size w w'
  waiting_nil : ∀ w, Calls Tryd.prog 17 #[.pointer none] w fun e w' => e = .returned (.int .i64 0) ∧ Below w.heap.size w w'
section
variable {JA : (Nat → Prop) → World → Nat → JSt → Prop} {P : Nat → Prop} {w : World} {g : Nat} {st : JSt}
abbrev JX (JA : (Nat → Prop) → World → Nat → JSt → Prop) (g : Nat) (st : JSt) : (Nat → Prop) → World → Prop := fun F w => JA F w g st
theorem JoinSpec.solo_put (S : JoinSpec JA) (now : Int) (p : Pkt) {A : Option Addr} {n c B : Nat} {l : List Int} (h : Solo (JX JA g st) P w) (hg : Handle w) (h0 : P HB) (hh : Holds w B A n c l) (hB : B ≤ w.heap.size) (hA : ∀ b o, 0 < n → A = some ⟨b, o, none⟩ → P b) (h1 : p.src.size ≤ 10000) (h2 : p.dst.size ≤ 10000) (h3 : p.opt.size ≤ 10000) (h4 : n ≤ 1048576) (h5 : -1099511627776 ≤ now) (h6 : now ≤ 1099511627776) :
    Calls Tryd.prog 14 #[.pointer (some ⟨g, 0, none⟩), .int .i64 now, val p (.slice A n c)] w fun e w' => PutR w' (putJ now (p, l) st).1 e ∧ Solo (JX JA g (putJ now (p, l) st).2) P w' ∧ Keep P w w' := by
  obtain ⟨F, q1, q2, q3⟩ := h
  exact (S.put F g st now p A n c l B w hg (q3 _ h0) q1 q2 hh hB (fun b o k e => q3 _ (hA b o k e)) h1 h2 h3 h4 h5 h6).mono fun e w' ⟨⟨a, b⟩, k⟩ => ⟨a, ⟨F, b, fun k' z => Nat.lt_of_lt_of_le (q2 k' z) k.size, q3⟩, k.mono fun k' z _ => q3 k' z⟩
theorem JoinSpec.solo_tick (S : JoinSpec JA) (now : Int) (h : Solo (JX JA g st) P w) (h5 : -1099511627776 ≤ now) (h6 : now ≤ 1099511627776) :
    Calls Tryd.prog 11 #[.pointer (some ⟨g, 0, none⟩), .int .i64 now] w fun e w' => (∃ v, e = .returned v ∧ PcsAt w' v (tickJ now st).1) ∧ Solo (JX JA g (tickJ now st).2) P w' ∧ Keep P w w' :=
  Solo.call (R := fun e w' => ∃ v, e = .returned v ∧ PcsAt w' v (tickJ now st).1) h fun F hx hF => S.tick F g st now w hx hF h5 h6
theorem JoinSpec.solo_wait (S : JoinSpec JA) (h : Solo (JX JA g st) P w) : Calls Tryd.prog 17 #[.pointer (some ⟨g, 0, none⟩)] w fun e w' => e = .returned (.int .i64 (st.length : Int)) ∧ Below w.heap.size w w' := by
  obtain ⟨F, q1, _⟩ := h
  exact S.waiting F g st w q1
theorem JoinSpec.solo_new (S : JoinSpec JA) (w : World) : Calls Tryd.prog 9 #[] w fun e w' => (∃ g, e = .returned (.pointer (some ⟨g, 0, none⟩)) ∧ Solo (JX JA g []) (fun k => k < w.heap.size) w') ∧ Below w.heap.size w w' :=
  (S.new w).mono fun e w' ⟨⟨g, h1, h2⟩, h3⟩ => ⟨⟨g, h1, ⟨_, h2, fun k z => Nat.lt_of_lt_of_le z h3.size, fun k z => z⟩⟩, h3⟩
theorem JoinSpec.solo_good (S : JoinSpec JA) (h : Solo (JX JA g st) P w) : GoodJ st := by
  obtain ⟨F, q1, _⟩ := h
  exact S.good F w g st q1
end
/-! What the laws' piece makes. -/
def pcP (off : Int) (mf : Bool) : Pkt := ⟨0, 7, 0, 0, false, mf, off, ⟨#[97, 98, 99, 100]⟩, ⟨#[101, 102, 103, 104]⟩, ⟨#[]⟩⟩
theorem val_one (p : Pkt) (A : Option Addr) (n c : Nat) : ((pcCells p (.slice A n c)).toArray).all (·.oneCell') = true := by simp [pcCells, Value.oneCell']
theorem blk_pkt {W : World} {g : Nat} {p : Pkt} {D : Value} (h : Blk W g 32 (pcCells p D).toArray) : (loadVar 32 ⟨g, 0, none⟩).run Tryd.prog W = .ok (.agg (pcCells p D).toArray) W :=
  Part.run_part W g 0 32 (pcCells p D) _ Tryd.underlying32 rfl (by kernel_rfl) fun j v hj => by
    rw [Nat.zero_add, h.cell, List.getElem?_toArray]
    exact hj
theorem piece_any (off : Int) (mf : Bool) (s : ByteArray) (w : World) (hs : s.size ≤ 1048576) : Calls Tryd.prog 20 #[.int .i64 off, .bool mf, .string s] w fun e w' => (∃ A c, e = .returned (val (pcP off mf) (.slice A s.size c)) ∧ Owns w' w.heap.size (.slice A s.size c) s.size (nums s)) ∧ Below w.heap.size w w' := by
  have B0 := Lib.hid ((Below.refl w.heap.size w).alloc (Nat.le_refl _) (.cells #[.int .i64 0, .int .i64 0, .int .i64 0, .int .i64 0, .bool false, .bool false, .int .i64 0, .string ⟨#[]⟩, .string ⟨#[]⟩, .string ⟨#[]⟩, .slice none 0 0] 32))
  have J0 := Lib.hid (Blk.new w 32 #[.int .i64 0, .int .i64 0, .int .i64 0, .int .i64 0, .bool false, .bool false, .int .i64 0, .string ⟨#[]⟩, .string ⟨#[]⟩, .string ⟨#[]⟩, .slice none 0 0])
  obtain ⟨w1, v, hr, ho, hb⟩ := run_bytes_string (w.alloc (.cells #[.int .i64 0, .int .i64 0, .int .i64 0, .int .i64 0, .bool false, .bool false, .int .i64 0, .string ⟨#[]⟩, .string ⟨#[]⟩, .string ⟨#[]⟩, .slice none 0 0] 32)) s (Nat.le_trans hs (by decide))
  obtain ⟨A, c, rfl, _⟩ := ho.slice
  have O1 := Lib.hid ho
  have B1 := Lib.hid (B0.out.trans (hb.mono B0.out.size))
  have J1 := Lib.hid (J0.out.below hb J0.out.lt)
  have one := Lib.hid (val_one (pcP off mf) A s.size c)
  have BX := Lib.hid (Com.setRow_bel B1.out (Nat.le_refl _) #[.int .i64 0, .int .i64 7, .int .i64 0, .int .i64 0, .bool false, .bool mf, .int .i64 off, .string ⟨#[97, 98, 99, 100]⟩, .string ⟨#[101, 102, 103, 104]⟩, .string ⟨#[]⟩, .slice A s.size c])
  have OX := Lib.hid (show Owns (w1.setRow w.heap.size #[.int .i64 0, .int .i64 7, .int .i64 0, .int .i64 0, .bool false, .bool mf, .int .i64 off, .string ⟨#[97, 98, 99, 100]⟩, .string ⟨#[101, 102, 103, 104]⟩, .string ⟨#[]⟩, .slice A s.size c]) w.heap.size (.slice A s.size c) s.size (nums s) from by
    refine ⟨O1.out.1, O1.out.2.1, O1.out.2.2.imp id ?_⟩
    rintro ⟨g, cap, cur, fz, e, hg, hh, r⟩
    have : (w.alloc (.cells #[.int .i64 0, .int .i64 0, .int .i64 0, .int .i64 0, .bool false, .bool false, .int .i64 0, .string ⟨#[]⟩, .string ⟨#[]⟩, .string ⟨#[]⟩, .slice none 0 0] 32)).heap.size = w.heap.size + 1 := by simp
    exact ⟨g, cap, cur, fz, e, by omega, (setRow_other w1 w.heap.size g _ (by omega)).trans hh, r⟩)
  clear ho hb J0 B0 B1 O1
  go_enter Tryd.func20, Tryd.ntmps20
  go_wp2_with (refine wpList_store_row rfl 32 (.tmp 6) (.tmp 11) rfl w.heap.size #[.int .i64 0, .int .i64 7, .int .i64 0, .int .i64 0, .bool false, .bool mf, .int .i64 off, .string ⟨#[97, 98, 99, 100]⟩, .string ⟨#[101, 102, 103, 104]⟩, .string ⟨#[]⟩, .slice A s.size c] rfl rfl 32 _ J1.out (by kernel_rfl) rfl one.out ?_)
  exact bodyPost_ret (results_cell_row rfl _ _ w.heap.size 32 #[.int .i64 0, .int .i64 7, .int .i64 0, .int .i64 0, .bool false, .bool mf, .int .i64 off, .string ⟨#[97, 98, 99, 100]⟩, .string ⟨#[101, 102, 103, 104]⟩, .string ⟨#[]⟩, .slice A s.size c] (0, 0) _ rfl (setRow_heap _ _ _ _ _ _ J1.out) Tryd.underlying32 rfl (by kernel_rfl)) rfl ⟨⟨A, c, rfl, OX.out⟩, BX.out⟩
end Go.Proofs.YtnpggkpcadefjaaDoor.JoiP

/- The document's examples, given a joiner's contract. -/
set_option linter.unusedVariables false
set_option maxRecDepth 100000
namespace Go.Proofs.YtnpggkpcadefjaaDoor.JoiA
open Go.RowKit Go.Proofs.YtnpggkpcadefjaaDoor.Sums Go.Proofs.YtnpggkpcadefjaaDoor.Mem Go.Proofs.YtnpggkpcadefjaaDoor.Blk Go.Proofs.YtnpggkpcadefjaaDoor.Pkt Go.Proofs.YtnpggkpcadefjaaDoor.Check Go.Proofs.YtnpggkpcadefjaaDoor.RowN Go.Proofs.YtnpggkpcadefjaaDoor.Obj Go.Proofs.YtnpggkpcadefjaaDoor.JoiM Go.Proofs.YtnpggkpcadefjaaDoor.JoiP Go.Proofs.YtnpggkpcadefjaaDoor.SplP Go.Proofs.YtnpggkpcadefjaaDoor.Errno
variable {JA : (Nat → Prop) → World → Nat → JSt → Prop}

/-- A Put of bytes that were made just before it. -/
theorem put_new (S : JoinSpec JA) {w0 wa wb : World} {g : Nat} {st : JSt} (hg : Handle w0) (ha : Below w0.heap.size w0 wa) (h : Solo (JX JA g st) (fun k => k < w0.heap.size) wa) (hab : Below wa.heap.size wa wb) {A : Option Addr} {n c : Nat} {l : List Int} (ho : Owns wb wa.heap.size (.slice A n c) n l) (now : Int) (p : Pkt) (h1 : p.src.size ≤ 10000) (h2 : p.dst.size ≤ 10000) (h3 : p.opt.size ≤ 10000) (h4 : n ≤ 1048576) (h5 : -1099511627776 ≤ now) (h6 : now ≤ 1099511627776) :
    Calls Tryd.prog 14 #[.pointer (some ⟨g, 0, none⟩), .int .i64 now, val p (.slice A n c)] wb fun e w' => PutR w' (putJ now (p, l) st).1 e ∧ Solo (JX JA g (putJ now (p, l) st).2) (fun k => k < w0.heap.size) w' ∧ Below w0.heap.size w0 w' := by
  have hs := ha.size
  have hh := ho.holds
  have h0 : HB < w0.heap.size := World.block_lt_of_cell? w0 _ hg
  have h' : Solo (JX JA g st) (fun k => k < w0.heap.size ∨ (wa.heap.size ≤ k ∧ k < wb.heap.size)) wb := h.below (S.obj g st) hab fun k z => z
  have hb0 : Below w0.heap.size w0 wb := ha.trans (hab.mono hs)
  refine (S.solo_put now p h' (hg.keep hb0) (.inl h0) hh (Nat.le_refl _) (fun b o _ e => ?_) h1 h2 h3 h4 h5 h6).mono fun e w' ⟨q1, q2, q3⟩ => ⟨q1, ?_, hb0.trans (q3.below hb0.size fun k hk => .inl hk)⟩
  · subst e
    rcases ho.2.2 with ⟨e, _⟩ | ⟨g', cap, cur, fz, e, hg', hh', _⟩
    · cases e
    · injection e with e
      injection e with e
      injection e with e
      subst e
      exact .inr ⟨hg', (Array.getElem?_eq_some_iff.1 hh').1⟩
  · obtain ⟨F, z1, z2, z3⟩ := q2
    exact ⟨F, z1, z2, fun k z => z3 k (.inl z)⟩
def xyzS : ByteArray := ⟨#[120, 121, 122]⟩
def numS : ByteArray := ⟨#[49, 50, 51, 52, 53, 54, 55, 56]⟩
theorem ex_one : putJ 0 (pcP 8 false, nums xyzS) [] = ((none, 0), [(0, [(pcP 8 false, nums xyzS)])]) := by kernel_rfl
theorem ex_two : putJ 0 (pcP 0 true, nums numS) [(0, [(pcP 8 false, nums xyzS)])] = ((some (pcP 0 false, nums numS ++ nums xyzS), 0), []) := by kernel_rfl
theorem ex_three : putJ 0 (pcP 0 true, nums numS) [] = ((none, 0), [(0, [(pcP 0 true, nums numS)])]) := by kernel_rfl
theorem ex_tick : tickJ 60 [(0, [(pcP 0 true, nums numS)])] = ([(pcP 0 true, nums numS)], []) := by kernel_rfl
theorem ex_str : strOfNums (nums numS ++ nums xyzS) = ⟨#[49, 50, 51, 52, 53, 54, 55, 56, 120, 121, 122]⟩ := by kernel_rfl
theorem alloc_box (w : World) (cs : Array Value) (h1 : cs.all (·.oneCell') = true) (hs : cs.size = 11) : Blk ((w.alloc (.cells #[.int .i64 0, .int .i64 0, .int .i64 0, .int .i64 0, .bool false, .bool false, .int .i64 0, .string ⟨#[]⟩, .string ⟨#[]⟩, .string ⟨#[]⟩, .slice none 0 0] 32)).setRow w.heap.size cs) w.heap.size 32 cs ∧ Below w.heap.size w ((w.alloc (.cells #[.int .i64 0, .int .i64 0, .int .i64 0, .int .i64 0, .bool false, .bool false, .int .i64 0, .string ⟨#[]⟩, .string ⟨#[]⟩, .string ⟨#[]⟩, .slice none 0 0] 32)).setRow w.heap.size cs) :=
  ⟨setRow_heap _ _ _ _ _ _ (Blk.new w 32 #[.int .i64 0, .int .i64 0, .int .i64 0, .int .i64 0, .bool false, .bool false, .int .i64 0, .string ⟨#[]⟩, .string ⟨#[]⟩, .string ⟨#[]⟩, .slice none 0 0]), Com.setRow_bel ((Below.refl w.heap.size w).alloc (Nat.le_refl _) _) (Nat.le_refl _) _⟩
set_option maxHeartbeats 2000000 in
theorem awake_any (S : JoinSpec JA) (w : World) (hg : Handle w) : Calls Tryd.prog 18 #[] w fun e w' => e = .returned (.bool true) ∧ Below w.heap.size w w' := by
  have HG := Lib.hid hg
  have NC := Lib.hid (fun W => S.solo_new W)
  clear hg
  go_enter Tryd.func18, Tryd.ntmps18
  go_wp2_with fail
  refine (NC.out w).mono ?_
  rintro e w1 ⟨⟨g, rfl, hs⟩, hb⟩
  have B1 := Lib.hid hb
  have S1 := Lib.hid hs
  clear hs hb
  go_wp2_with fail
  refine (piece_any 8 false xyzS w1 (by decide)).mono ?_
  rintro e w2 ⟨⟨A1, c1, rfl, ho⟩, hb⟩
  obtain ⟨t1, ht1⟩ : ∃ t, [((0 : Int), [(pcP 8 false, nums xyzS)])] = t := ⟨_, rfl⟩
  have PC := Lib.hid (put_new S HG.out B1.out S1.out hb ho 0 (pcP 8 false) (by decide) (by decide) (by decide) (by decide) (by decide) (by decide))
  rw [ex_one, ht1] at PC
  have T1 := Lib.hid ht1
  have SW := Lib.hid hb.size
  clear ho hb S1 ht1
  unfold val pcP at PC
  unfold val pcP
  go_wp2_with fail
  refine PC.out.mono ?_
  rintro e w3 ⟨⟨A3, c3, rfl, hh⟩, hs, hb⟩
  have S3 := Lib.hid hs
  have B3 := Lib.hid hb
  clear PC hs hb hh B1 SW
  have one4 : Hid ((#[.int .i64 0, .int .i64 0, .int .i64 0, .int .i64 0, .bool false, .bool false, .int .i64 0, .string ⟨#[]⟩, .string ⟨#[]⟩, .string ⟨#[]⟩, .slice A3 0 c3] : Array Value).all (·.oneCell') = true) := Lib.hid (by simp [Value.oneCell'])
  obtain ⟨k4, b4⟩ := alloc_box w3 #[.int .i64 0, .int .i64 0, .int .i64 0, .int .i64 0, .bool false, .bool false, .int .i64 0, .string ⟨#[]⟩, .string ⟨#[]⟩, .string ⟨#[]⟩, .slice A3 0 c3] one4.out rfl
  have X4 := Lib.hid b4
  have K4 := Lib.hid k4
  have J4 := Lib.hid (Blk.new w3 32 #[.int .i64 0, .int .i64 0, .int .i64 0, .int .i64 0, .bool false, .bool false, .int .i64 0, .string ⟨#[]⟩, .string ⟨#[]⟩, .string ⟨#[]⟩, .slice none 0 0])
  clear k4 b4
  have S4 := Lib.hid (S3.out.up (S.obj g t1) X4.out)
  have B4 := Lib.hid (B3.out.trans (X4.out.mono B3.out.size))
  unfold ansP ansB Pkt.zero
  clear S3 B3 X4 K4
  go_wp2_with (refine wpList_store_row rfl 32 (.tmp 2) (.tmp 17) rfl w3.heap.size #[.int .i64 0, .int .i64 0, .int .i64 0, .int .i64 0, .bool false, .bool false, .int .i64 0, .string ⟨#[]⟩, .string ⟨#[]⟩, .string ⟨#[]⟩, .slice A3 0 c3] rfl rfl 32 _ J4.out (by kernel_rfl) rfl one4.out ?_)
  clear J4 one4
  generalize (w3.alloc (.cells #[.int .i64 0, .int .i64 0, .int .i64 0, .int .i64 0, .bool false, .bool false, .int .i64 0, .string ⟨#[]⟩, .string ⟨#[]⟩, .string ⟨#[]⟩, .slice none 0 0] 32)).setRow w3.heap.size #[.int .i64 0, .int .i64 0, .int .i64 0, .int .i64 0, .bool false, .bool false, .int .i64 0, .string ⟨#[]⟩, .string ⟨#[]⟩, .string ⟨#[]⟩, .slice A3 0 c3] = w4 at *
  refine (piece_any 0 true numS w4 (by decide)).mono ?_
  rintro e w5 ⟨⟨A5, c5, rfl, ho⟩, hb⟩
  have PC := Lib.hid (put_new S HG.out B4.out S4.out hb ho 0 (pcP 0 true) (by decide) (by decide) (by decide) (by decide) (by decide) (by decide))
  rw [← T1.out, ex_two] at PC
  clear ho hb S4 B4 T1
  unfold val pcP at PC
  unfold val pcP
  go_wp2_with fail
  refine PC.out.mono ?_
  rintro e w6 ⟨⟨A6, c6, rfl, hh⟩, hs, hb⟩
  have B6 := Lib.hid hb
  have H6 := Lib.hid hh
  clear PC hs hb hh
  unfold ansP ansB
  have one7 : Hid ((#[.int .i64 0, .int .i64 7, .int .i64 0, .int .i64 0, .bool false, .bool false, .int .i64 0, .string ⟨#[97, 98, 99, 100]⟩, .string ⟨#[101, 102, 103, 104]⟩, .string ⟨#[]⟩, .slice A6 11 c6] : Array Value).all (·.oneCell') = true) := Lib.hid (by simp [Value.oneCell'])
  obtain ⟨k7, b7⟩ := alloc_box w6 #[.int .i64 0, .int .i64 7, .int .i64 0, .int .i64 0, .bool false, .bool false, .int .i64 0, .string ⟨#[97, 98, 99, 100]⟩, .string ⟨#[101, 102, 103, 104]⟩, .string ⟨#[]⟩, .slice A6 11 c6] one7.out rfl
  have X7 := Lib.hid b7
  have K7 := Lib.hid k7
  have J7 := Lib.hid (Blk.new w6 32 #[.int .i64 0, .int .i64 0, .int .i64 0, .int .i64 0, .bool false, .bool false, .int .i64 0, .string ⟨#[]⟩, .string ⟨#[]⟩, .string ⟨#[]⟩, .slice none 0 0])
  clear k7 b7
  have B7 := Lib.hid (B6.out.trans (X7.out.mono B6.out.size))
  have H7 := Lib.hid ((H6.out.below X7.out).more X7.out.size)
  clear B6 H6 X7
  go_wp2_with (refine wpList_store_row rfl 32 (.tmp 5) (.tmp 24) rfl w6.heap.size #[.int .i64 0, .int .i64 7, .int .i64 0, .int .i64 0, .bool false, .bool false, .int .i64 0, .string ⟨#[97, 98, 99, 100]⟩, .string ⟨#[101, 102, 103, 104]⟩, .string ⟨#[]⟩, .slice A6 11 c6] rfl rfl 32 _ J7.out (by kernel_rfl) rfl one7.out ?_)
  clear J7 one7
  generalize (w6.alloc (.cells #[.int .i64 0, .int .i64 0, .int .i64 0, .int .i64 0, .bool false, .bool false, .int .i64 0, .string ⟨#[]⟩, .string ⟨#[]⟩, .string ⟨#[]⟩, .slice none 0 0] 32)).setRow w6.heap.size #[.int .i64 0, .int .i64 7, .int .i64 0, .int .i64 0, .bool false, .bool false, .int .i64 0, .string ⟨#[97, 98, 99, 100]⟩, .string ⟨#[101, 102, 103, 104]⟩, .string ⟨#[]⟩, .slice A6 11 c6] = w7 at *
  refine (NC.out w7).mono ?_
  rintro e w8 ⟨⟨g2, rfl, hs⟩, hb⟩
  have HG2 := Lib.hid (HG.out.keep B7.out)
  have S8 := Lib.hid hs
  have B8 := Lib.hid hb
  clear hs hb NC
  go_wp2_with fail
  refine (piece_any 0 true numS w8 (by decide)).mono ?_
  rintro e w9 ⟨⟨A9, c9, rfl, ho⟩, hb⟩
  obtain ⟨t2, ht2⟩ : ∃ t, [((0 : Int), [(pcP 0 true, nums numS)])] = t := ⟨_, rfl⟩
  have PC := Lib.hid (put_new S HG2.out B8.out S8.out hb ho 0 (pcP 0 true) (by decide) (by decide) (by decide) (by decide) (by decide) (by decide))
  rw [ex_three, ht2] at PC
  have T2 := Lib.hid ht2
  clear ho hb S8 ht2 B8
  unfold val pcP at PC
  unfold val pcP
  go_wp2_with fail
  refine PC.out.mono ?_
  rintro e w10 ⟨⟨A10, c10, rfl, -⟩, hs, hb⟩
  have TC := Lib.hid (S.solo_tick 60 hs (by decide) (by decide))
  rw [← T2.out, ex_tick] at TC
  have B10 := Lib.hid hb
  clear PC hs hb T2
  go_wp2_with fail
  refine TC.out.mono ?_
  rintro e w11 ⟨⟨v, rfl, hp⟩, hs, hk⟩
  obtain ⟨A11, c11, rfl, -⟩ := hp
  have B11 := Lib.hid (B10.out.trans (hk.below B10.out.size fun k hk => hk))
  have WC := Lib.hid (S.solo_wait hs)
  clear hs hk TC B10
  have c5 : w11.cell? ⟨w6.heap.size, 5, none⟩ = some (.bool false) := keep_cell (K7.out.cell 5) B11.out
  have c10' : w11.cell? ⟨w6.heap.size, 10, none⟩ = some (.slice A6 11 c6) := keep_cell (K7.out.cell 10) B11.out
  have cv := run_string_bytes (H7.out.below B11.out)
  have B12 := Lib.hid (B7.out.trans (B11.out.mono B7.out.size))
  have ES : strOfNums (nums numS ++ nums xyzS) = ⟨#[49, 50, 51, 52, 53, 54, 55, 56, 120, 121, 122]⟩ := ex_str
  have cv2 : (convert 30 9 (.slice A6 11 c6)).run Tryd.prog w11 = .ok (.string ⟨#[49, 50, 51, 52, 53, 54, 55, 56, 120, 121, 122]⟩) w11 := by rw [← ES]; exact cv
  clear cv ES K7 H7 B7
  rw [List.length_singleton]
  go_wp2_with fail
  refine WC.out.mono ?_
  rintro e w12 ⟨rfl, hb⟩
  have B13 := Lib.hid (B12.out.trans (hb.mono B12.out.size))
  clear hb WC B12 cv2 c5 c10'
  go_wp2_with fail
  go_ret
  exact ⟨rfl, B13.out⟩
end Go.Proofs.YtnpggkpcadefjaaDoor.JoiA

