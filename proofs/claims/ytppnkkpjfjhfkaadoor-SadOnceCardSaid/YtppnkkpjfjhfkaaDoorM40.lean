/- A database that was made within the call; the examples. -/
import Derived.Test.YtppnkkpjfjhfkaaDoorM37
import Derived.Test.YtppnkkpjfjhfkaaDoorM21
set_option linter.unusedVariables false
set_option maxRecDepth 100000
namespace Go.Proofs.YtppnkkpjfjhfkaaDoor.Ob17
open Go.RowKit Go.Proofs.YtppnkkpjfjhfkaaDoor.Mem Go.Proofs.YtppnkkpjfjhfkaaDoor.Blk Go.Proofs.YtppnkkpjfjhfkaaDoor.ArgT Go.Proofs.YtppnkkpjfjhfkaaDoor.Longs Go.Proofs.YtppnkkpjfjhfkaaDoor.SadM Go.Proofs.YtppnkkpjfjhfkaaDoor.SadMay Go.Proofs.YtppnkkpjfjhfkaaDoor.SadR3 Go.Proofs.YtppnkkpjfjhfkaaDoor.SadR4 Go.Proofs.YtppnkkpjfjhfkaaDoor.SadR5 Go.Proofs.YtppnkkpjfjhfkaaDoor.SadR6 Go.Proofs.YtppnkkpjfjhfkaaDoor.SadR7 Go.Proofs.YtppnkkpjfjhfkaaDoor.SadR8 Go.Proofs.YtppnkkpjfjhfkaaDoor.SadR10 Go.Proofs.YtppnkkpjfjhfkaaDoor.RowN Go.Proofs.YtppnkkpjfjhfkaaDoor.CadM Go.Proofs.YtppnkkpjfjhfkaaDoor.Cad11 Go.Proofs.YtppnkkpjfjhfkaaDoor.Errno

def KY : ByteArray := ⟨#[48, 49, 50, 51, 52, 53, 54, 55, 56, 57, 97, 98, 99, 100, 101, 102]⟩
def SLT : ByteArray := ⟨#[115, 97, 108, 116]⟩
def MC : ByteArray := ⟨#[48, 49, 50, 51, 52, 53, 54, 55, 56, 57, 97, 98, 99, 100, 101, 102, 48, 49, 50, 51, 52, 53, 54, 55, 56, 57, 97, 98, 99, 100, 101, 102]⟩
def lifeR (spi : Int) : LifeR := ⟨spi, KY, SLT, MC, false, 64, 1, true, 10, 0, 0, 0⟩
theorem life_c (spi : Int) (w : World) : Calls Tryd.prog 16 #[.int .i64 spi] w fun e w' => e = .returned (.agg #[.int .i64 spi, .string KY, .string SLT, .string MC, .bool false, .int .i64 64, .int .i64 1, .bool true, .int .i64 10, .int .i64 0, .int .i64 0, .int .i64 0]) ∧ Below w.heap.size w w' := by
  have J := Blk.new w 34 #[.int .i64 0, .string ⟨#[]⟩, .string ⟨#[]⟩, .string ⟨#[]⟩, .bool false, .int .i64 0, .int .i64 0, .bool false, .int .i64 0, .int .i64 0, .int .i64 0, .int .i64 0]
  have B0 := (Below.refl w.heap.size w).alloc (Nat.le_refl _) (.cells #[.int .i64 0, .string ⟨#[]⟩, .string ⟨#[]⟩, .string ⟨#[]⟩, .bool false, .int .i64 0, .int .i64 0, .bool false, .int .i64 0, .int .i64 0, .int .i64 0, .int .i64 0] 34)
  have HB := Lib.hid B0
  have H := Lib.hid (setRow_heap _ _ _ #[.int .i64 spi, .string KY, .string SLT, .string MC, .bool false, .int .i64 64, .int .i64 1, .bool true, .int .i64 10, .int .i64 0, .int .i64 0, .int .i64 0] _ _ J)
  have one : Hid ((#[.int .i64 spi, .string KY, .string SLT, .string MC, .bool false, .int .i64 64, .int .i64 1, .bool true, .int .i64 10, .int .i64 0, .int .i64 0, .int .i64 0] : Array Value).all (·.oneCell') = true) := Lib.hid (by simp [Value.oneCell'])
  go_enter Tryd.func16, Tryd.ntmps16
  go_wp2_with (refine wpList_store_row rfl 34 (.tmp 2) (.tmp 5) rfl w.heap.size #[.int .i64 spi, .string KY, .string SLT, .string MC, .bool false, .int .i64 64, .int .i64 1, .bool true, .int .i64 10, .int .i64 0, .int .i64 0, .int .i64 0] rfl rfl 34 _ J (by kernel_rfl) rfl one.out ?_)
  exact bodyPost_ret (results_cell_row rfl _ _ w.heap.size 34 #[.int .i64 spi, .string KY, .string SLT, .string MC, .bool false, .int .i64 64, .int .i64 1, .bool true, .int .i64 10, .int .i64 0, .int .i64 0, .int .i64 0] (0, 0) _ rfl H.out Tryd.underlying34 rfl (by kernel_rfl)) rfl ⟨rfl, Com.setRow_bel HB.out (Nat.le_refl _) _⟩
/-- A database that lies in blocks that are new since W, and none of F. -/
structure Ob (F : Nat → Prop) (W w : World) (gs : Nat) (es : List Ent) : Prop where
  obj : CadF F w gs es
  hF : ∀ k, F k → k < w.heap.size
  low : ∀ k, k < W.heap.size → F k
  bel : Below W.heap.size W w
  hand : Handle W
section
variable {F G : Nat → Prop} {W w w' : World} {gs : Nat} {es : List Ent}
theorem Ob.up (h : Ob F W w gs es) (hb : Below w.heap.size w w') : Ob F W w' gs es := ⟨h.obj.below hb, fun k hk => Nat.lt_of_lt_of_le (h.hF k hk) hb.size, h.low, h.bel.trans (hb.mono h.bel.size), h.hand⟩
/-- What is made meanwhile is foreign to it. -/
theorem Ob.wide (h : Ob F W w gs es) (hb : Below w.heap.size w w') : Ob (fun k => F k ∨ (w.heap.size ≤ k ∧ k < w'.heap.size)) W w' gs es :=
  ⟨(h.obj.mono fun k hk z => z.resolve_right (by omega)).below hb, fun k hk => hk.elim (fun z => Nat.lt_of_lt_of_le (h.hF k z) hb.size) And.right, fun k hk => .inl (h.low k hk), h.bel.trans (hb.mono h.bel.size), h.hand⟩
/-- Others are written. -/
theorem Ob.other (h : Ob F W w gs es) (hk : Keep G w w') (hG : ∀ k, k < w.heap.size → ¬ F k → G k) (hl : ∀ k, k < W.heap.size → G k) : Ob F W w' gs es :=
  ⟨cadF_obj.other h.obj hk hG, fun k z => Nat.lt_of_lt_of_le (h.hF k z) hk.size, h.low, h.bel.trans (hk.below h.bel.size hl), h.hand⟩
theorem Ob.hd (h : Ob F W w gs es) : Handle w := h.hand.keep h.bel
theorem Ob.on (h : Ob F W w gs es) {es' : List Ent} (o : CadF F w' gs es') (k : Keep F w w') : Ob F W w' gs es' := ⟨o, fun i z => Nat.lt_of_lt_of_le (h.hF i z) k.size, h.low, h.bel.trans (k.below h.bel.size h.low), h.hand⟩
theorem Ob.new (hg : Handle W) (hb : Below W.heap.size W w) : Calls Tryd.prog 9 #[] w fun er w' => er = .returned (.pointer (some ⟨w.heap.size, 0, none⟩)) ∧ Ob (fun k => k < W.heap.size) W w' w.heap.size [] ∧ Below w.heap.size w w' :=
  (new_c w).mono fun er w' ⟨h1, h2⟩ => by
    subst h2
    have b := (Below.refl w.heap.size w).alloc (Nat.le_refl _) (.cells #[.slice none 0 0] 60)
    exact ⟨h1, ⟨cfresh (Blk.new w _ _) (by have := hb.size; omega), fun k hk => Nat.lt_of_lt_of_le hk (Nat.le_trans hb.size b.size), fun k hk => hk, hb.trans (b.mono hb.size), hg⟩, b⟩
theorem Ob.add (h : Ob F W w gs es) (hn : es.length ≤ 1000000) (now : Int) (r : LifeR) :
    Calls Tryd.prog 15 #[.pointer (some ⟨gs, 0, none⟩), .int .i64 now, .agg #[.int .i64 r.x0, .string r.x1, .string r.x2, .string r.x3, .bool r.x4, .int .i64 r.x5, .int .i64 r.x6, .bool r.x7, .int .i64 r.x8, .int .i64 r.x9, .int .i64 r.x10, .int .i64 r.x11]] w fun er w' => er = .returned (.int .i64 ((addS now r es).1 : Int)) ∧ Ob F W w' gs (addS now r es).2 ∧ Keep F w w' :=
  (cadd_F _ gs es now r w h.obj h.hd h.hF hn).mono fun er w' ⟨h1, h2, h3⟩ => ⟨h1, h.on h2 h3, h3⟩
theorem Ob.remove (h : Ob F W w gs es) (hn : es.length ≤ 1000000) (spi : Int) (out : Bool) :
    Calls Tryd.prog 18 #[.pointer (some ⟨gs, 0, none⟩), .int .i64 spi, .bool out] w fun er w' => er = .returned (.int .i64 ((removeS spi out es).1 : Int)) ∧ Ob F W w' gs (removeS spi out es).2 ∧ Keep F w w' :=
  (cremove_F _ gs es spi out w h.obj h.hd h.hF hn).mono fun er w' ⟨h1, h2, h3⟩ => ⟨h1, h.on h2 h3, h3⟩
theorem Ob.take (h : Ob F W w gs es) (hn : es.length ≤ 1048576) (now spi : Int) (seq : Nat) (n : Int) (hc : NowOk now es) (hr : RoomOk n es) (hq : seq < Q64) :
    Calls Tryd.prog 19 #[.pointer (some ⟨gs, 0, none⟩), .int .i64 now, .int .i64 spi, .int .u64 (seq : Int), .int .i64 n] w fun er w' => er = .returned (.int .i64 ((takeS now spi seq n es).1 : Int)) ∧ Ob F W w' gs (takeS now spi seq n es).2 ∧ Keep F w w' :=
  (ctake_F _ gs es now spi seq n w h.obj h.hd h.hF hn hc hr hq).mono fun er w' ⟨h1, h2, h3⟩ => ⟨h1, h.on h2 h3, h3⟩
theorem Ob.send (h : Ob F W w gs es) (hn : es.length ≤ 1048576) (now spi n : Int) (hc : NowOk now es) (hr : RoomOk n es) :
    Calls Tryd.prog 17 #[.pointer (some ⟨gs, 0, none⟩), .int .i64 now, .int .i64 spi, .int .i64 n] w fun er w' => er = .returned (.tuple #[.agg (sendS now spi n es).1.toArray, .int .u64 ((sendS now spi n es).2.1 : Int), .int .i64 ((sendS now spi n es).2.2.1 : Int)]) ∧ Ob F W w' gs (sendS now spi n es).2.2.2 ∧ Keep F w w' :=
  (csend_F _ gs es now spi n w h.obj h.hd h.hF hn hc hr).mono fun er w' ⟨h1, h2, h3⟩ => ⟨h1, h.on h2 h3, h3⟩
theorem Ob.look (h : Ob F W w gs es) (hn : es.length ≤ 1048576) (now spi low : Int) (hc : NowOk now es) :
    Calls Tryd.prog 21 #[.pointer (some ⟨gs, 0, none⟩), .int .i64 now, .int .i64 spi, .int .i64 low] w fun er w' => er = .returned (.tuple #[.agg (lookS now spi low es).1.cells.toArray, .int .u64 ((lookS now spi low es).2.1 : Int), .int .i64 ((lookS now spi low es).2.2 : Int)]) ∧ Ob F W w' gs es ∧ Below w.heap.size w w' :=
  (clook_F _ gs es now spi low w h.obj h.hd hn hc).mono fun er w' ⟨h1, h2⟩ => ⟨h1, h.up h2, h2⟩
theorem Ob.age (h : Ob F W w gs es) (hn : es.length ≤ 1048576) (now spi : Int) (out : Bool) (hc : NowOk now es) :
    Calls Tryd.prog 20 #[.pointer (some ⟨gs, 0, none⟩), .int .i64 now, .int .i64 spi, .bool out] w fun er w' => er = .returned (.tuple #[.int .i64 ((ageS now spi out es).1 : Int), .int .i64 ((ageS now spi out es).2 : Int)]) ∧ Ob F W w' gs es ∧ Below w.heap.size w w' :=
  (cage_F _ gs es now spi out w h.obj h.hd hn hc).mono fun er w' ⟨h1, h2⟩ => ⟨h1, h.up h2, h2⟩
theorem Ob.pick (h : Ob F W w gs es) (hn : es.length ≤ 1048576) (now rule : Int) (hc : NowOk now es) :
    Calls Tryd.prog 22 #[.pointer (some ⟨gs, 0, none⟩), .int .i64 now, .int .i64 rule] w fun er w' => er = .returned (.tuple #[.int .i64 (pickS now rule es).1, .int .i64 ((pickS now rule es).2 : Int)]) ∧ Ob F W w' gs es ∧ Below w.heap.size w w' :=
  (cpick_F _ gs es now rule w h.obj h.hd hn hc).mono fun er w' ⟨h1, h2⟩ => ⟨h1, h.up h2, h2⟩
end
/-- The examples' associations. -/
def e1 : Ent := newE (lifeR 256) 0
def e2 : Ent := sent e1 10
def e3 : Ent := newE (lifeR 257) 0
theorem x1 : addS 0 (lifeR 256) [] = (0, [e1]) := by kernel_rfl
theorem x2 : sendS 0 256 10 [e1] = (saC (lifeR 256), 1, 0, [e2]) := by kernel_rfl
theorem x3 : pickS 0 1 [e2] = (256, 0) := by kernel_rfl
theorem x4 : addS 0 (lifeR 257) [e2] = (0, [e2, e3]) := by kernel_rfl
theorem x5 : pickS 0 1 [e2, e3] = (257, 0) := by kernel_rfl
theorem now_one {e : Ent} (h : e.born = 0) : NowOk 0 [e] := fun d hd => by
  obtain rfl := List.mem_singleton.1 hd
  omega
section
variable {F : Nat → Prop} {W w : World} {gs : Nat}
theorem a1 (h : Ob F W w gs []) : Calls Tryd.prog 15 #[.pointer (some ⟨gs, 0, none⟩), .int .i64 0, .agg #[.int .i64 256, .string KY, .string SLT, .string MC, .bool false, .int .i64 64, .int .i64 1, .bool true, .int .i64 10, .int .i64 0, .int .i64 0, .int .i64 0]] w fun er w' => er = .returned (.int .i64 0) ∧ Ob F W w' gs [e1] :=
  (h.add (by simp) 0 (lifeR 256)).mono fun er w' ⟨p, q, _⟩ => ⟨p.trans (by rw [x1]; rfl), by rw [x1] at q; exact q⟩
theorem a2 (h : Ob F W w gs [e1]) : Calls Tryd.prog 17 #[.pointer (some ⟨gs, 0, none⟩), .int .i64 0, .int .i64 256, .int .i64 10] w fun er w' => er = .returned (.tuple #[.agg #[.int .i64 256, .string KY, .string SLT, .string MC, .bool false, .int .i64 64], .int .u64 1, .int .i64 0]) ∧ Ob F W w' gs [e2] :=
  (h.send (by simp) 0 256 10 (now_one rfl) (fun d hd => by obtain rfl := List.mem_singleton.1 hd; exact ⟨by decide, by decide, by decide⟩)).mono fun er w' ⟨p, q, _⟩ => ⟨p.trans (by rw [x2]; rfl), by rw [x2] at q; exact q⟩
theorem a3 (h : Ob F W w gs [e2]) : Calls Tryd.prog 22 #[.pointer (some ⟨gs, 0, none⟩), .int .i64 0, .int .i64 1] w fun er w' => er = .returned (.tuple #[.int .i64 256, .int .i64 0]) ∧ Ob F W w' gs [e2] :=
  (h.pick (by simp) 0 1 (now_one rfl)).mono fun er w' ⟨p, q, _⟩ => ⟨p.trans (by rw [x3]; rfl), q⟩
theorem a4 (h : Ob F W w gs [e2]) : Calls Tryd.prog 15 #[.pointer (some ⟨gs, 0, none⟩), .int .i64 0, .agg #[.int .i64 257, .string KY, .string SLT, .string MC, .bool false, .int .i64 64, .int .i64 1, .bool true, .int .i64 10, .int .i64 0, .int .i64 0, .int .i64 0]] w fun er w' => er = .returned (.int .i64 0) ∧ Ob F W w' gs [e2, e3] :=
  (h.add (by simp) 0 (lifeR 257)).mono fun er w' ⟨p, q, _⟩ => ⟨p.trans (by rw [x4]; rfl), by rw [x4] at q; exact q⟩
theorem a5 (h : Ob F W w gs [e2, e3]) : Calls Tryd.prog 22 #[.pointer (some ⟨gs, 0, none⟩), .int .i64 0, .int .i64 1] w fun er w' => er = .returned (.tuple #[.int .i64 257, .int .i64 0]) ∧ Ob F W w' gs [e2, e3] :=
  (h.pick (by simp) 0 1 (fun d hd => by
    rcases List.mem_cons.1 hd with rfl | hd
    · exact ⟨by decide, by decide⟩
    · obtain rfl := List.mem_singleton.1 hd
      exact ⟨by decide, by decide⟩)).mono fun er w' ⟨p, q, _⟩ => ⟨p.trans (by rw [x5]; rfl), q⟩
end
set_option maxHeartbeats 2000000 in
theorem awake_any (w : World) (hg : Handle w) : Calls Tryd.prog 14 #[] w fun e w' => e = .returned (.bool true) ∧ Below w.heap.size w w' := by
  have NC := Lib.hid (Ob.new hg (Below.refl w.heap.size w))
  clear hg
  go_enter Tryd.func14, Tryd.ntmps14
  go_wp2_with fail
  refine NC.out.mono ?_
  rintro er w1 ⟨rfl, o1, -⟩
  have O1 := Lib.hid o1
  clear o1 NC
  generalize w.heap.size = gs at *
  go_wp2_with fail
  refine (life_c 256 _).mono ?_
  rintro er w2 ⟨rfl, hb⟩
  have O2 := Lib.hid (O1.out.up hb)
  clear hb O1
  go_wp2_with fail
  refine (a1 O2.out).mono ?_
  rintro er w3 ⟨rfl, o⟩
  have O3 := Lib.hid o
  clear o O2
  go_wp2_with fail
  refine (a2 O3.out).mono ?_
  rintro er w4 ⟨rfl, o⟩
  have J4 := Blk.new w4 32 #[.int .i64 0, .string ⟨#[]⟩, .string ⟨#[]⟩, .string ⟨#[]⟩, .bool false, .int .i64 0]
  have B4 := Com.setRow_bel ((Below.refl w4.heap.size w4).alloc (Nat.le_refl _) (.cells #[.int .i64 0, .string ⟨#[]⟩, .string ⟨#[]⟩, .string ⟨#[]⟩, .bool false, .int .i64 0] 32)) (Nat.le_refl _) #[.int .i64 256, .string KY, .string SLT, .string MC, .bool false, .int .i64 64]
  have O4 := Lib.hid (o.up B4)
  have one : Hid (((#[.int .i64 256, .string KY, .string SLT, .string MC, .bool false, .int .i64 64] : Array Value)).all (·.oneCell') = true) := Lib.hid (by simp [Value.oneCell'])
  clear o O3 B4
  go_wp2_with (refine wpList_store_row rfl 32 (.tmp 3) (.tmp 20) rfl w4.heap.size #[.int .i64 256, .string KY, .string SLT, .string MC, .bool false, .int .i64 64] rfl rfl 32 _ J4 (by kernel_rfl) rfl one.out ?_)
  refine (a3 O4.out).mono ?_
  rintro er w5 ⟨rfl, o⟩
  have O5 := Lib.hid o
  clear o O4 J4 one
  go_wp2_with fail
  refine (life_c 257 _).mono ?_
  rintro er w6 ⟨rfl, hb⟩
  have O6 := Lib.hid (O5.out.up hb)
  clear hb O5
  go_wp2_with fail
  refine (a4 O6.out).mono ?_
  rintro er w7 ⟨rfl, o⟩
  have O7 := Lib.hid o
  clear o O6
  go_wp2_with fail
  refine (a5 O7.out).mono ?_
  rintro er w8 ⟨rfl, o⟩
  have O8 := Lib.hid o
  clear o O7
  go_wp2_with fail
  go_ret
  exact ⟨rfl, O8.out.bel⟩
end Go.Proofs.YtppnkkpjfjhfkaaDoor.Ob17

