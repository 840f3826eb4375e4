/- The contract of decode: a head is read, or what is wrong first is told. -/
import Derived.Test.YtjhfginopbjldaaDoorReadAll
import Derived.Test.YtjhfginopbjldaaDoorInetSum
import Derived.Test.YtjhfginopbjldaaDoorErrno
import Derived.Deep.QuietTactic
import Derived.Laws.Tables
import Derived.Laws.CopyOwn
set_option linter.unusedVariables false
namespace Go.Proofs.YtjhfginopbjldaaDoor.Decode
open Go.RowKit Go.Proofs.YtjhfginopbjldaaDoor.Sums Go.Proofs.YtjhfginopbjldaaDoor.Mem Go.Proofs.YtjhfginopbjldaaDoor.Blk Go.Proofs.YtjhfginopbjldaaDoor.Bits Go.Proofs.YtjhfginopbjldaaDoor.Read Go.Proofs.YtjhfginopbjldaaDoor.InetSum

/-- What is wrong with some bytes: the number of the first part that does not hold. -/
def perr (l : List Int) : Int :=
  if l.length < 20 then 8
  else if l.getD 0 0 / 16 ≠ 4 then 4
  else if l.getD 0 0 % 16 * 4 < 20 then 4
  else if (l.length : Int) < l.getD 0 0 % 16 * 4 then 8
  else if (l.length : Int) < 256 * l.getD 2 0 + l.getD 3 0 then 8
  else if 256 * l.getD 2 0 + l.getD 3 0 < l.getD 0 0 % 16 * 4 then 4
  else if 256 * l.getD 2 0 + l.getD 3 0 < (l.length : Int) then 4
  else if 32768 ≤ 256 * l.getD 6 0 + l.getD 7 0 then 4
  else if sums 0 (l.take (l.getD 0 0 % 16 * 4).toNat) ≠ 65535 then 5
  else 0

theorem size_any (g : Nat) (b0 : Int) (H : Nat) (w : World) (h0 : 0 ≤ b0) (h1 : b0 ≤ 255) (hH : b0 % 16 * 4 = (H : Int)) (hc : w.cell? ⟨g, 0, none⟩ = some (.int .i64 b0)) :
    Calls Tryd.prog 32 #[.pointer (some ⟨g, 0, none⟩)] w fun e w' => e = .returned (.int .i64 H) ∧ w' = w := by
  have e1 := and_15 h0 (show b0 < 65536 by omega)
  go_enter Tryd.func32, Tryd.ntmps32
  go_wp2_with fail
  go_ret
  exact ⟨by rw [← hH]; rfl, rfl⟩

theorem decode_short (A : Option Addr) (n c : Nat) (l : List Int) (w : World) (hl : l.length = n) (hn : n < 20) :
    Calls Tryd.prog 31 #[.slice A n c] w fun e w' => e = .returned (.tuple #[.agg #[.int .i64 0, .int .i64 0, .int .i64 0, .int .i64 0, .int .i64 0, .int .i64 0, .int .i64 0, .int .i64 0], .iface 71 (.agg #[.string ⟨#[104, 101, 97, 100, 101, 114]⟩, .iface 27 (.int .i64 8)])]) ∧ perr l = 8 ∧ Below w.heap.size w w' := by
  go_enter Tryd.func31, Tryd.ntmps31
  go_wp2_with fail
  refine bodyPost_ret (v := .tuple #[.agg #[.int .i64 0, .int .i64 0, .int .i64 0, .int .i64 0, .int .i64 0, .int .i64 0, .int .i64 0, .int .i64 0], .iface 71 (.agg #[.string ⟨#[104, 101, 97, 100, 101, 114]⟩, .iface 27 (.int .i64 8)])]) (by simp [results, Tryd.results31, go_sem]) rfl ?_
  refine ⟨rfl, by unfold perr; rw [if_pos (by omega)], ?_⟩
  exact ((Below.refl _ _).alloc (Nat.le_refl _) _).alloc (by simp) _

theorem perr_eq (m : Nat) (b0 b1 b2 b3 b4 b5 b6 b7 b8 b9 b10 b11 : Int) (r : List Int) (hr : r.length = m) (H T : Nat) (hH : b0 % 16 * 4 = (H : Int)) (hT : 256 * b2 + b3 = (T : Int)) :
    perr (b0 :: b1 :: b2 :: b3 :: b4 :: b5 :: b6 :: b7 :: b8 :: b9 :: b10 :: b11 :: r) = if m + 12 < 20 then 8 else if b0 / 16 ≠ 4 then 4 else if (H : Int) < 20 then 4 else if ((m + 12 : Nat) : Int) < (H : Int) then 8 else if ((m + 12 : Nat) : Int) < (T : Int) then 8
      else if (T : Int) < (H : Int) then 4 else if (T : Int) < ((m + 12 : Nat) : Int) then 4 else if 32768 ≤ 256 * b6 + b7 then 4 else if sums 0 ((b0 :: b1 :: b2 :: b3 :: b4 :: b5 :: b6 :: b7 :: b8 :: b9 :: b10 :: b11 :: r).take H) ≠ 65535 then 5 else 0 := by
  have hl : (b0 :: b1 :: b2 :: b3 :: b4 :: b5 :: b6 :: b7 :: b8 :: b9 :: b10 :: b11 :: r).length = m + 12 := by simp [hr]
  unfold perr
  rw [hl]
  simp only [List.getD_cons_zero, List.getD_cons_succ, hH, hT, Int.toNat_natCast]

def aggB : TypeDesc → Bool
  | .struct _ => true
  | .array _ _ => true
  | _ => false
theorem results_pair {fn : Func} {p q : Tmp} {ty : TypeId} (h : fn.results = #[.cell p ty, .tmp q]) (tmps : Array Value) (w : World) (g : Nat) (t : TypeId) (cs : Array Value) (fr : Nat × Nat) (d : TypeDesc) (v : Value)
    (hp : tmps.getD p undef = .pointer (some ⟨g, 0, none⟩)) (hq : tmps.getD q undef = v) (hg : w.heap[g]? = some (.cells cs t fr))
    (hu : Tryd.prog.underlying ty = some d) (hd : aggB d = true) (hi : (Tryd.prog.info? ty).map (·.size) = some cs.size) :
    (results fn tmps).run Tryd.prog w = .ok (.tuple #[.agg cs, v]) w := by
  have hp' : tmps[p]?.getD undef = .pointer (some ⟨g, 0, none⟩) := by simpa using hp
  have hq' : tmps[q]?.getD undef = v := by simpa using hq
  have e := run_loadVar_row (P := Tryd.prog) w g t ty cs fr d hg hu (by cases d <;> simp_all [aggB]) hi
  simp [results, h, hp', hq', asAddr, e]

theorem one8 (a0 a1 a2 a3 a4 a5 a6 a7 : Int) : (#[Value.int .i64 a0, .int .i64 a1, .int .i64 a2, .int .i64 a3, .int .i64 a4, .int .i64 a5, .int .i64 a6, .int .i64 a7] : Array Value).all (·.oneCell') = true := by
  simp [Value.oneCell']

/-- What is at hand behind the reading. -/
structure After (w w1 : World) (b p m d : Nat) (B : Nat) (V : Array Value) (l : List Int) : Prop where
  res : Blk w1 w.heap.size 49 #[.int .i64 0, .int .i64 0, .int .i64 0, .int .i64 0, .int .i64 0, .int .i64 0, .int .i64 0, .int .i64 0]
  var : Blk w1 (w.heap.size + 1) 49 V
  bel : Below w.heap.size w w1
  row : Holds w1 B (some ⟨b, p, none⟩) (m + 12) (d + 12) l
theorem After.drewN {w w1 : World} {b p m d B : Nat} {V : Array Value} {l : List Int} (h : After w w1 b p m d B V l) (n : Nat) : After w (w1.drewN n) b p m d B V l :=
  ⟨h.res, h.var, below_drewN h.bel n, h.row.keep fun _ _ _ => rfl⟩

theorem read_after (b p m d : Nat) (b0 b1 b2 b3 b4 b5 b6 b7 b8 b9 b10 b11 : Int) (r : List Int) (w : World) (B : Nat) (hB : B ≤ w.heap.size)
    (h : Holds w B (some ⟨b, p, none⟩) (m + 12) (d + 12) (b0 :: b1 :: b2 :: b3 :: b4 :: b5 :: b6 :: b7 :: b8 :: b9 :: b10 :: b11 :: r)) (hm : 8 ≤ m) (T : Nat) (hT : 256 * b2 + b3 = (T : Int)) :
    Calls Tryd.prog 42 #[.pointer (some ⟨w.heap.size + 1, 0, none⟩), .slice (some ⟨b, p, none⟩) (m + 12) (d + 12)] ((w.alloc (.cells #[.int .i64 0, .int .i64 0, .int .i64 0, .int .i64 0, .int .i64 0, .int .i64 0, .int .i64 0, .int .i64 0] 49)).alloc (.cells #[.int .i64 0, .int .i64 0, .int .i64 0, .int .i64 0, .int .i64 0, .int .i64 0, .int .i64 0, .int .i64 0] 49)) fun e w1 => e = .returned (.tuple #[]) ∧ After w w1 b p m d B #[.int .i64 b0, .int .i64 b1, .int .i64 (T : Int), .int .i64 (256 * b4 + b5), .int .i64 (256 * b6 + b7), .int .i64 b8, .int .i64 b9, .int .i64 (256 * b10 + b11)] (b0 :: b1 :: b2 :: b3 :: b4 :: b5 :: b6 :: b7 :: b8 :: b9 :: b10 :: b11 :: r) := by
  have W0 : Below w.heap.size w ((w.alloc (.cells #[.int .i64 0, .int .i64 0, .int .i64 0, .int .i64 0, .int .i64 0, .int .i64 0, .int .i64 0, .int .i64 0] 49)).alloc (.cells #[.int .i64 0, .int .i64 0, .int .i64 0, .int .i64 0, .int .i64 0, .int .i64 0, .int .i64 0, .int .i64 0] 49)) := ((Below.refl _ _).alloc (Nat.le_refl _) _).alloc (by simp) _
  have N1 : Blk ((w.alloc (.cells #[.int .i64 0, .int .i64 0, .int .i64 0, .int .i64 0, .int .i64 0, .int .i64 0, .int .i64 0, .int .i64 0] 49)).alloc (.cells #[.int .i64 0, .int .i64 0, .int .i64 0, .int .i64 0, .int .i64 0, .int .i64 0, .int .i64 0, .int .i64 0] 49)) (w.heap.size + 1) 49 #[.int .i64 0, .int .i64 0, .int .i64 0, .int .i64 0, .int .i64 0, .int .i64 0, .int .i64 0, .int .i64 0] := by simpa using Blk.new (w.alloc (.cells #[.int .i64 0, .int .i64 0, .int .i64 0, .int .i64 0, .int .i64 0, .int .i64 0, .int .i64 0, .int .i64 0] 49)) 49 #[.int .i64 0, .int .i64 0, .int .i64 0, .int .i64 0, .int .i64 0, .int .i64 0, .int .i64 0, .int .i64 0]
  have N0 : Blk ((w.alloc (.cells #[.int .i64 0, .int .i64 0, .int .i64 0, .int .i64 0, .int .i64 0, .int .i64 0, .int .i64 0, .int .i64 0] 49)).alloc (.cells #[.int .i64 0, .int .i64 0, .int .i64 0, .int .i64 0, .int .i64 0, .int .i64 0, .int .i64 0, .int .i64 0] 49)) w.heap.size 49 #[.int .i64 0, .int .i64 0, .int .i64 0, .int .i64 0, .int .i64 0, .int .i64 0, .int .i64 0, .int .i64 0] := (Blk.new w 49 #[.int .i64 0, .int .i64 0, .int .i64 0, .int .i64 0, .int .i64 0, .int .i64 0, .int .i64 0, .int .i64 0]).alloc _
  refine (read_any (w.heap.size + 1) b p m d b0 b1 b2 b3 b4 b5 b6 b7 b8 b9 b10 b11 r _ _ _ _ _ _ _ _ _ _ (w.heap.size + 1) N1 ((h.below (W0.mono hB)).more (by omega)) (by omega) (Nat.le_refl _)).mono ?_
  rintro e w1 ⟨he, g1, bel⟩
  rw [hT] at g1
  exact ⟨he, N0.below bel (by omega), g1, W0.trans (bel.mono (by omega)), (h.below (W0.mono hB)).below (bel.mono (by omega))⟩

set_option maxHeartbeats 1000000 in
set_option maxRecDepth 100000 in
theorem decode_version (b p m d : Nat) (b0 b1 b2 b3 b4 b5 b6 b7 b8 b9 b10 b11 : Int) (r : List Int) (w : World) (B : Nat) (hB : B ≤ w.heap.size)
    (h : Holds w B (some ⟨b, p, none⟩) (m + 12) (d + 12) (b0 :: b1 :: b2 :: b3 :: b4 :: b5 :: b6 :: b7 :: b8 :: b9 :: b10 :: b11 :: r)) (hm : 8 ≤ m) (hn : m ≤ 65536 - 12)
    (H T : Nat) (hH : b0 % 16 * 4 = (H : Int)) (hT : 256 * b2 + b3 = (T : Int)) (q1 : (b0 / 16 != 4) = true) :
    Calls Tryd.prog 31 #[.slice (some ⟨b, p, none⟩) (m + 12) (d + 12)] w fun e w' => e = .returned (.tuple #[.agg #[.int .i64 b0, .int .i64 b1, .int .i64 (T : Int), .int .i64 (256 * b4 + b5), .int .i64 (256 * b6 + b7), .int .i64 b8, .int .i64 b9, .int .i64 (256 * b10 + b11)], .iface 71 (.agg #[.string ⟨#[118, 101, 114, 115, 105, 111, 110]⟩, .iface 27 (.int .i64 4)])]) ∧ perr (b0 :: b1 :: b2 :: b3 :: b4 :: b5 :: b6 :: b7 :: b8 :: b9 :: b10 :: b11 :: r) = 4 ∧ Below w.heap.size w w' := by
  have hby := h.2.2.2.1
  have x0 := hby b0 (by simp)
  have hdm := h.2.1
  have hdx := h.2.2.1
  have PE : Hid (perr (b0 :: b1 :: b2 :: b3 :: b4 :: b5 :: b6 :: b7 :: b8 :: b9 :: b10 :: b11 :: r) = 4) := Lib.hid (by rw [perr_eq m b0 b1 b2 b3 b4 b5 b6 b7 b8 b9 b10 b11 r (by have := h.1; simpa using this) H T hH hT, if_neg (by omega), if_pos (by simpa using q1)])
  unfold maxLen at hdx
  have R := Lib.hid (read_after b p m d b0 b1 b2 b3 b4 b5 b6 b7 b8 b9 b10 b11 r w B hB h hm T hT)
  have SZ := Lib.hid (fun W (hc : W.cell? ⟨w.heap.size + 1, 0, none⟩ = some (.int .i64 b0)) => size_any (w.heap.size + 1) b0 H W x0.1 x0.2 hH hc)
  have hHx : (H : Int) ≤ 60 := by omega
  clear h hby hH hT
  go_enter Tryd.func31, Tryd.ntmps31
  go_wp2_with fail
  refine R.out.mono ?_
  rintro e w1 ⟨rfl, a1⟩
  have c0 : w1.cell? ⟨w.heap.size + 1, 0, none⟩ = some (.int .i64 b0) := (a1.var.cell 0).trans rfl
  have c2 : w1.cell? ⟨w.heap.size + 1, 2, none⟩ = some (.int .i64 (T : Int)) := (a1.var.cell 2).trans rfl
  have c4 : w1.cell? ⟨w.heap.size + 1, 4, none⟩ = some (.int .i64 (256 * b6 + b7)) := (a1.var.cell 4).trans rfl
  have A1 := Lib.hid a1
  clear a1 R
  go_wp2_with (first
    | (go_at_call 32; refine (SZ.out _ c0).mono ?_; rintro e w' ⟨rfl, hw⟩; obtain rfl := hw.symm)
    | (refine wpList_load_row rfl _ _ rfl (w.heap.size + 1) rfl 49 #[.int .i64 b0, .int .i64 b1, .int .i64 (T : Int), .int .i64 (256 * b4 + b5), .int .i64 (256 * b6 + b7), .int .i64 b8, .int .i64 b9, .int .i64 (256 * b10 + b11)] (0, 0) _ A1.out.var (Tryd.underlying49) rfl (by kernel_rfl) ?_)
    | (refine wpList_store_row rfl _ _ _ rfl w.heap.size #[.int .i64 b0, .int .i64 b1, .int .i64 (T : Int), .int .i64 (256 * b4 + b5), .int .i64 (256 * b6 + b7), .int .i64 b8, .int .i64 b9, .int .i64 (256 * b10 + b11)] rfl rfl 49 _ A1.out.res (by kernel_rfl) rfl (one8 _ _ _ _ _ _ _ _) ?_))
  refine bodyPost_ret (results_pair rfl _ _ w.heap.size 49 #[.int .i64 b0, .int .i64 b1, .int .i64 (T : Int), .int .i64 (256 * b4 + b5), .int .i64 (256 * b6 + b7), .int .i64 b8, .int .i64 b9, .int .i64 (256 * b10 + b11)] (0, 0) _ _ rfl rfl (setRow_heap _ _ _ _ _ _ A1.out.res) Tryd.underlying49 rfl (by kernel_rfl)) rfl ?_
  exact ⟨rfl, PE.out, below_setRow A1.out.bel (Nat.le_refl _) _⟩

set_option maxHeartbeats 1000000 in
set_option maxRecDepth 100000 in
theorem decode_hlen (b p m d : Nat) (b0 b1 b2 b3 b4 b5 b6 b7 b8 b9 b10 b11 : Int) (r : List Int) (w : World) (B : Nat) (hB : B ≤ w.heap.size)
    (h : Holds w B (some ⟨b, p, none⟩) (m + 12) (d + 12) (b0 :: b1 :: b2 :: b3 :: b4 :: b5 :: b6 :: b7 :: b8 :: b9 :: b10 :: b11 :: r)) (hm : 8 ≤ m) (hn : m ≤ 65536 - 12)
    (H T : Nat) (hH : b0 % 16 * 4 = (H : Int)) (hT : 256 * b2 + b3 = (T : Int)) (q1 : b0 / 16 = 4) (q2 : (H : Int) < 20) :
    Calls Tryd.prog 31 #[.slice (some ⟨b, p, none⟩) (m + 12) (d + 12)] w fun e w' => e = .returned (.tuple #[.agg #[.int .i64 b0, .int .i64 b1, .int .i64 (T : Int), .int .i64 (256 * b4 + b5), .int .i64 (256 * b6 + b7), .int .i64 b8, .int .i64 b9, .int .i64 (256 * b10 + b11)], .iface 71 (.agg #[.string ⟨#[104, 101, 97, 100, 101, 114, 32, 108, 101, 110, 103, 116, 104]⟩, .iface 27 (.int .i64 4)])]) ∧ perr (b0 :: b1 :: b2 :: b3 :: b4 :: b5 :: b6 :: b7 :: b8 :: b9 :: b10 :: b11 :: r) = 4 ∧ Below w.heap.size w w' := by
  have hby := h.2.2.2.1
  have x0 := hby b0 (by simp)
  have hdm := h.2.1
  have hdx := h.2.2.1
  have PE : Hid (perr (b0 :: b1 :: b2 :: b3 :: b4 :: b5 :: b6 :: b7 :: b8 :: b9 :: b10 :: b11 :: r) = 4) := Lib.hid (by rw [perr_eq m b0 b1 b2 b3 b4 b5 b6 b7 b8 b9 b10 b11 r (by have := h.1; simpa using this) H T hH hT, if_neg (by omega), if_neg (by simpa using q1), if_pos q2])
  unfold maxLen at hdx
  have R := Lib.hid (read_after b p m d b0 b1 b2 b3 b4 b5 b6 b7 b8 b9 b10 b11 r w B hB h hm T hT)
  have SZ := Lib.hid (fun W (hc : W.cell? ⟨w.heap.size + 1, 0, none⟩ = some (.int .i64 b0)) => size_any (w.heap.size + 1) b0 H W x0.1 x0.2 hH hc)
  have hHx : (H : Int) ≤ 60 := by omega
  clear h hby hH hT
  go_enter Tryd.func31, Tryd.ntmps31
  go_wp2_with fail
  refine R.out.mono ?_
  rintro e w1 ⟨rfl, a1⟩
  have c0 : w1.cell? ⟨w.heap.size + 1, 0, none⟩ = some (.int .i64 b0) := (a1.var.cell 0).trans rfl
  have c2 : w1.cell? ⟨w.heap.size + 1, 2, none⟩ = some (.int .i64 (T : Int)) := (a1.var.cell 2).trans rfl
  have c4 : w1.cell? ⟨w.heap.size + 1, 4, none⟩ = some (.int .i64 (256 * b6 + b7)) := (a1.var.cell 4).trans rfl
  have A1 := Lib.hid a1
  clear a1 R
  go_wp2_with (first
    | (go_at_call 32; refine (SZ.out _ c0).mono ?_; rintro e w' ⟨rfl, hw⟩; obtain rfl := hw.symm)
    | (refine wpList_load_row rfl _ _ rfl (w.heap.size + 1) rfl 49 #[.int .i64 b0, .int .i64 b1, .int .i64 (T : Int), .int .i64 (256 * b4 + b5), .int .i64 (256 * b6 + b7), .int .i64 b8, .int .i64 b9, .int .i64 (256 * b10 + b11)] (0, 0) _ A1.out.var (Tryd.underlying49) rfl (by kernel_rfl) ?_)
    | (refine wpList_store_row rfl _ _ _ rfl w.heap.size #[.int .i64 b0, .int .i64 b1, .int .i64 (T : Int), .int .i64 (256 * b4 + b5), .int .i64 (256 * b6 + b7), .int .i64 b8, .int .i64 b9, .int .i64 (256 * b10 + b11)] rfl rfl 49 _ A1.out.res (by kernel_rfl) rfl (one8 _ _ _ _ _ _ _ _) ?_))
  refine bodyPost_ret (results_pair rfl _ _ w.heap.size 49 #[.int .i64 b0, .int .i64 b1, .int .i64 (T : Int), .int .i64 (256 * b4 + b5), .int .i64 (256 * b6 + b7), .int .i64 b8, .int .i64 b9, .int .i64 (256 * b10 + b11)] (0, 0) _ _ rfl rfl (setRow_heap _ _ _ _ _ _ A1.out.res) Tryd.underlying49 rfl (by kernel_rfl)) rfl ?_
  exact ⟨rfl, PE.out, below_setRow A1.out.bel (Nat.le_refl _) _⟩

set_option maxHeartbeats 1000000 in
set_option maxRecDepth 100000 in
theorem decode_data1 (b p m d : Nat) (b0 b1 b2 b3 b4 b5 b6 b7 b8 b9 b10 b11 : Int) (r : List Int) (w : World) (B : Nat) (hB : B ≤ w.heap.size)
    (h : Holds w B (some ⟨b, p, none⟩) (m + 12) (d + 12) (b0 :: b1 :: b2 :: b3 :: b4 :: b5 :: b6 :: b7 :: b8 :: b9 :: b10 :: b11 :: r)) (hm : 8 ≤ m) (hn : m ≤ 65536 - 12)
    (H T : Nat) (hH : b0 % 16 * 4 = (H : Int)) (hT : 256 * b2 + b3 = (T : Int)) (q1 : b0 / 16 = 4) (q2 : 20 ≤ (H : Int)) (q3 : (m : Int) + 12 < (H : Int)) :
    Calls Tryd.prog 31 #[.slice (some ⟨b, p, none⟩) (m + 12) (d + 12)] w fun e w' => e = .returned (.tuple #[.agg #[.int .i64 b0, .int .i64 b1, .int .i64 (T : Int), .int .i64 (256 * b4 + b5), .int .i64 (256 * b6 + b7), .int .i64 b8, .int .i64 b9, .int .i64 (256 * b10 + b11)], .iface 71 (.agg #[.string ⟨#[100, 97, 116, 97]⟩, .iface 27 (.int .i64 8)])]) ∧ perr (b0 :: b1 :: b2 :: b3 :: b4 :: b5 :: b6 :: b7 :: b8 :: b9 :: b10 :: b11 :: r) = 8 ∧ Below w.heap.size w w' := by
  have hby := h.2.2.2.1
  have x0 := hby b0 (by simp)
  have hdm := h.2.1
  have hdx := h.2.2.1
  have PE : Hid (perr (b0 :: b1 :: b2 :: b3 :: b4 :: b5 :: b6 :: b7 :: b8 :: b9 :: b10 :: b11 :: r) = 8) := Lib.hid (by rw [perr_eq m b0 b1 b2 b3 b4 b5 b6 b7 b8 b9 b10 b11 r (by have := h.1; simpa using this) H T hH hT, if_neg (by omega), if_neg (by simpa using q1), if_neg (by omega), if_pos (by omega)])
  unfold maxLen at hdx
  have R := Lib.hid (read_after b p m d b0 b1 b2 b3 b4 b5 b6 b7 b8 b9 b10 b11 r w B hB h hm T hT)
  have SZ := Lib.hid (fun W (hc : W.cell? ⟨w.heap.size + 1, 0, none⟩ = some (.int .i64 b0)) => size_any (w.heap.size + 1) b0 H W x0.1 x0.2 hH hc)
  have hHx : (H : Int) ≤ 60 := by omega
  clear h hby hH hT
  go_enter Tryd.func31, Tryd.ntmps31
  go_wp2_with fail
  refine R.out.mono ?_
  rintro e w1 ⟨rfl, a1⟩
  have c0 : w1.cell? ⟨w.heap.size + 1, 0, none⟩ = some (.int .i64 b0) := (a1.var.cell 0).trans rfl
  have c2 : w1.cell? ⟨w.heap.size + 1, 2, none⟩ = some (.int .i64 (T : Int)) := (a1.var.cell 2).trans rfl
  have c4 : w1.cell? ⟨w.heap.size + 1, 4, none⟩ = some (.int .i64 (256 * b6 + b7)) := (a1.var.cell 4).trans rfl
  have A1 := Lib.hid a1
  clear a1 R
  go_wp2_with (first
    | (go_at_call 32; refine (SZ.out _ c0).mono ?_; rintro e w' ⟨rfl, hw⟩; obtain rfl := hw.symm)
    | (refine wpList_load_row rfl _ _ rfl (w.heap.size + 1) rfl 49 #[.int .i64 b0, .int .i64 b1, .int .i64 (T : Int), .int .i64 (256 * b4 + b5), .int .i64 (256 * b6 + b7), .int .i64 b8, .int .i64 b9, .int .i64 (256 * b10 + b11)] (0, 0) _ A1.out.var (Tryd.underlying49) rfl (by kernel_rfl) ?_)
    | (refine wpList_store_row rfl _ _ _ rfl w.heap.size #[.int .i64 b0, .int .i64 b1, .int .i64 (T : Int), .int .i64 (256 * b4 + b5), .int .i64 (256 * b6 + b7), .int .i64 b8, .int .i64 b9, .int .i64 (256 * b10 + b11)] rfl rfl 49 _ A1.out.res (by kernel_rfl) rfl (one8 _ _ _ _ _ _ _ _) ?_))
  refine bodyPost_ret (results_pair rfl _ _ w.heap.size 49 #[.int .i64 b0, .int .i64 b1, .int .i64 (T : Int), .int .i64 (256 * b4 + b5), .int .i64 (256 * b6 + b7), .int .i64 b8, .int .i64 b9, .int .i64 (256 * b10 + b11)] (0, 0) _ _ rfl rfl (setRow_heap _ _ _ _ _ _ A1.out.res) Tryd.underlying49 rfl (by kernel_rfl)) rfl ?_
  exact ⟨rfl, PE.out, below_setRow A1.out.bel (Nat.le_refl _) _⟩

set_option maxHeartbeats 1000000 in
set_option maxRecDepth 100000 in
theorem decode_data2 (b p m d : Nat) (b0 b1 b2 b3 b4 b5 b6 b7 b8 b9 b10 b11 : Int) (r : List Int) (w : World) (B : Nat) (hB : B ≤ w.heap.size)
    (h : Holds w B (some ⟨b, p, none⟩) (m + 12) (d + 12) (b0 :: b1 :: b2 :: b3 :: b4 :: b5 :: b6 :: b7 :: b8 :: b9 :: b10 :: b11 :: r)) (hm : 8 ≤ m) (hn : m ≤ 65536 - 12)
    (H T : Nat) (hH : b0 % 16 * 4 = (H : Int)) (hT : 256 * b2 + b3 = (T : Int)) (q1 : b0 / 16 = 4) (q2 : 20 ≤ (H : Int)) (q3 : (H : Int) ≤ (m : Int) + 12) (q4 : (m : Int) + 12 < (T : Int)) :
    Calls Tryd.prog 31 #[.slice (some ⟨b, p, none⟩) (m + 12) (d + 12)] w fun e w' => e = .returned (.tuple #[.agg #[.int .i64 b0, .int .i64 b1, .int .i64 (T : Int), .int .i64 (256 * b4 + b5), .int .i64 (256 * b6 + b7), .int .i64 b8, .int .i64 b9, .int .i64 (256 * b10 + b11)], .iface 71 (.agg #[.string ⟨#[100, 97, 116, 97]⟩, .iface 27 (.int .i64 8)])]) ∧ perr (b0 :: b1 :: b2 :: b3 :: b4 :: b5 :: b6 :: b7 :: b8 :: b9 :: b10 :: b11 :: r) = 8 ∧ Below w.heap.size w w' := by
  have hby := h.2.2.2.1
  have x0 := hby b0 (by simp)
  have hdm := h.2.1
  have hdx := h.2.2.1
  have PE : Hid (perr (b0 :: b1 :: b2 :: b3 :: b4 :: b5 :: b6 :: b7 :: b8 :: b9 :: b10 :: b11 :: r) = 8) := Lib.hid (by rw [perr_eq m b0 b1 b2 b3 b4 b5 b6 b7 b8 b9 b10 b11 r (by have := h.1; simpa using this) H T hH hT, if_neg (by omega), if_neg (by simpa using q1), if_neg (by omega), if_neg (by omega), if_pos (by omega)])
  unfold maxLen at hdx
  have R := Lib.hid (read_after b p m d b0 b1 b2 b3 b4 b5 b6 b7 b8 b9 b10 b11 r w B hB h hm T hT)
  have SZ := Lib.hid (fun W (hc : W.cell? ⟨w.heap.size + 1, 0, none⟩ = some (.int .i64 b0)) => size_any (w.heap.size + 1) b0 H W x0.1 x0.2 hH hc)
  have hHx : (H : Int) ≤ 60 := by omega
  clear h hby hH hT
  go_enter Tryd.func31, Tryd.ntmps31
  go_wp2_with fail
  refine R.out.mono ?_
  rintro e w1 ⟨rfl, a1⟩
  have c0 : w1.cell? ⟨w.heap.size + 1, 0, none⟩ = some (.int .i64 b0) := (a1.var.cell 0).trans rfl
  have c2 : w1.cell? ⟨w.heap.size + 1, 2, none⟩ = some (.int .i64 (T : Int)) := (a1.var.cell 2).trans rfl
  have c4 : w1.cell? ⟨w.heap.size + 1, 4, none⟩ = some (.int .i64 (256 * b6 + b7)) := (a1.var.cell 4).trans rfl
  have A1 := Lib.hid a1
  clear a1 R
  go_wp2_with (first
    | (go_at_call 32; refine (SZ.out _ c0).mono ?_; rintro e w' ⟨rfl, hw⟩; obtain rfl := hw.symm)
    | (refine wpList_load_row rfl _ _ rfl (w.heap.size + 1) rfl 49 #[.int .i64 b0, .int .i64 b1, .int .i64 (T : Int), .int .i64 (256 * b4 + b5), .int .i64 (256 * b6 + b7), .int .i64 b8, .int .i64 b9, .int .i64 (256 * b10 + b11)] (0, 0) _ A1.out.var (Tryd.underlying49) rfl (by kernel_rfl) ?_)
    | (refine wpList_store_row rfl _ _ _ rfl w.heap.size #[.int .i64 b0, .int .i64 b1, .int .i64 (T : Int), .int .i64 (256 * b4 + b5), .int .i64 (256 * b6 + b7), .int .i64 b8, .int .i64 b9, .int .i64 (256 * b10 + b11)] rfl rfl 49 _ A1.out.res (by kernel_rfl) rfl (one8 _ _ _ _ _ _ _ _) ?_))
  refine bodyPost_ret (results_pair rfl _ _ w.heap.size 49 #[.int .i64 b0, .int .i64 b1, .int .i64 (T : Int), .int .i64 (256 * b4 + b5), .int .i64 (256 * b6 + b7), .int .i64 b8, .int .i64 b9, .int .i64 (256 * b10 + b11)] (0, 0) _ _ rfl rfl (setRow_heap _ _ _ _ _ _ A1.out.res) Tryd.underlying49 rfl (by kernel_rfl)) rfl ?_
  exact ⟨rfl, PE.out, below_setRow A1.out.bel (Nat.le_refl _) _⟩

set_option maxHeartbeats 1000000 in
set_option maxRecDepth 100000 in
theorem decode_tot1 (b p m d : Nat) (b0 b1 b2 b3 b4 b5 b6 b7 b8 b9 b10 b11 : Int) (r : List Int) (w : World) (B : Nat) (hB : B ≤ w.heap.size)
    (h : Holds w B (some ⟨b, p, none⟩) (m + 12) (d + 12) (b0 :: b1 :: b2 :: b3 :: b4 :: b5 :: b6 :: b7 :: b8 :: b9 :: b10 :: b11 :: r)) (hm : 8 ≤ m) (hn : m ≤ 65536 - 12)
    (H T : Nat) (hH : b0 % 16 * 4 = (H : Int)) (hT : 256 * b2 + b3 = (T : Int)) (q1 : b0 / 16 = 4) (q2 : 20 ≤ (H : Int)) (q3 : (H : Int) ≤ (m : Int) + 12) (q4 : (T : Int) ≤ (m : Int) + 12) (q5 : (T : Int) < (H : Int)) :
    Calls Tryd.prog 31 #[.slice (some ⟨b, p, none⟩) (m + 12) (d + 12)] w fun e w' => e = .returned (.tuple #[.agg #[.int .i64 b0, .int .i64 b1, .int .i64 (T : Int), .int .i64 (256 * b4 + b5), .int .i64 (256 * b6 + b7), .int .i64 b8, .int .i64 b9, .int .i64 (256 * b10 + b11)], .iface 71 (.agg #[.string ⟨#[116, 111, 116, 97, 108, 32, 108, 101, 110, 103, 116, 104]⟩, .iface 27 (.int .i64 4)])]) ∧ perr (b0 :: b1 :: b2 :: b3 :: b4 :: b5 :: b6 :: b7 :: b8 :: b9 :: b10 :: b11 :: r) = 4 ∧ Below w.heap.size w w' := by
  have hby := h.2.2.2.1
  have x0 := hby b0 (by simp)
  have hdm := h.2.1
  have hdx := h.2.2.1
  have PE : Hid (perr (b0 :: b1 :: b2 :: b3 :: b4 :: b5 :: b6 :: b7 :: b8 :: b9 :: b10 :: b11 :: r) = 4) := Lib.hid (by rw [perr_eq m b0 b1 b2 b3 b4 b5 b6 b7 b8 b9 b10 b11 r (by have := h.1; simpa using this) H T hH hT, if_neg (by omega), if_neg (by simpa using q1), if_neg (by omega), if_neg (by omega), if_neg (by omega), if_pos (by omega)])
  unfold maxLen at hdx
  have R := Lib.hid (read_after b p m d b0 b1 b2 b3 b4 b5 b6 b7 b8 b9 b10 b11 r w B hB h hm T hT)
  have SZ := Lib.hid (fun W (hc : W.cell? ⟨w.heap.size + 1, 0, none⟩ = some (.int .i64 b0)) => size_any (w.heap.size + 1) b0 H W x0.1 x0.2 hH hc)
  have hHx : (H : Int) ≤ 60 := by omega
  clear h hby hH hT
  go_enter Tryd.func31, Tryd.ntmps31
  go_wp2_with fail
  refine R.out.mono ?_
  rintro e w1 ⟨rfl, a1⟩
  have c0 : w1.cell? ⟨w.heap.size + 1, 0, none⟩ = some (.int .i64 b0) := (a1.var.cell 0).trans rfl
  have c2 : w1.cell? ⟨w.heap.size + 1, 2, none⟩ = some (.int .i64 (T : Int)) := (a1.var.cell 2).trans rfl
  have c4 : w1.cell? ⟨w.heap.size + 1, 4, none⟩ = some (.int .i64 (256 * b6 + b7)) := (a1.var.cell 4).trans rfl
  have A1 := Lib.hid a1
  clear a1 R
  go_wp2_with (go_at_call 32; refine (SZ.out _ c0).mono ?_; rintro e w' ⟨rfl, hw⟩; obtain rfl := hw.symm)
  have d5 : decide (T < H) = true := by simp; omega
  have CZ := Lib.hid (fun k : Nat => SZ.out (w1.drewN k) c0)
  go_quiet ((go_at_call 32; exact Calls.quiet_of_same (CZ.out _)))
  have A2 := Lib.hid (A1.out.drewN nq)
  clear CZ A1 c0 c2 c4 d5
  generalize w1.drewN nq = w2 at *
  have c0 : w2.cell? ⟨w.heap.size + 1, 0, none⟩ = some (.int .i64 b0) := (A2.out.var.cell 0).trans rfl
  have c2 : w2.cell? ⟨w.heap.size + 1, 2, none⟩ = some (.int .i64 (T : Int)) := (A2.out.var.cell 2).trans rfl
  have c4 : w2.cell? ⟨w.heap.size + 1, 4, none⟩ = some (.int .i64 (256 * b6 + b7)) := (A2.out.var.cell 4).trans rfl
  go_wp2_with (first
    | (go_at_call 32; refine (SZ.out _ c0).mono ?_; rintro e w' ⟨rfl, hw⟩; obtain rfl := hw.symm)
    | (refine wpList_load_row rfl _ _ rfl (w.heap.size + 1) rfl 49 #[.int .i64 b0, .int .i64 b1, .int .i64 (T : Int), .int .i64 (256 * b4 + b5), .int .i64 (256 * b6 + b7), .int .i64 b8, .int .i64 b9, .int .i64 (256 * b10 + b11)] (0, 0) _ A2.out.var (Tryd.underlying49) rfl (by kernel_rfl) ?_)
    | (refine wpList_store_row rfl _ _ _ rfl w.heap.size #[.int .i64 b0, .int .i64 b1, .int .i64 (T : Int), .int .i64 (256 * b4 + b5), .int .i64 (256 * b6 + b7), .int .i64 b8, .int .i64 b9, .int .i64 (256 * b10 + b11)] rfl rfl 49 _ A2.out.res (by kernel_rfl) rfl (one8 _ _ _ _ _ _ _ _) ?_))
  refine bodyPost_ret (results_pair rfl _ _ w.heap.size 49 #[.int .i64 b0, .int .i64 b1, .int .i64 (T : Int), .int .i64 (256 * b4 + b5), .int .i64 (256 * b6 + b7), .int .i64 b8, .int .i64 b9, .int .i64 (256 * b10 + b11)] (0, 0) _ _ rfl rfl (setRow_heap _ _ _ _ _ _ A2.out.res) Tryd.underlying49 rfl (by kernel_rfl)) rfl ?_
  exact ⟨rfl, PE.out, below_setRow A2.out.bel (Nat.le_refl _) _⟩

set_option maxHeartbeats 1000000 in
set_option maxRecDepth 100000 in
theorem decode_tot2 (b p m d : Nat) (b0 b1 b2 b3 b4 b5 b6 b7 b8 b9 b10 b11 : Int) (r : List Int) (w : World) (B : Nat) (hB : B ≤ w.heap.size)
    (h : Holds w B (some ⟨b, p, none⟩) (m + 12) (d + 12) (b0 :: b1 :: b2 :: b3 :: b4 :: b5 :: b6 :: b7 :: b8 :: b9 :: b10 :: b11 :: r)) (hm : 8 ≤ m) (hn : m ≤ 65536 - 12)
    (H T : Nat) (hH : b0 % 16 * 4 = (H : Int)) (hT : 256 * b2 + b3 = (T : Int)) (q1 : b0 / 16 = 4) (q2 : 20 ≤ (H : Int)) (q3 : (H : Int) ≤ (m : Int) + 12) (q4 : (T : Int) ≤ (m : Int) + 12) (q5 : (H : Int) ≤ (T : Int)) (q6 : (T : Int) < (m : Int) + 12) :
    Calls Tryd.prog 31 #[.slice (some ⟨b, p, none⟩) (m + 12) (d + 12)] w fun e w' => e = .returned (.tuple #[.agg #[.int .i64 b0, .int .i64 b1, .int .i64 (T : Int), .int .i64 (256 * b4 + b5), .int .i64 (256 * b6 + b7), .int .i64 b8, .int .i64 b9, .int .i64 (256 * b10 + b11)], .iface 71 (.agg #[.string ⟨#[116, 111, 116, 97, 108, 32, 108, 101, 110, 103, 116, 104]⟩, .iface 27 (.int .i64 4)])]) ∧ perr (b0 :: b1 :: b2 :: b3 :: b4 :: b5 :: b6 :: b7 :: b8 :: b9 :: b10 :: b11 :: r) = 4 ∧ Below w.heap.size w w' := by
  have hby := h.2.2.2.1
  have x0 := hby b0 (by simp)
  have hdm := h.2.1
  have hdx := h.2.2.1
  have PE : Hid (perr (b0 :: b1 :: b2 :: b3 :: b4 :: b5 :: b6 :: b7 :: b8 :: b9 :: b10 :: b11 :: r) = 4) := Lib.hid (by rw [perr_eq m b0 b1 b2 b3 b4 b5 b6 b7 b8 b9 b10 b11 r (by have := h.1; simpa using this) H T hH hT, if_neg (by omega), if_neg (by simpa using q1), if_neg (by omega), if_neg (by omega), if_neg (by omega), if_neg (by omega), if_pos (by omega)])
  unfold maxLen at hdx
  have R := Lib.hid (read_after b p m d b0 b1 b2 b3 b4 b5 b6 b7 b8 b9 b10 b11 r w B hB h hm T hT)
  have SZ := Lib.hid (fun W (hc : W.cell? ⟨w.heap.size + 1, 0, none⟩ = some (.int .i64 b0)) => size_any (w.heap.size + 1) b0 H W x0.1 x0.2 hH hc)
  have hHx : (H : Int) ≤ 60 := by omega
  clear h hby hH hT
  go_enter Tryd.func31, Tryd.ntmps31
  go_wp2_with fail
  refine R.out.mono ?_
  rintro e w1 ⟨rfl, a1⟩
  have c0 : w1.cell? ⟨w.heap.size + 1, 0, none⟩ = some (.int .i64 b0) := (a1.var.cell 0).trans rfl
  have c2 : w1.cell? ⟨w.heap.size + 1, 2, none⟩ = some (.int .i64 (T : Int)) := (a1.var.cell 2).trans rfl
  have c4 : w1.cell? ⟨w.heap.size + 1, 4, none⟩ = some (.int .i64 (256 * b6 + b7)) := (a1.var.cell 4).trans rfl
  have A1 := Lib.hid a1
  clear a1 R
  go_wp2_with (go_at_call 32; refine (SZ.out _ c0).mono ?_; rintro e w' ⟨rfl, hw⟩; obtain rfl := hw.symm)
  have d5 : decide (T < H) = false := by simp; omega
  have d6 : decide ((T : Int) < (m : Int) + 12) = true := by simp; omega
  have d7 : decide (T < m + 12) = true := by simp; omega
  have CZ := Lib.hid (fun k : Nat => SZ.out (w1.drewN k) c0)
  go_quiet ((go_at_call 32; exact Calls.quiet_of_same (CZ.out _)))
  have A2 := Lib.hid (A1.out.drewN nq)
  clear CZ A1 c0 c2 c4 d5 d6 d7
  generalize w1.drewN nq = w2 at *
  have c0 : w2.cell? ⟨w.heap.size + 1, 0, none⟩ = some (.int .i64 b0) := (A2.out.var.cell 0).trans rfl
  have c2 : w2.cell? ⟨w.heap.size + 1, 2, none⟩ = some (.int .i64 (T : Int)) := (A2.out.var.cell 2).trans rfl
  have c4 : w2.cell? ⟨w.heap.size + 1, 4, none⟩ = some (.int .i64 (256 * b6 + b7)) := (A2.out.var.cell 4).trans rfl
  go_wp2_with (first
    | (go_at_call 32; refine (SZ.out _ c0).mono ?_; rintro e w' ⟨rfl, hw⟩; obtain rfl := hw.symm)
    | (refine wpList_load_row rfl _ _ rfl (w.heap.size + 1) rfl 49 #[.int .i64 b0, .int .i64 b1, .int .i64 (T : Int), .int .i64 (256 * b4 + b5), .int .i64 (256 * b6 + b7), .int .i64 b8, .int .i64 b9, .int .i64 (256 * b10 + b11)] (0, 0) _ A2.out.var (Tryd.underlying49) rfl (by kernel_rfl) ?_)
    | (refine wpList_store_row rfl _ _ _ rfl w.heap.size #[.int .i64 b0, .int .i64 b1, .int .i64 (T : Int), .int .i64 (256 * b4 + b5), .int .i64 (256 * b6 + b7), .int .i64 b8, .int .i64 b9, .int .i64 (256 * b10 + b11)] rfl rfl 49 _ A2.out.res (by kernel_rfl) rfl (one8 _ _ _ _ _ _ _ _) ?_))
  refine bodyPost_ret (results_pair rfl _ _ w.heap.size 49 #[.int .i64 b0, .int .i64 b1, .int .i64 (T : Int), .int .i64 (256 * b4 + b5), .int .i64 (256 * b6 + b7), .int .i64 b8, .int .i64 b9, .int .i64 (256 * b10 + b11)] (0, 0) _ _ rfl rfl (setRow_heap _ _ _ _ _ _ A2.out.res) Tryd.underlying49 rfl (by kernel_rfl)) rfl ?_
  exact ⟨rfl, PE.out, below_setRow A2.out.bel (Nat.le_refl _) _⟩

set_option maxHeartbeats 1000000 in
set_option maxRecDepth 100000 in
theorem decode_res (b p m d : Nat) (b0 b1 b2 b3 b4 b5 b6 b7 b8 b9 b10 b11 : Int) (r : List Int) (w : World) (B : Nat) (hB : B ≤ w.heap.size)
    (h : Holds w B (some ⟨b, p, none⟩) (m + 12) (d + 12) (b0 :: b1 :: b2 :: b3 :: b4 :: b5 :: b6 :: b7 :: b8 :: b9 :: b10 :: b11 :: r)) (hm : 8 ≤ m) (hn : m ≤ 65536 - 12)
    (H T : Nat) (hH : b0 % 16 * 4 = (H : Int)) (hT : 256 * b2 + b3 = (T : Int)) (q1 : b0 / 16 = 4) (q2 : 20 ≤ (H : Int)) (q3 : (H : Int) ≤ (m : Int) + 12) (q4 : (T : Int) ≤ (m : Int) + 12) (q5 : (H : Int) ≤ (T : Int)) (q6 : (m : Int) + 12 ≤ (T : Int)) (q7 : bits .and .i64 (256 * b6 + b7) 32768 = 32768) (q8 : 32768 ≤ 256 * b6 + b7) :
    Calls Tryd.prog 31 #[.slice (some ⟨b, p, none⟩) (m + 12) (d + 12)] w fun e w' => e = .returned (.tuple #[.agg #[.int .i64 b0, .int .i64 b1, .int .i64 (T : Int), .int .i64 (256 * b4 + b5), .int .i64 (256 * b6 + b7), .int .i64 b8, .int .i64 b9, .int .i64 (256 * b10 + b11)], .iface 71 (.agg #[.string ⟨#[114, 101, 115, 101, 114, 118, 101, 100, 32, 98, 105, 116]⟩, .iface 27 (.int .i64 4)])]) ∧ perr (b0 :: b1 :: b2 :: b3 :: b4 :: b5 :: b6 :: b7 :: b8 :: b9 :: b10 :: b11 :: r) = 4 ∧ Below w.heap.size w w' := by
  have hby := h.2.2.2.1
  have x0 := hby b0 (by simp)
  have hdm := h.2.1
  have hdx := h.2.2.1
  have PE : Hid (perr (b0 :: b1 :: b2 :: b3 :: b4 :: b5 :: b6 :: b7 :: b8 :: b9 :: b10 :: b11 :: r) = 4) := Lib.hid (by rw [perr_eq m b0 b1 b2 b3 b4 b5 b6 b7 b8 b9 b10 b11 r (by have := h.1; simpa using this) H T hH hT, if_neg (by omega), if_neg (by simpa using q1), if_neg (by omega), if_neg (by omega), if_neg (by omega), if_neg (by omega), if_neg (by omega), if_pos q8])
  unfold maxLen at hdx
  have R := Lib.hid (read_after b p m d b0 b1 b2 b3 b4 b5 b6 b7 b8 b9 b10 b11 r w B hB h hm T hT)
  have SZ := Lib.hid (fun W (hc : W.cell? ⟨w.heap.size + 1, 0, none⟩ = some (.int .i64 b0)) => size_any (w.heap.size + 1) b0 H W x0.1 x0.2 hH hc)
  have hHx : (H : Int) ≤ 60 := by omega
  clear h hby hH hT
  go_enter Tryd.func31, Tryd.ntmps31
  go_wp2_with fail
  refine R.out.mono ?_
  rintro e w1 ⟨rfl, a1⟩
  have c0 : w1.cell? ⟨w.heap.size + 1, 0, none⟩ = some (.int .i64 b0) := (a1.var.cell 0).trans rfl
  have c2 : w1.cell? ⟨w.heap.size + 1, 2, none⟩ = some (.int .i64 (T : Int)) := (a1.var.cell 2).trans rfl
  have c4 : w1.cell? ⟨w.heap.size + 1, 4, none⟩ = some (.int .i64 (256 * b6 + b7)) := (a1.var.cell 4).trans rfl
  have A1 := Lib.hid a1
  clear a1 R
  go_wp2_with (go_at_call 32; refine (SZ.out _ c0).mono ?_; rintro e w' ⟨rfl, hw⟩; obtain rfl := hw.symm)
  have d5 : decide (T < H) = false := by simp; omega
  have d6 : decide ((T : Int) < (m : Int) + 12) = false := by simp; omega
  have d7 : decide (T < m + 12) = false := by simp; omega
  have CZ := Lib.hid (fun k : Nat => SZ.out (w1.drewN k) c0)
  go_quiet ((go_at_call 32; exact Calls.quiet_of_same (CZ.out _)))
  have A2 := Lib.hid (A1.out.drewN nq)
  clear CZ A1 c0 c2 c4 d5 d6 d7
  generalize w1.drewN nq = w2 at *
  have c0 : w2.cell? ⟨w.heap.size + 1, 0, none⟩ = some (.int .i64 b0) := (A2.out.var.cell 0).trans rfl
  have c2 : w2.cell? ⟨w.heap.size + 1, 2, none⟩ = some (.int .i64 (T : Int)) := (A2.out.var.cell 2).trans rfl
  have c4 : w2.cell? ⟨w.heap.size + 1, 4, none⟩ = some (.int .i64 (256 * b6 + b7)) := (A2.out.var.cell 4).trans rfl
  go_wp2_with (first
    | (go_at_call 32; refine (SZ.out _ c0).mono ?_; rintro e w' ⟨rfl, hw⟩; obtain rfl := hw.symm)
    | (refine wpList_load_row rfl _ _ rfl (w.heap.size + 1) rfl 49 #[.int .i64 b0, .int .i64 b1, .int .i64 (T : Int), .int .i64 (256 * b4 + b5), .int .i64 (256 * b6 + b7), .int .i64 b8, .int .i64 b9, .int .i64 (256 * b10 + b11)] (0, 0) _ A2.out.var (Tryd.underlying49) rfl (by kernel_rfl) ?_)
    | (refine wpList_store_row rfl _ _ _ rfl w.heap.size #[.int .i64 b0, .int .i64 b1, .int .i64 (T : Int), .int .i64 (256 * b4 + b5), .int .i64 (256 * b6 + b7), .int .i64 b8, .int .i64 b9, .int .i64 (256 * b10 + b11)] rfl rfl 49 _ A2.out.res (by kernel_rfl) rfl (one8 _ _ _ _ _ _ _ _) ?_))
  refine bodyPost_ret (results_pair rfl _ _ w.heap.size 49 #[.int .i64 b0, .int .i64 b1, .int .i64 (T : Int), .int .i64 (256 * b4 + b5), .int .i64 (256 * b6 + b7), .int .i64 b8, .int .i64 b9, .int .i64 (256 * b10 + b11)] (0, 0) _ _ rfl rfl (setRow_heap _ _ _ _ _ _ A2.out.res) Tryd.underlying49 rfl (by kernel_rfl)) rfl ?_
  exact ⟨rfl, PE.out, below_setRow A2.out.bel (Nat.le_refl _) _⟩

set_option maxHeartbeats 1000000 in
set_option maxRecDepth 100000 in
theorem decode_sum (b p m d : Nat) (b0 b1 b2 b3 b4 b5 b6 b7 b8 b9 b10 b11 : Int) (r : List Int) (w : World) (B : Nat) (hB : B ≤ w.heap.size)
    (h : Holds w B (some ⟨b, p, none⟩) (m + 12) (d + 12) (b0 :: b1 :: b2 :: b3 :: b4 :: b5 :: b6 :: b7 :: b8 :: b9 :: b10 :: b11 :: r)) (hm : 8 ≤ m) (hn : m ≤ 65536 - 12)
    (H T : Nat) (hH : b0 % 16 * 4 = (H : Int)) (hT : 256 * b2 + b3 = (T : Int)) (q1 : b0 / 16 = 4) (q2 : 20 ≤ (H : Int)) (q3 : (H : Int) ≤ (m : Int) + 12) (q4 : (T : Int) ≤ (m : Int) + 12) (q5 : (H : Int) ≤ (T : Int)) (q6 : (m : Int) + 12 ≤ (T : Int)) (q7 : bits .and .i64 (256 * b6 + b7) 32768 = 0) (q8 : 256 * b6 + b7 < 32768) (S : Int) (q9 : sums 0 ((b0 :: b1 :: b2 :: b3 :: b4 :: b5 :: b6 :: b7 :: b8 :: b9 :: b10 :: b11 :: r).take H) = S) (q10 : (S != 65535) = true) :
    Calls Tryd.prog 31 #[.slice (some ⟨b, p, none⟩) (m + 12) (d + 12)] w fun e w' => e = .returned (.tuple #[.agg #[.int .i64 b0, .int .i64 b1, .int .i64 (T : Int), .int .i64 (256 * b4 + b5), .int .i64 (256 * b6 + b7), .int .i64 b8, .int .i64 b9, .int .i64 (256 * b10 + b11)], .iface 71 (.agg #[.string ⟨#[99, 104, 101, 99, 107, 115, 117, 109]⟩, .iface 27 (.int .i64 5)])]) ∧ perr (b0 :: b1 :: b2 :: b3 :: b4 :: b5 :: b6 :: b7 :: b8 :: b9 :: b10 :: b11 :: r) = 5 ∧ Below w.heap.size w w' := by
  have hby := h.2.2.2.1
  have x0 := hby b0 (by simp)
  have hdm := h.2.1
  have hdx := h.2.2.1
  have PE : Hid (perr (b0 :: b1 :: b2 :: b3 :: b4 :: b5 :: b6 :: b7 :: b8 :: b9 :: b10 :: b11 :: r) = 5) := Lib.hid (by rw [perr_eq m b0 b1 b2 b3 b4 b5 b6 b7 b8 b9 b10 b11 r (by have := h.1; simpa using this) H T hH hT, if_neg (by omega), if_neg (by simpa using q1), if_neg (by omega), if_neg (by omega), if_neg (by omega), if_neg (by omega), if_neg (by omega), if_neg (by omega), if_pos (by rw [q9]; simpa using q10)])
  unfold maxLen at hdx
  have R := Lib.hid (read_after b p m d b0 b1 b2 b3 b4 b5 b6 b7 b8 b9 b10 b11 r w B hB h hm T hT)
  have SZ := Lib.hid (fun W (hc : W.cell? ⟨w.heap.size + 1, 0, none⟩ = some (.int .i64 b0)) => size_any (w.heap.size + 1) b0 H W x0.1 x0.2 hH hc)
  have SM := Lib.hid (fun W (hW : Holds W B (some ⟨b, p, none⟩) (m + 12) (d + 12) (b0 :: b1 :: b2 :: b3 :: b4 :: b5 :: b6 :: b7 :: b8 :: b9 :: b10 :: b11 :: r)) => sum_any (some ⟨b, p, none⟩) H (d + 12) ((b0 :: b1 :: b2 :: b3 :: b4 :: b5 :: b6 :: b7 :: b8 :: b9 :: b10 :: b11 :: r).take H) W B (hW.upto (k := H) (by omega)) (by omega))
  rw [q9] at SM
  have hHx : (H : Int) ≤ 60 := by omega
  clear h hby hH hT q9
  go_enter Tryd.func31, Tryd.ntmps31
  go_wp2_with fail
  refine R.out.mono ?_
  rintro e w1 ⟨rfl, a1⟩
  have c0 : w1.cell? ⟨w.heap.size + 1, 0, none⟩ = some (.int .i64 b0) := (a1.var.cell 0).trans rfl
  have c2 : w1.cell? ⟨w.heap.size + 1, 2, none⟩ = some (.int .i64 (T : Int)) := (a1.var.cell 2).trans rfl
  have c4 : w1.cell? ⟨w.heap.size + 1, 4, none⟩ = some (.int .i64 (256 * b6 + b7)) := (a1.var.cell 4).trans rfl
  have A1 := Lib.hid a1
  clear a1 R
  go_wp2_with (go_at_call 32; refine (SZ.out _ c0).mono ?_; rintro e w' ⟨rfl, hw⟩; obtain rfl := hw.symm)
  have d5 : decide (T < H) = false := by simp; omega
  have d6 : decide ((T : Int) < (m : Int) + 12) = false := by simp; omega
  have d7 : decide (T < m + 12) = false := by simp; omega
  have CZ := Lib.hid (fun k : Nat => SZ.out (w1.drewN k) c0)
  go_quiet ((go_at_call 32; exact Calls.quiet_of_same (CZ.out _)))
  have A2 := Lib.hid (A1.out.drewN nq)
  clear CZ A1 c0 c2 c4 d5 d6 d7
  generalize w1.drewN nq = w2 at *
  have c0 : w2.cell? ⟨w.heap.size + 1, 0, none⟩ = some (.int .i64 b0) := (A2.out.var.cell 0).trans rfl
  have c2 : w2.cell? ⟨w.heap.size + 1, 2, none⟩ = some (.int .i64 (T : Int)) := (A2.out.var.cell 2).trans rfl
  have c4 : w2.cell? ⟨w.heap.size + 1, 4, none⟩ = some (.int .i64 (256 * b6 + b7)) := (A2.out.var.cell 4).trans rfl
  go_wp2_with (first
    | (go_at_call 32; refine (SZ.out _ c0).mono ?_; rintro e w' ⟨rfl, hw⟩; obtain rfl := hw.symm)
    | (refine wpList_load_row rfl _ _ rfl (w.heap.size + 1) rfl 49 #[.int .i64 b0, .int .i64 b1, .int .i64 (T : Int), .int .i64 (256 * b4 + b5), .int .i64 (256 * b6 + b7), .int .i64 b8, .int .i64 b9, .int .i64 (256 * b10 + b11)] (0, 0) _ A2.out.var (Tryd.underlying49) rfl (by kernel_rfl) ?_)
    | (refine wpList_store_row rfl _ _ _ rfl w.heap.size #[.int .i64 b0, .int .i64 b1, .int .i64 (T : Int), .int .i64 (256 * b4 + b5), .int .i64 (256 * b6 + b7), .int .i64 b8, .int .i64 b9, .int .i64 (256 * b10 + b11)] rfl rfl 49 _ A2.out.res (by kernel_rfl) rfl (one8 _ _ _ _ _ _ _ _) ?_)
    | (go_at_call 21; refine (SM.out _ A2.out.row).mono ?_; rintro e w' ⟨rfl, rfl⟩))
  refine bodyPost_ret (results_pair rfl _ _ w.heap.size 49 #[.int .i64 b0, .int .i64 b1, .int .i64 (T : Int), .int .i64 (256 * b4 + b5), .int .i64 (256 * b6 + b7), .int .i64 b8, .int .i64 b9, .int .i64 (256 * b10 + b11)] (0, 0) _ _ rfl rfl (setRow_heap _ _ _ _ _ _ A2.out.res) Tryd.underlying49 rfl (by kernel_rfl)) rfl ?_
  exact ⟨rfl, PE.out, below_setRow A2.out.bel (Nat.le_refl _) _⟩

set_option maxHeartbeats 1000000 in
set_option maxRecDepth 100000 in
theorem decode_ok (b p m d : Nat) (b0 b1 b2 b3 b4 b5 b6 b7 b8 b9 b10 b11 : Int) (r : List Int) (w : World) (B : Nat) (hB : B ≤ w.heap.size)
    (h : Holds w B (some ⟨b, p, none⟩) (m + 12) (d + 12) (b0 :: b1 :: b2 :: b3 :: b4 :: b5 :: b6 :: b7 :: b8 :: b9 :: b10 :: b11 :: r)) (hm : 8 ≤ m) (hn : m ≤ 65536 - 12)
    (H T : Nat) (hH : b0 % 16 * 4 = (H : Int)) (hT : 256 * b2 + b3 = (T : Int)) (q1 : b0 / 16 = 4) (q2 : 20 ≤ (H : Int)) (q3 : (H : Int) ≤ (m : Int) + 12) (q4 : (T : Int) ≤ (m : Int) + 12) (q5 : (H : Int) ≤ (T : Int)) (q6 : (m : Int) + 12 ≤ (T : Int)) (q7 : bits .and .i64 (256 * b6 + b7) 32768 = 0) (q8 : 256 * b6 + b7 < 32768) (q9 : sums 0 ((b0 :: b1 :: b2 :: b3 :: b4 :: b5 :: b6 :: b7 :: b8 :: b9 :: b10 :: b11 :: r).take H) = 65535) :
    Calls Tryd.prog 31 #[.slice (some ⟨b, p, none⟩) (m + 12) (d + 12)] w fun e w' => e = .returned (.tuple #[.agg #[.int .i64 b0, .int .i64 b1, .int .i64 (T : Int), .int .i64 (256 * b4 + b5), .int .i64 (256 * b6 + b7), .int .i64 b8, .int .i64 b9, .int .i64 (256 * b10 + b11)], .nilIface]) ∧ perr (b0 :: b1 :: b2 :: b3 :: b4 :: b5 :: b6 :: b7 :: b8 :: b9 :: b10 :: b11 :: r) = 0 ∧ Below w.heap.size w w' := by
  have hby := h.2.2.2.1
  have x0 := hby b0 (by simp)
  have hdm := h.2.1
  have hdx := h.2.2.1
  have PE : Hid (perr (b0 :: b1 :: b2 :: b3 :: b4 :: b5 :: b6 :: b7 :: b8 :: b9 :: b10 :: b11 :: r) = 0) := Lib.hid (by rw [perr_eq m b0 b1 b2 b3 b4 b5 b6 b7 b8 b9 b10 b11 r (by have := h.1; simpa using this) H T hH hT, if_neg (by omega), if_neg (by simpa using q1), if_neg (by omega), if_neg (by omega), if_neg (by omega), if_neg (by omega), if_neg (by omega), if_neg (by omega), if_neg (by rw [q9]; simp)])
  unfold maxLen at hdx
  have R := Lib.hid (read_after b p m d b0 b1 b2 b3 b4 b5 b6 b7 b8 b9 b10 b11 r w B hB h hm T hT)
  have SZ := Lib.hid (fun W (hc : W.cell? ⟨w.heap.size + 1, 0, none⟩ = some (.int .i64 b0)) => size_any (w.heap.size + 1) b0 H W x0.1 x0.2 hH hc)
  have SM := Lib.hid (fun W (hW : Holds W B (some ⟨b, p, none⟩) (m + 12) (d + 12) (b0 :: b1 :: b2 :: b3 :: b4 :: b5 :: b6 :: b7 :: b8 :: b9 :: b10 :: b11 :: r)) => sum_any (some ⟨b, p, none⟩) H (d + 12) ((b0 :: b1 :: b2 :: b3 :: b4 :: b5 :: b6 :: b7 :: b8 :: b9 :: b10 :: b11 :: r).take H) W B (hW.upto (k := H) (by omega)) (by omega))
  rw [q9] at SM
  have hHx : (H : Int) ≤ 60 := by omega
  clear h hby hH hT q9
  go_enter Tryd.func31, Tryd.ntmps31
  go_wp2_with fail
  refine R.out.mono ?_
  rintro e w1 ⟨rfl, a1⟩
  have c0 : w1.cell? ⟨w.heap.size + 1, 0, none⟩ = some (.int .i64 b0) := (a1.var.cell 0).trans rfl
  have c2 : w1.cell? ⟨w.heap.size + 1, 2, none⟩ = some (.int .i64 (T : Int)) := (a1.var.cell 2).trans rfl
  have c4 : w1.cell? ⟨w.heap.size + 1, 4, none⟩ = some (.int .i64 (256 * b6 + b7)) := (a1.var.cell 4).trans rfl
  have A1 := Lib.hid a1
  clear a1 R
  go_wp2_with (go_at_call 32; refine (SZ.out _ c0).mono ?_; rintro e w' ⟨rfl, hw⟩; obtain rfl := hw.symm)
  have d5 : decide (T < H) = false := by simp; omega
  have d6 : decide ((T : Int) < (m : Int) + 12) = false := by simp; omega
  have d7 : decide (T < m + 12) = false := by simp; omega
  have CZ := Lib.hid (fun k : Nat => SZ.out (w1.drewN k) c0)
  go_quiet ((go_at_call 32; exact Calls.quiet_of_same (CZ.out _)))
  have A2 := Lib.hid (A1.out.drewN nq)
  clear CZ A1 c0 c2 c4 d5 d6 d7
  generalize w1.drewN nq = w2 at *
  have c0 : w2.cell? ⟨w.heap.size + 1, 0, none⟩ = some (.int .i64 b0) := (A2.out.var.cell 0).trans rfl
  have c2 : w2.cell? ⟨w.heap.size + 1, 2, none⟩ = some (.int .i64 (T : Int)) := (A2.out.var.cell 2).trans rfl
  have c4 : w2.cell? ⟨w.heap.size + 1, 4, none⟩ = some (.int .i64 (256 * b6 + b7)) := (A2.out.var.cell 4).trans rfl
  go_wp2_with (first
    | (go_at_call 32; refine (SZ.out _ c0).mono ?_; rintro e w' ⟨rfl, hw⟩; obtain rfl := hw.symm)
    | (refine wpList_load_row rfl _ _ rfl (w.heap.size + 1) rfl 49 #[.int .i64 b0, .int .i64 b1, .int .i64 (T : Int), .int .i64 (256 * b4 + b5), .int .i64 (256 * b6 + b7), .int .i64 b8, .int .i64 b9, .int .i64 (256 * b10 + b11)] (0, 0) _ A2.out.var (Tryd.underlying49) rfl (by kernel_rfl) ?_)
    | (refine wpList_store_row rfl _ _ _ rfl w.heap.size #[.int .i64 b0, .int .i64 b1, .int .i64 (T : Int), .int .i64 (256 * b4 + b5), .int .i64 (256 * b6 + b7), .int .i64 b8, .int .i64 b9, .int .i64 (256 * b10 + b11)] rfl rfl 49 _ A2.out.res (by kernel_rfl) rfl (one8 _ _ _ _ _ _ _ _) ?_)
    | (go_at_call 21; refine (SM.out _ A2.out.row).mono ?_; rintro e w' ⟨rfl, rfl⟩))
  refine bodyPost_ret (results_pair rfl _ _ w.heap.size 49 #[.int .i64 b0, .int .i64 b1, .int .i64 (T : Int), .int .i64 (256 * b4 + b5), .int .i64 (256 * b6 + b7), .int .i64 b8, .int .i64 b9, .int .i64 (256 * b10 + b11)] (0, 0) _ _ rfl rfl (setRow_heap _ _ _ _ _ _ A2.out.res) Tryd.underlying49 rfl (by kernel_rfl)) rfl ?_
  exact ⟨rfl, PE.out, below_setRow A2.out.bel (Nat.le_refl _) _⟩

end Go.Proofs.YtjhfginopbjldaaDoor.Decode
