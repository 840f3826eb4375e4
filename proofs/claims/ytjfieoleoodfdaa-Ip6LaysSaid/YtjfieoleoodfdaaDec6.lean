/- The contract of decode. -/
import Derived.Test.YtjfieoleoodfdaaFirst6
set_option linter.unusedVariables false
namespace Go.Proofs.Ytjfieoleoodfdaa.Dec6
open Go.RowKit Go.Proofs.Ytjfieoleoodfdaa.Sums Go.Proofs.Ytjfieoleoodfdaa.Mem Go.Proofs.Ytjfieoleoodfdaa.P6 Go.Proofs.Ytjfieoleoodfdaa.Blk Go.Proofs.Ytjfieoleoodfdaa.Regs Go.Proofs.Ytjfieoleoodfdaa.Small6 Go.Proofs.Ytjfieoleoodfdaa.Cut Go.Proofs.Ytjfieoleoodfdaa.Exb6 Go.Proofs.Ytjfieoleoodfdaa.First6 Go.Proofs.Ytjfieoleoodfdaa.Free Go.Proofs.Ytjfieoleoodfdaa.Steps Go.Proofs.Ytjfieoleoodfdaa.Bits Go.Proofs.Ytjfieoleoodfdaa.Exts Go.Proofs.Ytjfieoleoodfdaa.Opts

theorem or4 {x y : Int} (x0 : 0 ≤ x) (x1 : x ≤ 255) (y0 : 0 ≤ y) (y1 : y < 16) : bits .or .i64 (x * 16) y = x * 16 + y := by
  have := or_low 4 (a := x) (b := y) x0 (by simp; omega) y0 (by simpa using y1) (by decide)
  simpa using this
theorem or16 {x y : Int} (x0 : 0 ≤ x) (x1 : x ≤ 255) (y0 : 0 ≤ y) (y1 : y ≤ 255) : bits .or .i64 (x * 65536) (y * 256) = x * 65536 + y * 256 := by
  have := or_low 16 (a := x) (b := y * 256) x0 (by simp; omega) (by omega) (by simp; omega) (by decide)
  simpa using this
theorem or8 {x y z : Int} (x0 : 0 ≤ x) (x1 : x ≤ 255) (y0 : 0 ≤ y) (y1 : y ≤ 255) (z0 : 0 ≤ z) (z1 : z ≤ 255) : bits .or .i64 (x * 65536 + y * 256) z = x * 65536 + y * 256 + z := by
  have := or_low 8 (a := x * 256 + y) (b := z) (by omega) (by simp; omega) z0 (by simp; omega) (by decide)
  simp at this
  rw [show x * 65536 + y * 256 = (x * 256 + y) * 256 by omega]
  exact this
theorem setRow_blk {w : World} {g : Nat} {t : TypeId} {old : Array Value} (h : Blk w g t old) (cs : Array Value) : Blk (w.setRow g cs) g t cs := setRow_heap w g old cs t (0, 0) h
theorem setRow_bel {w W : World} {g B : Nat} (h : Below B w W) (hg : B ≤ g) (cs : Array Value) : Below B w (W.setRow g cs) :=
  ⟨h.os, h.tape, h.output, by simpa [World.setRow] using h.size, fun k hk => (setRow_other W g k cs (by omega)).trans (h.block k hk)⟩

theorem exts_bad {k : Int} {i : Nat} {t : List Int} (h : btw k = true) (hb : bad k i t) : exts k (i == 0) t = none := by
  rw [exts, if_neg (by rw [h]; simp)]
  by_cases a : k = 0 ∧ (i == 0) = false
  · rw [if_pos a]
  rw [if_neg a]
  by_cases b : t.length < 8
  · rw [dif_pos b]
  rw [dif_neg b]
  rcases hb with hb | hb | hb
  · exact absurd ⟨hb.1, beq_eq_false_iff_ne.2 (by omega)⟩ a
  · exact absurd hb b
  · rw [if_pos hb]
theorem exts_go {k : Int} {i : Nat} {t : List Int} (h : btw k = true) (hb : ¬ bad k i t) : exts k (i == 0) t = (exts (t.getD 0 0) false (t.drop (endOf k t))).map fun q => ((k, strOfNums ((t.take (endOf k t)).drop (opn k))) :: q.1, q.2) := by
  rw [exts, if_neg (by rw [h]; simp)]
  unfold bad at hb
  rw [if_neg (fun a => hb (.inl ⟨a.1, by have := beq_eq_false_iff_ne.1 a.2; omega⟩)), dif_neg (fun a => hb (.inr (.inl a))), if_neg (fun a => hb (.inr (.inr a)))]

theorem grown_set (w : World) (p : Addr) (v : Value) : w.grownBy (w.setCell p v) (some p.block) := ⟨rfl, rfl, rfl, by simp, fun k _ hk => Below.heap_setCell w p v k (fun e => hk (by rw [e]))⟩
theorem grown_row (w : World) (g : Nat) (cs : Array Value) : w.grownBy (w.setRow g cs) (some g) := ⟨rfl, rfl, rfl, by simp [World.setRow], fun k _ hk => setRow_other w g k cs (fun e => hk (by rw [e]))⟩
theorem owns_ne {w : World} {base n k : Nat} {v : Value} {l : List Int} (h : Owns w base v n l) (hk : k < base) : v.ownBlock = none ∨ v.ownBlock ≠ some k := by
  refine .inr fun q => ?_
  have := (h.lt k q).1
  omega
section
variable {w w' : World} {base n : Nat} {v : Value} {xs : List Value}
theorem own_ne (h : w.ownsRow base 43 2 v n xs) {k : Nat} (hk : k < base) : some k ≠ v.ownBlock := fun q => by
  have := (h.lt k q.symm).1
  omega
theorem own_ne' (h : w.ownsRow base 43 2 v n xs) {k : Nat} (hk : k < base) : v.ownBlock = none ∨ v.ownBlock ≠ some k := .inr fun q => own_ne h hk q.symm
theorem own_below (h : w.ownsRow base 43 2 v n xs) (hb : Below w.heap.size w w') : w'.ownsRow base 43 2 v n xs :=
  h.kept (row := none) ⟨hb.os, hb.tape, hb.output, hb.size, fun k hk _ => hb.block k hk⟩ (by cases v.ownBlock <;> simp)
theorem own_alloc (h : w.ownsRow base 43 2 v n xs) (o : Obj) : (w.alloc o).ownsRow base 43 2 v n xs := h.alloc o
theorem own_far (h : w.ownsRow base 43 2 v n xs) {p : Addr} (hp : p.block < base) (u : Value) : (w.setCell p u).ownsRow base 43 2 v n xs :=
  h.kept (row := some p.block) (grown_set w p u) (own_ne' h hp)
theorem own_row (h : w.ownsRow base 43 2 v n xs) {g : Nat} (hp : g < base) (cs : Array Value) : (w.setRow g cs).ownsRow base 43 2 v n xs :=
  h.kept (row := some g) (grown_row w g cs) (own_ne' h hp)
theorem own_mono (h : w.ownsRow base 43 2 v n xs) {b2 : Nat} (hb : b2 ≤ base) : w.ownsRow b2 43 2 v n xs := ⟨h.1, h.2.imp id fun ⟨g, cap, cur, e, hg, r⟩ => ⟨g, cap, cur, e, Nat.le_trans hb hg, r⟩⟩
theorem own_slice (h : w.ownsRow base 43 2 v n xs) : ∃ E ce, v = .slice E n ce := by
  rcases h.2 with ⟨rfl, rfl⟩ | ⟨g, cap, cur, rfl, _⟩
  · exact ⟨none, 0, rfl⟩
  · exact ⟨_, _, rfl⟩
theorem own_len {ys : P6.Exts} {k : Int} {d : ByteArray} (h : w.ownsRow base 43 2 v (ys.length + 1) (Opts.cells ys ++ [.int .i64 k, .string d])) : w.ownsRow base 43 2 v (ys ++ [(k, d)]).length (Opts.cells (ys ++ [(k, d)])) := by
  rw [cells_append, List.length_append]
  exact h
end

/-- But for the number of what follows, in block g, all is as it was. -/
def Gx (g : Nat) (v : Value) (w1 w2 : World) : Prop := w1.grownBy w2 (some g) ∧ ∀ cs, Blk w1 g 25 cs → Blk w2 g 25 cs ∨ Blk w2 g 25 (cs.setIfInBounds 6 v)
theorem Gx.refl (g : Nat) (v : Value) (w : World) : Gx g v w w := ⟨⟨rfl, rfl, rfl, Nat.le_refl _, fun _ _ _ => rfl⟩, fun _ h => .inl h⟩
theorem Gx.of_below {g : Nat} {v : Value} {w1 w2 : World} (h : Below w1.heap.size w1 w2) : Gx g v w1 w2 := ⟨⟨h.os, h.tape, h.output, h.size, fun k hk _ => h.block k hk⟩, fun cs hc => .inl (hc.below h hc.lt)⟩
theorem Gx.trans {g : Nat} {v : Value} {w1 w2 w3 : World} (h : Gx g v w1 w2) (k : Gx g v w2 w3) : Gx g v w1 w3 := by
  refine ⟨⟨k.1.os.trans h.1.os, k.1.tape.trans h.1.tape, k.1.output.trans h.1.output, Nat.le_trans h.1.size k.1.size, fun j hj hn => (k.1.block j (Nat.lt_of_lt_of_le hj h.1.size) hn).trans (h.1.block j hj hn)⟩, fun cs hc => ?_⟩
  rcases h.2 cs hc with h1 | h1
  · exact k.2 cs h1
  · rcases k.2 _ h1 with h2 | h2
    · exact .inr h2
    · right
      have e : (cs.setIfInBounds 6 v).setIfInBounds 6 v = cs.setIfInBounds 6 v := by simp
      rwa [e] at h2
theorem Gx.new {g : Nat} {v : Value} {w1 w2 : World} (h : Gx g v w1 w2) {a0 a1 a2 a3 a4 a5 a7 : Value} (hc : Blk w1 g 25 #[a0, a1, a2, a3, a4, a5, v, a7]) : Blk w2 g 25 #[a0, a1, a2, a3, a4, a5, v, a7] := by
  rcases h.2 _ hc with h1 | h1 <;> exact h1
theorem Gx.old {g : Nat} {v : Value} {w1 w2 : World} (h : Gx g v w1 w2) {a0 a1 a2 a3 a4 a5 a6 a7 : Value} (hc : Blk w1 g 25 #[a0, a1, a2, a3, a4, a5, a6, a7]) : Blk w2 g 25 #[a0, a1, a2, a3, a4, a5, a6, a7] ∨ Blk w2 g 25 #[a0, a1, a2, a3, a4, a5, v, a7] := h.2 _ hc
theorem Gx.set (g : Nat) (v : Value) (w : World) : Gx g v w (w.setCell ⟨g, 6, none⟩ v) := ⟨grown_set w ⟨g, 6, none⟩ v, fun cs hc => .inr (hc.put 6 v)⟩
theorem field6 (g : Nat) (w : World) : (Instr.fieldAt 25 (.pointer (some ⟨g, 0, none⟩)) 6).run Try.prog w = .ok (.pointer (some ⟨g, 6, none⟩)) w := by kernel_rfl
theorem ent_size : Enters Try.prog 22 := enters_of Try.func22 (by kernel_rfl) rfl
/-- A store of one cell. -/
theorem st_store1 {o : Oper} {a : Act} {w : World} {K : Act → World → Prop} {Q : Exit → Act → World → Prop} (x y : Operand) (ho : o.op = .store 3 x y) (ad : Addr) (hx : a.eval x = .pointer (some ad)) (z : Int) (hy : a.eval y = .int .i64 z)
    (u : Value) (hc : w.cell? ad = some u) (hf : w.frozen? ad = false) (hK : K (a.put o.dst undef) (w.setCell ad (.int .i64 z))) : Step Try.prog o a w K Q := by
  have hz : (sizeOf 3).run Try.prog w = .ok 1 w := by kernel_rfl
  have hr : (storeVar 3 ad (.int .i64 z)).run Try.prog w = .ok () (w.setCell ad (.int .i64 z)) := by
    simp [storeVar, Value.cells, storeCells, Addr.add, hz, Result.andThen]
    rw [run_store Try.prog w ad _ _ (by rfl)]
    simp [hc, hf]
  constructor
  unfold Oper.wp execOp
  simp only [ho, hx, hy, Instr.storeAt, Instr.sureAddr, Sem.run_bind, Sem.run_pure, Result.andThen_ok, hr]
  exact hK
theorem own_ne_x {w : World} {base n : Nat} {v : Value} {xs : List Value} (h : w.ownsRow base 43 2 v n xs) : some w.heap.size ≠ v.ownBlock := fun q => by
  have := (h.lt _ q.symm).2
  omega

/-- What decode gives. -/
def Dd (l : List Int) (w : World) (e : Ending) (w' : World) : Prop :=
  ((perr l = 0 ∧ ∃ E ce A' n' c', e = .returned (.tuple #[.agg #[.int .i64 (pkOf l).cls, .int .i64 (pkOf l).lab, .int .i64 (pkOf l).hop, .string (pkOf l).src, .string (pkOf l).dst, .slice E (pkOf l).exts.length ce, .int .i64 (pkOf l).next, .slice A' n' c'], .nilIface]) ∧ w'.ownsRow w.heap.size 43 2 (.slice E (pkOf l).exts.length ce) (pkOf l).exts.length (Opts.cells (pkOf l).exts) ∧ Owns w' w.heap.size (.slice A' n' c') n' (tail l).2.2) ∨
   (perr l ≠ 0 ∧ ∃ s, e = .returned (.tuple #[.agg #[.int .i64 0, .int .i64 0, .int .i64 0, .string ⟨#[]⟩, .string ⟨#[]⟩, .slice none 0 0, .int .i64 0, .slice none 0 0], .iface 64 (.agg #[.string s, .iface 28 (.int .i64 (perr l))])]) ∧ (perr l = 1 ∨ perr l = 2 ∨ perr l = 4 ∨ perr l = 8))) ∧ Below w.heap.size w w'

/-- What holds at the loop's head. -/
def Dl (w : World) (B n g : Nat) (l : List Int) (a0 a1 a2 : Int) (s0 s1 : ByteArray) (s : Value) (wr : World) : Prop :=
  ∃ (k : Int) (xs : P6.Exts) (t : List Int) (ad : Addr) (n' c' : Nat) (E : Option Addr) (ce : Nat), s = .slice (some ad) n' c' ∧ xs.length + n' ≤ n ∧ (0 ≤ k ∧ k ≤ 255) ∧ Hid (Holds wr B (some ad) n' c' t) ∧
    Hid (Blk wr g 25 #[.int .i64 a0, .int .i64 a1, .int .i64 a2, .string s0, .string s1, .slice E xs.length ce, .int .i64 k, .slice none 0 0]) ∧ Hid (wr.ownsRow (g + 1) 43 2 (.slice E xs.length ce) xs.length (Opts.cells xs)) ∧ Hid (Below w.heap.size w wr) ∧ Hid (Blk wr w.heap.size 25 #[.int .i64 0, .int .i64 0, .int .i64 0, .string ⟨#[]⟩, .string ⟨#[]⟩, .slice none 0 0, .int .i64 0, .slice none 0 0]) ∧
    Hid ((exts k (xs.length == 0) t).map (fun q => (xs ++ q.1, q.2)) = exts (l.getD 6 0) true (l.drop 40))

set_option maxHeartbeats 8000000 in
set_option maxRecDepth 100000 in
theorem decode_ok (b p n c : Nat) (l : List Int) (w : World) (B : Nat) (h : Holds w B (some ⟨b, p, none⟩) n c l) (hB : B ≤ w.heap.size) (hn : n ≤ 1048576) (h40 : 40 ≤ n) (he : eb l = 0) : Calls Try.prog 32 #[.slice (some ⟨b, p, none⟩) n c] w (Dd l w) := by
  have hl := h.1
  have EZ := Lib.hid (eb_zero he).2.2.2
  have hcm := h.2.2.1
  have hnc := h.2.1
  unfold maxLen at hcm
  have z0 := getD_in h.2.2.2.1 0
  have z1 := getD_in h.2.2.2.1 1
  have z2 := getD_in h.2.2.2.1 2
  have z3 := getD_in h.2.2.2.1 3
  have z6 := getD_in h.2.2.2.1 6
  have z7 := getD_in h.2.2.2.1 7
  have B0 := Lib.hid ((Below.refl w.heap.size w).alloc (Nat.le_refl _) (.cells #[.int .i64 0, .int .i64 0, .int .i64 0, .string ⟨#[]⟩, .string ⟨#[]⟩, .slice none 0 0, .int .i64 0, .slice none 0 0] 25))
  have R0 := Lib.hid (Blk.new w 25 #[.int .i64 0, .int .i64 0, .int .i64 0, .string ⟨#[]⟩, .string ⟨#[]⟩, .slice none 0 0, .int .i64 0, .slice none 0 0])
  have EX := Lib.hid (exb_any (some ⟨b, p, none⟩) n c l (w.alloc (.cells #[.int .i64 0, .int .i64 0, .int .i64 0, .string ⟨#[]⟩, .string ⟨#[]⟩, .slice none 0 0, .int .i64 0, .slice none 0 0] 25)) B (h.below (B0.out.mono hB)) hn)
  rw [he] at EX
  have H0 := Lib.hid h
  clear h he hl
  go_enter Try.func32, Try.ntmps32
  go_wp2_with fail
  refine EX.out.mono ?_
  rintro e w1 ⟨he, hb⟩
  have B1 := Lib.hid (B0.out.trans (hb.mono B0.out.size))
  have R1 := Lib.hid (R0.out.below hb R0.out.lt)
  clear hb
  rcases he with ⟨h0, _⟩ | ⟨_, rfl⟩
  · exact absurd rfl h0
  clear EX
  go_wp2_with fail
  have HW : Hid (∀ w', Below w1.drew.heap.size w1.drew w' → Holds w' B (some ⟨b, p, none⟩) n c l) := Lib.hid fun w' hw => H0.out.below ((B1.out.trans (((below_drewN (Below.refl w1.heap.size w1) 1).trans hw).mono B1.out.size)).mono hB)
  refine wp_region_free [0, 1, 2, 3, 4, 5, 6, 7, 8, 9, 10, 11, 12, 13, 14, 15, 16, 17, 18, 19, 20, 21, 22, 23, 24, 25, 26, 27, 28, 29, 30, 31, 32, 33, 34, 35, 36, 37, 38, 39, 40, 41, 42, 43, 44] 45 [] (fun w1 w2 => Below w1.heap.size w1 w2) (fun k' w' v => match k' with
    | 0 => v = .slice (some ⟨b, p, none⟩) n c
    | 1 => v = .pointer (some ⟨b, p + 0, none⟩)
    | 2 => v = .int .u8 (l.getD 0 0)
    | 3 => v = .int .u8 (l.getD 0 0 % 16)
    | 4 => v = .int .i64 (l.getD 0 0 % 16)
    | 5 => v = .int .i64 ((l.getD 0 0 % 16) * 16)
    | 6 => v = .slice (some ⟨b, p, none⟩) n c
    | 7 => v = .pointer (some ⟨b, p + 1, none⟩)
    | 8 => v = .int .u8 (l.getD 1 0)
    | 9 => v = .int .u8 (l.getD 1 0 / 16)
    | 10 => v = .int .i64 (l.getD 1 0 / 16)
    | 11 => v = .int .i64 (l.getD 0 0 % 16 * 16 + l.getD 1 0 / 16)
    | 12 => v = .slice (some ⟨b, p, none⟩) n c
    | 13 => v = .pointer (some ⟨b, p + 1, none⟩)
    | 14 => v = .int .u8 (l.getD 1 0)
    | 15 => v = .int .u8 (l.getD 1 0 % 16)
    | 16 => v = .int .i64 (l.getD 1 0 % 16)
    | 17 => v = .int .i64 ((l.getD 1 0 % 16) * 65536)
    | 18 => v = .slice (some ⟨b, p, none⟩) n c
    | 19 => v = .pointer (some ⟨b, p + 2, none⟩)
    | 20 => v = .int .u8 (l.getD 2 0)
    | 21 => v = .int .i64 (l.getD 2 0)
    | 22 => v = .int .i64 (l.getD 2 0 * 256)
    | 23 => v = .int .i64 (l.getD 1 0 % 16 * 65536 + l.getD 2 0 * 256)
    | 24 => v = .slice (some ⟨b, p, none⟩) n c
    | 25 => v = .pointer (some ⟨b, p + 3, none⟩)
    | 26 => v = .int .u8 (l.getD 3 0)
    | 27 => v = .int .i64 (l.getD 3 0)
    | 28 => v = .int .i64 (l.getD 1 0 % 16 * 65536 + l.getD 2 0 * 256 + l.getD 3 0)
    | 29 => v = .slice (some ⟨b, p, none⟩) n c
    | 30 => v = .pointer (some ⟨b, p + 6, none⟩)
    | 31 => v = .int .u8 (l.getD 6 0)
    | 32 => v = .int .i64 (l.getD 6 0)
    | 33 => v = .slice (some ⟨b, p, none⟩) n c
    | 34 => v = .pointer (some ⟨b, p + 7, none⟩)
    | 35 => v = .int .u8 (l.getD 7 0)
    | 36 => v = .int .i64 (l.getD 7 0)
    | 37 => v = .slice (some ⟨b, p, none⟩) n c
    | 38 => v = .slice (some (adr b p c 8)) 16 (c - 8)
    | 39 => v = .string (strOfNums ((l.drop 8).take 16))
    | 40 => v = .slice (some ⟨b, p, none⟩) n c
    | 41 => v = .slice (some (adr b p c 24)) 16 (c - 24)
    | 42 => v = .string (strOfNums ((l.drop 24).take 16))
    | 43 => v = .agg #[.int .i64 (l.getD 0 0 % 16 * 16 + l.getD 1 0 / 16), .int .i64 (l.getD 1 0 % 16 * 65536 + l.getD 2 0 * 256 + l.getD 3 0), .int .i64 (l.getD 7 0), .string (strOfNums ((l.drop 8).take 16)), .string (strOfNums ((l.drop 24).take 16)), .slice none 0 0, .int .i64 (l.getD 6 0), .slice none 0 0]
    | _ => ∃ g, v = .pointer (some ⟨g, 0, none⟩) ∧ w1.heap.size ≤ g ∧ Blk w' g 25 #[.int .i64 0, .int .i64 0, .int .i64 0, .string ⟨#[]⟩, .string ⟨#[]⟩, .slice none 0 0, .int .i64 0, .slice none 0 0]) (by kernel_rfl) (by kernel_rfl) (Below.refl _ _) (fun _ _ _ h k => h.trans (k.mono h.size)) (fun k' w1 w2 v h => match k' with
    | 0 => fun x => x
    | 1 => fun x => x
    | 2 => fun x => x
    | 3 => fun x => x
    | 4 => fun x => x
    | 5 => fun x => x
    | 6 => fun x => x
    | 7 => fun x => x
    | 8 => fun x => x
    | 9 => fun x => x
    | 10 => fun x => x
    | 11 => fun x => x
    | 12 => fun x => x
    | 13 => fun x => x
    | 14 => fun x => x
    | 15 => fun x => x
    | 16 => fun x => x
    | 17 => fun x => x
    | 18 => fun x => x
    | 19 => fun x => x
    | 20 => fun x => x
    | 21 => fun x => x
    | 22 => fun x => x
    | 23 => fun x => x
    | 24 => fun x => x
    | 25 => fun x => x
    | 26 => fun x => x
    | 27 => fun x => x
    | 28 => fun x => x
    | 29 => fun x => x
    | 30 => fun x => x
    | 31 => fun x => x
    | 32 => fun x => x
    | 33 => fun x => x
    | 34 => fun x => x
    | 35 => fun x => x
    | 36 => fun x => x
    | 37 => fun x => x
    | 38 => fun x => x
    | 39 => fun x => x
    | 40 => fun x => x
    | 41 => fun x => x
    | 42 => fun x => x
    | 43 => fun x => x
    | _ + 44 => fun ⟨g, e, h1, h2⟩ => ⟨g, e, h1, h2.below h h2.lt⟩) (fun _ _ _ _ _ h => h) ?_ _ (by rfl) ?_
  · refine obs_cons (by rfl) (fun vals w' hgr hdep K hK => ?_) (obs_cons (by rfl) (fun vals w' hgr hdep K hK => ?_) (obs_cons (by rfl) (fun vals w' hgr hdep K hK => ?_) (obs_cons (by rfl) (fun vals w' hgr hdep K hK => ?_) (obs_cons (by rfl) (fun vals w' hgr hdep K hK => ?_) (obs_cons (by rfl) (fun vals w' hgr hdep K hK => ?_) (obs_cons (by rfl) (fun vals w' hgr hdep K hK => ?_) (obs_cons (by rfl) (fun vals w' hgr hdep K hK => ?_) (obs_cons (by rfl) (fun vals w' hgr hdep K hK => ?_) (obs_cons (by rfl) (fun vals w' hgr hdep K hK => ?_) (obs_cons (by rfl) (fun vals w' hgr hdep K hK => ?_) (obs_cons (by rfl) (fun vals w' hgr hdep K hK => ?_) (obs_cons (by rfl) (fun vals w' hgr hdep K hK => ?_) (obs_cons (by rfl) (fun vals w' hgr hdep K hK => ?_) (obs_cons (by rfl) (fun vals w' hgr hdep K hK => ?_) (obs_cons (by rfl) (fun vals w' hgr hdep K hK => ?_) (obs_cons (by rfl) (fun vals w' hgr hdep K hK => ?_) (obs_cons (by rfl) (fun vals w' hgr hdep K hK => ?_) (obs_cons (by rfl) (fun vals w' hgr hdep K hK => ?_) (obs_cons (by rfl) (fun vals w' hgr hdep K hK => ?_) (obs_cons (by rfl) (fun vals w' hgr hdep K hK => ?_) (obs_cons (by rfl) (fun vals w' hgr hdep K hK => ?_) (obs_cons (by rfl) (fun vals w' hgr hdep K hK => ?_) (obs_cons (by rfl) (fun vals w' hgr hdep K hK => ?_) (obs_cons (by rfl) (fun vals w' hgr hdep K hK => ?_) (obs_cons (by rfl) (fun vals w' hgr hdep K hK => ?_) (obs_cons (by rfl) (fun vals w' hgr hdep K hK => ?_) (obs_cons (by rfl) (fun vals w' hgr hdep K hK => ?_) (obs_cons (by rfl) (fun vals w' hgr hdep K hK => ?_) (obs_cons (by rfl) (fun vals w' hgr hdep K hK => ?_) (obs_cons (by rfl) (fun vals w' hgr hdep K hK => ?_) (obs_cons (by rfl) (fun vals w' hgr hdep K hK => ?_) (obs_cons (by rfl) (fun vals w' hgr hdep K hK => ?_) (obs_cons (by rfl) (fun vals w' hgr hdep K hK => ?_) (obs_cons (by rfl) (fun vals w' hgr hdep K hK => ?_) (obs_cons (by rfl) (fun vals w' hgr hdep K hK => ?_) (obs_cons (by rfl) (fun vals w' hgr hdep K hK => ?_) (obs_cons (by rfl) (fun vals w' hgr hdep K hK => ?_) (obs_cons (by rfl) (fun vals w' hgr hdep K hK => ?_) (obs_cons (by rfl) (fun vals w' hgr hdep K hK => ?_) (obs_cons (by rfl) (fun vals w' hgr hdep K hK => ?_) (obs_cons (by rfl) (fun vals w' hgr hdep K hK => ?_) (obs_cons (by rfl) (fun vals w' hgr hdep K hK => ?_) (obs_cons (by rfl) (fun vals w' hgr hdep K hK => ?_) (obs_cons (by rfl) (fun vals w' hgr hdep K hK => ?_) (obs_nil)))))))))))))))))))))))))))))))))))))))))))))
    · exact wp_move (.tmp 0) rfl _ (at_out _ (by kernel_rfl) rfl) (hK _ _ (Below.refl _ _) rfl)
    · exact st_byte_at (.tmp 15) (.const (.int .i64 0)) rfl b p n c 0 ((at_dst 0 (by kernel_rfl)).trans (hdep 0 (by simp) (by kernel_rfl))) rfl (by omega) (hK _ _ (Below.refl _ _) rfl)
    · exact wp_load1 (.tmp 16) rfl ⟨b, p + 0, none⟩ ((at_dst 1 (by kernel_rfl)).trans (hdep 1 (by simp) (by kernel_rfl))) Try.underlying5 rfl _ (cell_getD (HW.out _ hgr) 0 (by omega)) (hK _ _ (Below.refl _ _) rfl)
    · exact wp_bin (.tmp 17) (.const (.int .u8 15)) rfl _ _ _ ((at_dst 2 (by kernel_rfl)).trans (hdep 2 (by simp) (by kernel_rfl))) rfl (b_and8 _ _ _ _ (by omega) (by omega)) (hK _ _ (Below.refl _ _) rfl)
    · exact wp_conv (.tmp 18) rfl _ _ ((at_dst 3 (by kernel_rfl)).trans (hdep 3 (by simp) (by kernel_rfl))) (conv_int _ _ (by omega) (by omega)) (hK _ _ (Below.refl _ _) rfl)
    · exact wp_bin (.tmp 19) (.const (.int .u64 4)) rfl _ _ _ ((at_dst 4 (by kernel_rfl)).trans (hdep 4 (by simp) (by kernel_rfl))) rfl (b_shl4 _ _ _ _ (by omega) (by omega)) (hK _ _ (Below.refl _ _) rfl)
    · exact wp_move (.tmp 0) rfl _ (at_out _ (by kernel_rfl) rfl) (hK _ _ (Below.refl _ _) rfl)
    · exact st_byte_at (.tmp 21) (.const (.int .i64 1)) rfl b p n c 1 ((at_dst 6 (by kernel_rfl)).trans (hdep 6 (by simp) (by kernel_rfl))) rfl (by omega) (hK _ _ (Below.refl _ _) rfl)
    · exact wp_load1 (.tmp 22) rfl ⟨b, p + 1, none⟩ ((at_dst 7 (by kernel_rfl)).trans (hdep 7 (by simp) (by kernel_rfl))) Try.underlying5 rfl _ (cell_getD (HW.out _ hgr) 1 (by omega)) (hK _ _ (Below.refl _ _) rfl)
    · exact wp_bin (.tmp 23) (.const (.int .u64 4)) rfl _ _ _ ((at_dst 8 (by kernel_rfl)).trans (hdep 8 (by simp) (by kernel_rfl))) rfl (b_shr8 _ 0 _ _ _ (by omega) (by omega)) (hK _ _ (Below.refl _ _) rfl)
    · exact wp_conv (.tmp 24) rfl _ _ ((at_dst 9 (by kernel_rfl)).trans (hdep 9 (by simp) (by kernel_rfl))) (conv_int _ _ (by omega) (by omega)) (hK _ _ (Below.refl _ _) rfl)
    · exact wp_bin (.tmp 20) (.tmp 25) rfl _ _ _ ((at_dst 5 (by kernel_rfl)).trans (hdep 5 (by simp) (by kernel_rfl))) ((at_dst 10 (by kernel_rfl)).trans (hdep 10 (by simp) (by kernel_rfl))) (b_or _ _ _ _ _ _ (or4 (by omega) (by omega) (by omega) (by omega))) (hK _ _ (Below.refl _ _) rfl)
    · exact wp_move (.tmp 0) rfl _ (at_out _ (by kernel_rfl) rfl) (hK _ _ (Below.refl _ _) rfl)
    · exact st_byte_at (.tmp 27) (.const (.int .i64 1)) rfl b p n c 1 ((at_dst 12 (by kernel_rfl)).trans (hdep 12 (by simp) (by kernel_rfl))) rfl (by omega) (hK _ _ (Below.refl _ _) rfl)
    · exact wp_load1 (.tmp 28) rfl ⟨b, p + 1, none⟩ ((at_dst 13 (by kernel_rfl)).trans (hdep 13 (by simp) (by kernel_rfl))) Try.underlying5 rfl _ (cell_getD (HW.out _ hgr) 1 (by omega)) (hK _ _ (Below.refl _ _) rfl)
    · exact wp_bin (.tmp 29) (.const (.int .u8 15)) rfl _ _ _ ((at_dst 14 (by kernel_rfl)).trans (hdep 14 (by simp) (by kernel_rfl))) rfl (b_and8 _ _ _ _ (by omega) (by omega)) (hK _ _ (Below.refl _ _) rfl)
    · exact wp_conv (.tmp 30) rfl _ _ ((at_dst 15 (by kernel_rfl)).trans (hdep 15 (by simp) (by kernel_rfl))) (conv_int _ _ (by omega) (by omega)) (hK _ _ (Below.refl _ _) rfl)
    · exact wp_bin (.tmp 31) (.const (.int .u64 16)) rfl _ _ _ ((at_dst 16 (by kernel_rfl)).trans (hdep 16 (by simp) (by kernel_rfl))) rfl (b_shl16 _ _ _ _ (by omega) (by omega)) (hK _ _ (Below.refl _ _) rfl)
    · exact wp_move (.tmp 0) rfl _ (at_out _ (by kernel_rfl) rfl) (hK _ _ (Below.refl _ _) rfl)
    · exact st_byte_at (.tmp 33) (.const (.int .i64 2)) rfl b p n c 2 ((at_dst 18 (by kernel_rfl)).trans (hdep 18 (by simp) (by kernel_rfl))) rfl (by omega) (hK _ _ (Below.refl _ _) rfl)
    · exact wp_load1 (.tmp 34) rfl ⟨b, p + 2, none⟩ ((at_dst 19 (by kernel_rfl)).trans (hdep 19 (by simp) (by kernel_rfl))) Try.underlying5 rfl _ (cell_getD (HW.out _ hgr) 2 (by omega)) (hK _ _ (Below.refl _ _) rfl)
    · exact wp_conv (.tmp 35) rfl _ _ ((at_dst 20 (by kernel_rfl)).trans (hdep 20 (by simp) (by kernel_rfl))) (conv_int _ _ (by omega) (by omega)) (hK _ _ (Below.refl _ _) rfl)
    · exact wp_bin (.tmp 36) (.const (.int .u64 8)) rfl _ _ _ ((at_dst 21 (by kernel_rfl)).trans (hdep 21 (by simp) (by kernel_rfl))) rfl (b_shl8 _ _ _ _ (by omega) (by omega)) (hK _ _ (Below.refl _ _) rfl)
    · exact wp_bin (.tmp 32) (.tmp 37) rfl _ _ _ ((at_dst 17 (by kernel_rfl)).trans (hdep 17 (by simp) (by kernel_rfl))) ((at_dst 22 (by kernel_rfl)).trans (hdep 22 (by simp) (by kernel_rfl))) (b_or _ _ _ _ _ _ (or16 (by omega) (by omega) (by omega) (by omega))) (hK _ _ (Below.refl _ _) rfl)
    · exact wp_move (.tmp 0) rfl _ (at_out _ (by kernel_rfl) rfl) (hK _ _ (Below.refl _ _) rfl)
    · exact st_byte_at (.tmp 39) (.const (.int .i64 3)) rfl b p n c 3 ((at_dst 24 (by kernel_rfl)).trans (hdep 24 (by simp) (by kernel_rfl))) rfl (by omega) (hK _ _ (Below.refl _ _) rfl)
    · exact wp_load1 (.tmp 40) rfl ⟨b, p + 3, none⟩ ((at_dst 25 (by kernel_rfl)).trans (hdep 25 (by simp) (by kernel_rfl))) Try.underlying5 rfl _ (cell_getD (HW.out _ hgr) 3 (by omega)) (hK _ _ (Below.refl _ _) rfl)
    · exact wp_conv (.tmp 41) rfl _ _ ((at_dst 26 (by kernel_rfl)).trans (hdep 26 (by simp) (by kernel_rfl))) (conv_int _ _ (by omega) (by omega)) (hK _ _ (Below.refl _ _) rfl)
    · exact wp_bin (.tmp 38) (.tmp 42) rfl _ _ _ ((at_dst 23 (by kernel_rfl)).trans (hdep 23 (by simp) (by kernel_rfl))) ((at_dst 27 (by kernel_rfl)).trans (hdep 27 (by simp) (by kernel_rfl))) (b_or _ _ _ _ _ _ (or8 (by omega) (by omega) (by omega) (by omega) (by omega) (by omega))) (hK _ _ (Below.refl _ _) rfl)
    · exact wp_move (.tmp 0) rfl _ (at_out _ (by kernel_rfl) rfl) (hK _ _ (Below.refl _ _) rfl)
    · exact st_byte_at (.tmp 44) (.const (.int .i64 6)) rfl b p n c 6 ((at_dst 29 (by kernel_rfl)).trans (hdep 29 (by simp) (by kernel_rfl))) rfl (by omega) (hK _ _ (Below.refl _ _) rfl)
    · exact wp_load1 (.tmp 45) rfl ⟨b, p + 6, none⟩ ((at_dst 30 (by kernel_rfl)).trans (hdep 30 (by simp) (by kernel_rfl))) Try.underlying5 rfl _ (cell_getD (HW.out _ hgr) 6 (by omega)) (hK _ _ (Below.refl _ _) rfl)
    · exact wp_conv (.tmp 46) rfl _ _ ((at_dst 31 (by kernel_rfl)).trans (hdep 31 (by simp) (by kernel_rfl))) (conv_int _ _ (by omega) (by omega)) (hK _ _ (Below.refl _ _) rfl)
    · exact wp_move (.tmp 0) rfl _ (at_out _ (by kernel_rfl) rfl) (hK _ _ (Below.refl _ _) rfl)
    · exact st_byte_at (.tmp 48) (.const (.int .i64 7)) rfl b p n c 7 ((at_dst 33 (by kernel_rfl)).trans (hdep 33 (by simp) (by kernel_rfl))) rfl (by omega) (hK _ _ (Below.refl _ _) rfl)
    · exact wp_load1 (.tmp 49) rfl ⟨b, p + 7, none⟩ ((at_dst 34 (by kernel_rfl)).trans (hdep 34 (by simp) (by kernel_rfl))) Try.underlying5 rfl _ (cell_getD (HW.out _ hgr) 7 (by omega)) (hK _ _ (Below.refl _ _) rfl)
    · exact wp_conv (.tmp 50) rfl _ _ ((at_dst 35 (by kernel_rfl)).trans (hdep 35 (by simp) (by kernel_rfl))) (conv_int _ _ (by omega) (by omega)) (hK _ _ (Below.refl _ _) rfl)
    · exact wp_move (.tmp 0) rfl _ (at_out _ (by kernel_rfl) rfl) (hK _ _ (Below.refl _ _) rfl)
    · exact wp_slice (.tmp 52) rfl _ _ (some (.int .i64 8)) (some (.int .i64 24)) none ((at_dst 37 (by kernel_rfl)).trans (hdep 37 (by simp) (by kernel_rfl))) rfl rfl rfl (cutA_lh b p n c 8 24 _ (by omega) (by omega)) (hK _ _ (Below.refl _ _) rfl)
    · exact wp_conv (.tmp 53) rfl _ _ ((at_dst 38 (by kernel_rfl)).trans (hdep 38 (by simp) (by kernel_rfl))) (run_string_bytes (cutA_holds (lo := 8) (hi := 24) (HW.out _ hgr) (by omega) (by omega))) (hK _ _ (Below.refl _ _) rfl)
    · exact wp_move (.tmp 0) rfl _ (at_out _ (by kernel_rfl) rfl) (hK _ _ (Below.refl _ _) rfl)
    · exact wp_slice (.tmp 55) rfl _ _ (some (.int .i64 24)) (some (.int .i64 40)) none ((at_dst 40 (by kernel_rfl)).trans (hdep 40 (by simp) (by kernel_rfl))) rfl rfl rfl (cutA_lh b p n c 24 40 _ (by omega) (by omega)) (hK _ _ (Below.refl _ _) rfl)
    · exact wp_conv (.tmp 56) rfl _ _ ((at_dst 41 (by kernel_rfl)).trans (hdep 41 (by simp) (by kernel_rfl))) (run_string_bytes (cutA_holds (lo := 24) (hi := 40) (HW.out _ hgr) (by omega) (by omega))) (hK _ _ (Below.refl _ _) rfl)
    · have eq11 : vals 11 = .int .i64 (l.getD 0 0 % 16 * 16 + l.getD 1 0 / 16) := hdep 11 (by simp) (by kernel_rfl)
      have eq28 : vals 28 = .int .i64 (l.getD 1 0 % 16 * 65536 + l.getD 2 0 * 256 + l.getD 3 0) := hdep 28 (by simp) (by kernel_rfl)
      have eq32 : vals 32 = .int .i64 (l.getD 6 0) := hdep 32 (by simp) (by kernel_rfl)
      have eq36 : vals 36 = .int .i64 (l.getD 7 0) := hdep 36 (by simp) (by kernel_rfl)
      have eq39 : vals 39 = .string (strOfNums ((l.drop 8).take 16)) := hdep 39 (by simp) (by kernel_rfl)
      have eq42 : vals 42 = .string (strOfNums ((l.drop 24).take 16)) := hdep 42 (by simp) (by kernel_rfl)
      refine st_build ([(0, 26, 11), (1, 43, 28), (6, 47, 32), (2, 51, 36), (3, 54, 39), (4, 57, 42)].map fun q => (q.1, Operand.tmp q.2.1)) rfl ([(0, 26, 11), (1, 43, 28), (6, 47, 32), (2, 51, 36), (3, 54, 39), (4, 57, 42)].map fun q => (q.1, vals q.2.2)) (map_fill [(0, 26, 11), (1, 43, 28), (6, 47, 32), (2, 51, 36), (3, 54, 39), (4, 57, 42)] (by kernel_rfl)) (.agg #[.int .i64 (l.getD 0 0 % 16 * 16 + l.getD 1 0 / 16), .int .i64 (l.getD 1 0 % 16 * 65536 + l.getD 2 0 * 256 + l.getD 3 0), .int .i64 (l.getD 7 0), .string (strOfNums ((l.drop 8).take 16)), .string (strOfNums ((l.drop 24).take 16)), .slice none 0 0, .int .i64 (l.getD 6 0), .slice none 0 0]) ?_ (hK _ _ (Below.refl _ _) rfl)
      simp only [List.map, eq11, eq28, eq32, eq36, eq39, eq42]
      exact build6 _ _ _ _ _ _ _
    · exact st_alloc6 rfl (hK _ _ ((Below.refl _ _).alloc (Nat.le_refl _) _) ⟨_, rfl, hgr.size, Blk.new _ _ _⟩)
  · intro vals w' hgr hG
    obtain ⟨g, eg, hg1, hg2⟩ : ∃ g, vals 44 = .pointer (some ⟨g, 0, none⟩) ∧ w1.heap.size ≤ g ∧ Blk w' g 25 #[.int .i64 0, .int .i64 0, .int .i64 0, .string ⟨#[]⟩, .string ⟨#[]⟩, .slice none 0 0, .int .i64 0, .slice none 0 0] := hG 44 (by simp)
    refine st_store_row 25 (.tmp 5) (.tmp 58) rfl g _ ((at_dst 44 (by kernel_rfl)).trans eg) ((at_dst 43 (by kernel_rfl)).trans (hG 43 (by simp))) 25 _ hg2 (by kernel_rfl) rfl (one8 _ _ _ _ _ _ _ _ _ _ _ _) (wpAnyH_done (by kernel_rfl) ?_ _)
    have NB := Lib.hid (setRow_blk hg2 #[.int .i64 (l.getD 0 0 % 16 * 16 + l.getD 1 0 / 16), .int .i64 (l.getD 1 0 % 16 * 65536 + l.getD 2 0 * 256 + l.getD 3 0), .int .i64 (l.getD 7 0), .string (strOfNums ((l.drop 8).take 16)), .string (strOfNums ((l.drop 24).take 16)), .slice none 0 0, .int .i64 (l.getD 6 0), .slice none 0 0])
    have BW := Lib.hid (setRow_bel ((below_drewN (Below.refl w1.heap.size w1) 1).trans hgr) hg1 #[.int .i64 (l.getD 0 0 % 16 * 16 + l.getD 1 0 / 16), .int .i64 (l.getD 1 0 % 16 * 65536 + l.getD 2 0 * 256 + l.getD 3 0), .int .i64 (l.getD 7 0), .string (strOfNums ((l.drop 8).take 16)), .string (strOfNums ((l.drop 24).take 16)), .slice none 0 0, .int .i64 (l.getD 6 0), .slice none 0 0])
    have gin : g < w'.heap.size := hg2.lt
    clear hG hg2 hgr
    generalize w'.setRow g #[.int .i64 (l.getD 0 0 % 16 * 16 + l.getD 1 0 / 16), .int .i64 (l.getD 1 0 % 16 * 65536 + l.getD 2 0 * 256 + l.getD 3 0), .int .i64 (l.getD 7 0), .string (strOfNums ((l.drop 8).take 16)), .string (strOfNums ((l.drop 24).take 16)), .slice none 0 0, .int .i64 (l.getD 6 0), .slice none 0 0] = w2 at *
    simp only [fill, dstAt, List.getElem?_cons_zero, List.getElem?_cons_succ, Option.bind_some, Act.put, List.setIfInBounds_toArray, List.set_cons_zero, List.set_cons_succ]
    rw [eg]
    clear eg
    have CU : ∀ W, (Instr.sliceAt 23 (.slice (some ⟨b, p, none⟩) n c) (some (.int .i64 40)) none none).run Try.prog W = .ok (.slice (some (adr b p c 40)) (n - 40) (c - 40)) W := fun W => cutA_l b p n c 40 W (by omega) (by omega)
    have B2 := Lib.hid (B1.out.trans (BW.out.mono B1.out.size))
    have R2 := Lib.hid (R1.out.below BW.out R1.out.lt)
    have H2 := Lib.hid (cutA_rest (lo := 40) (H0.out.below (B2.out.mono hB)) (by omega))
    obtain ⟨a0, ha0⟩ : ∃ a0, a0 = l.getD 0 0 % 16 * 16 + l.getD 1 0 / 16 := ⟨_, rfl⟩
    obtain ⟨a1, ha1⟩ : ∃ a1, a1 = l.getD 1 0 % 16 * 65536 + l.getD 2 0 * 256 + l.getD 3 0 := ⟨_, rfl⟩
    obtain ⟨a2, ha2⟩ : ∃ a2, a2 = l.getD 7 0 := ⟨_, rfl⟩
    obtain ⟨s0, hs0⟩ : ∃ s0, s0 = strOfNums ((l.drop 8).take 16) := ⟨_, rfl⟩
    obtain ⟨s1, hs1⟩ : ∃ s1, s1 = strOfNums ((l.drop 24).take 16) := ⟨_, rfl⟩
    have HA : Hid (a0 = (pkOf l).cls ∧ a1 = (pkOf l).lab ∧ a2 = (pkOf l).hop ∧ s0 = (pkOf l).src ∧ s1 = (pkOf l).dst) := Lib.hid ⟨ha0, by rw [ha1]; show _ = 65536 * (l.getD 1 0 % 16) + 256 * l.getD 2 0 + l.getD 3 0; omega, ha2, hs0, hs1⟩
    rw [← ha0, ← ha1, ← ha2, ← hs0, ← hs1] at NB
    clear ha0 ha1 ha2 hs0 hs1
    have wg : w.heap.size < g := by have := R1.out.lt; omega
    have zk := z6
    generalize vals 0 = x0, vals 1 = x1, vals 2 = x2, vals 3 = x3, vals 4 = x4, vals 5 = x5, vals 6 = x6, vals 7 = x7, vals 8 = x8, vals 9 = x9, vals 10 = x10, vals 11 = x11, vals 12 = x12, vals 13 = x13, vals 14 = x14, vals 15 = x15, vals 16 = x16, vals 17 = x17, vals 18 = x18, vals 19 = x19, vals 20 = x20, vals 21 = x21, vals 22 = x22, vals 23 = x23, vals 24 = x24, vals 25 = x25, vals 26 = x26, vals 27 = x27, vals 28 = x28, vals 29 = x29, vals 30 = x30, vals 31 = x31, vals 32 = x32, vals 33 = x33, vals 34 = x34, vals 35 = x35, vals 36 = x36, vals 37 = x37, vals 38 = x38, vals 39 = x39, vals 40 = x40, vals 41 = x41, vals 42 = x42, vals 43 = x43
    clear z0 z1 z2 z3 z6 z7 HW BW R1 B1 B0 R0 hg1
    go_wp2_with fail
    clear CU
    go_loopw [6] (fun s wr => Dl w B n g l a0 a1 a2 s0 s1 s wr) (fun s _ => match s with | .slice _ m _ => m | _ => 0)
    case atStart => exact ⟨l.getD 6 0, [], l.drop 40, _, _, _, none, 0, rfl, by simp only [List.length_nil]; omega, zk, H2, NB, Lib.hid (World.ownsRow_nil _ _ _ _), B2, R2, Lib.hid (by simp)⟩
    case round =>
      obtain ⟨k, xs, t, ad, n', c', E, ce, rfl, hlen, ⟨k0, k1⟩, HT, KB, OX, BB, RB, EE⟩ := hrel
      have x6 := KB.out.cell 6
      have x5 := KB.out.cell 5
      have BT := Lib.hid (fun W => between_code k W)
      have hbs := BB.out.size
      have gin2 := KB.out.lt
      clear NB H2 B2 R2 zk
      cases hb : btw k
      · have EX : exts (l.getD 6 0) true (l.drop 40) = some (xs, k, t) := by
          rw [← EE.out, exts, if_pos hb]; simp
        have TL : tail l = (xs, k, t) := by unfold tail; rw [EX]; rfl
        have PE : Hid (perr l = 0) := Lib.hid (by rw [EZ.out, EX]; simp)
        have PV : Hid (∀ D, Value.agg #[.int .i64 a0, .int .i64 a1, .int .i64 a2, .string s0, .string s1, .slice E xs.length ce, .int .i64 k, D] = Value.agg #[.int .i64 (pkOf l).cls, .int .i64 (pkOf l).lab, .int .i64 (pkOf l).hop, .string (pkOf l).src, .string (pkOf l).dst, .slice E (pkOf l).exts.length ce, .int .i64 (pkOf l).next, D]) := Lib.hid (fun D => by
          obtain ⟨e0, e1, e2, e3, e4⟩ := HA.out
          have te : (pkOf l).exts = xs := by unfold pkOf; rw [TL]
          have tn : (pkOf l).next = k := by unfold pkOf; rw [TL]
          rw [te, tn, ← e0, ← e1, ← e2, ← e3, ← e4])
        have TX : Hid ((pkOf l).exts = xs ∧ (tail l).2.2 = t) := Lib.hid ⟨by unfold pkOf; rw [TL], by rw [TL]⟩
        rw [hb] at BT
        clear hb EX TL EE
        go_wp2_with fail
        refine (BT.out _).mono ?_
        rintro e wv ⟨rfl, rfl⟩
        go_wp2_with fail
        refine (clone_any ad n' c' t wr B HT.out (Nat.le_trans hB hbs) (by omega)).mono ?_
        rintro e w3 ⟨A2, c2, rfl, o3, hb3⟩
        have B3 := Lib.hid (BB.out.trans (hb3.mono hbs))
        have K3 := Lib.hid (KB.out.below hb3 KB.out.lt)
        have R3 := Lib.hid (RB.out.below hb3 RB.out.lt)
        have hs3 := hb3.size
        have O3 := Lib.hid (own_below OX.out hb3)
        have D3 := Lib.hid o3
        clear hb3 o3 x5 x6 KB RB OX HT BB
        have y7 := K3.out.cell 7
        have f7 := K3.out.frozen 7
        have K4 := Lib.hid (K3.out.put 7 (.slice A2 n' c2))
        have R4 := Lib.hid (R3.out.far (p := ⟨g, 7, none⟩) (by show w.heap.size ≠ g; omega) (.slice A2 n' c2))
        have B4 := Lib.hid (B3.out.setCell (p := ⟨g, 7, none⟩) (by show w.heap.size ≤ g; omega) (.slice A2 n' c2))
        have O4 := Lib.hid (own_far O3.out (p := ⟨g, 7, none⟩) (by show g < g + 1; omega) (.slice A2 n' c2))
        have D4 := Lib.hid (D3.out.kept (row := some g) (grown_set w3 ⟨g, 7, none⟩ (.slice A2 n' c2)) (owns_ne D3.out gin2))
        clear K3 R3 B3 O3 D3
        go_wp2_with (first
          | (refine Loads.wpList_load_w rfl 25 (.tmp 5) rfl g rfl 25 #[.int .i64 a0, .int .i64 a1, .int .i64 a2, .string s0, .string s1, .slice E xs.length ce, .int .i64 k, .slice A2 n' c2] (0, 0) _ K4.out (Try.underlying25) rfl (by kernel_rfl) ?_)
          | (refine wpList_store_row rfl 25 (.tmp 2) (.tmp 96) rfl w.heap.size #[.int .i64 a0, .int .i64 a1, .int .i64 a2, .string s0, .string s1, .slice E xs.length ce, .int .i64 k, .slice A2 n' c2] rfl rfl 25 _ R4.out (by kernel_rfl) rfl (one8 _ _ _ _ _ _ _ _ _ _ _ _) ?_))
        refine bodyPost_ret (results_pair rfl _ _ w.heap.size 25 _ (0, 0) _ _ rfl rfl (setRow_heap _ _ _ _ _ _ R4.out) Try.underlying25 rfl (by kernel_rfl)) rfl ⟨.inl ⟨PE.out, E, ce, A2, n', c2, by rw [PV.out]; rfl, ?_, ?_⟩, setRow_bel B4.out (Nat.le_refl _) _⟩
        · rw [TX.out.1]
          exact own_mono (own_row O4.out (by omega) _) (by omega)
        · rw [TX.out.2]
          exact (D4.out.kept (row := some w.heap.size) (grown_row _ _ _) (owns_ne D4.out (by omega))).mono hbs
      · rw [hb] at BT
        have FX := Lib.hid (first_any (some ad) n' c' t wr B HT.out (Nat.le_trans hB hbs) (by omega) k xs.length (by omega))
        go_wp2_with fail
        refine (BT.out _).mono ?_
        rintro e wv ⟨rfl, rfl⟩
        go_wp2_with fail
        refine FX.out.mono ?_
        rintro e w3 ⟨he, hb3⟩
        have B3 := Lib.hid (BB.out.trans (hb3.mono hbs))
        have K3 := Lib.hid (KB.out.below hb3 KB.out.lt)
        have R3 := Lib.hid (RB.out.below hb3 RB.out.lt)
        have O3 := Lib.hid (own_below OX.out hb3)
        have H3 := Lib.hid (HT.out.below (hb3.mono (Nat.le_trans hB hbs)))
        have hs3 := hb3.size
        clear hb3 x5 x6 KB RB OX HT BB FX
        rcases he with ⟨hbad, s, rfl⟩ | ⟨hgood, rfl⟩
        · have EX : exts (l.getD 6 0) true (l.drop 40) = none := by
            rw [← EE.out, exts_bad hb hbad]; rfl
          have PE : Hid (perr l = 4) := Lib.hid (by rw [EZ.out, if_pos EX])
          have B4 := Lib.hid (B3.out.alloc B3.out.size (.cells #[.int .i64 0, .string ⟨#[]⟩] 43))
          have R4 := Lib.hid (R3.out.alloc (.cells #[.int .i64 0, .string ⟨#[]⟩] 43))
          clear hb hbad EX EE
          go_wp2_with (first
            | (refine wpList_store_row rfl 25 (.tmp 2) (.tmp 76) rfl w.heap.size #[.int .i64 0, .int .i64 0, .int .i64 0, .string ⟨#[]⟩, .string ⟨#[]⟩, .slice none 0 0, .int .i64 0, .slice none 0 0] rfl rfl 25 _ R4.out (by kernel_rfl) rfl (one8 _ _ _ _ _ _ _ _ _ _ _ _) ?_))
          exact bodyPost_ret (results_pair rfl _ _ w.heap.size 25 _ (0, 0) _ _ rfl rfl (setRow_heap _ _ _ _ _ _ R4.out) Try.underlying25 rfl (by kernel_rfl)) rfl ⟨.inr ⟨by rw [PE.out]; decide, s, by rw [PE.out]; rfl, by rw [PE.out]; decide⟩, setRow_bel B4.out (Nat.le_refl _) _⟩
        · have GO := Lib.hid (exts_go hb hgood)
          have n8 : 8 ≤ n' := by have := H3.out.1; unfold bad at hgood; omega
          obtain ⟨b1, p1, hadq, _⟩ := H3.out.2.2.2.2 (by omega)
          obtain rfl := Option.some.inj hadq
          have tz := getD_in H3.out.2.2.2.1 0
          obtain ⟨T, hT⟩ : ∃ T, T = endOf k t := ⟨_, rfl⟩
          have T8 := end_ge k t
          have Tn : T ≤ n' := by have := H3.out.1; unfold bad at hgood; omega
          obtain ⟨d, hd⟩ : ∃ d, d = strOfNums ((t.take (endOf k t)).drop (opn k)) := ⟨_, rfl⟩
          have hdz : d.size = T - opn k := by
            rw [hd, str_size, ← hT]
            have := H3.out.1
            simp; omega
          have opb := opn_le k
          have SZ : Hid (∀ W, Calls Try.prog 22 #[.agg #[.int .i64 k, .string d]] W fun e w' => e = .returned (.int .i64 (T : Int)) ∧ Below W.heap.size W w') := Lib.hid (fun W => by
            have := size_any k d W (by omega)
            have e : sz (k, d) = T := by unfold sz; simp only; omega
            rwa [e] at this)
          rw [← hd, ← hT] at GO
          rw [← hd]
          have cm := H3.out.2.1
          have cm2 := H3.out.2.2.1
          unfold maxLen at cm2
          have HH := Lib.hid hT
          rw [← hT] at T8
          clear hd hdz hT hgood hb
          obtain ⟨xg, hxg⟩ : ∃ xg, xg = w3.heap.size := ⟨_, rfl⟩
          have X4 := Lib.hid (Blk.new w3 43 #[.int .i64 k, .string d])
          have K4 := Lib.hid (K3.out.alloc (.cells #[.int .i64 k, .string d] 43))
          have R4 := Lib.hid (R3.out.alloc (.cells #[.int .i64 k, .string d] 43))
          have B4 := Lib.hid (B3.out.alloc B3.out.size (.cells #[.int .i64 k, .string d] 43))
          have O4 := Lib.hid (own_alloc O3.out (.cells #[.int .i64 k, .string d] 43))
          have H4 := Lib.hid (H3.out.below ((Below.refl B w3).alloc (by omega) (.cells #[.int .i64 k, .string d] 43)))
          have x5 := K4.out.cell 5
          clear K3 R3 B3 H3
          go_wp2_with (first
            | (refine Loads.wpList_load_w rfl 43 (.tmp 7) rfl w3.heap.size rfl 43 #[.int .i64 k, .string d] (0, 0) _ X4.out (Try.underlying43) rfl (by kernel_rfl) ?_)
            | (at_builtin
               go_loud (refine wpList_pair rfl (.tmp 79) (.tmp 81) 22 43 rfl (g + 1) (.agg #[.int .i64 0, .string ⟨#[]⟩]) (.int .i64 k) (.string d) 24 Try.underlying22 ext_info rfl (by decide) (.slice E xs.length ce) xs.length (Opts.cells xs) rfl O4.out (w3.heap.size + 1) (by simp) rfl rfl rfl (by omega) (by simp; omega) ?_)
               intro v5 w5 ho5 hg5
               obtain ⟨E5, ce5, rfl⟩ := own_slice ho5
               have nE := own_ne O4.out (k := g) (by omega)
               have nR := own_ne O4.out (k := w.heap.size) (by omega)
               have K5 := Lib.hid ((K4.out.alloc (.cells #[.int .i64 k, .string d] 43)).grown hg5 nE)
               have R5 := Lib.hid ((R4.out.alloc (.cells #[.int .i64 k, .string d] 43)).grown hg5 nR)
               have X5 := Lib.hid ((X4.out.alloc (.cells #[.int .i64 k, .string d] 43)).grown hg5 (own_ne_x O3.out))
               have y5 := K5.out.cell 5
               have f5 := K5.out.frozen 5))
          have B5 := Lib.hid ((B4.out.alloc B4.out.size (.cells #[.int .i64 k, .string d] 43)).grown hg5 (by have := B4.out.size; simp at this ⊢; omega) (fun j hj => by have := (O4.out.lt j hj).1; omega))
          have H5 := Lib.hid ((H4.out.below ((Below.refl B _).alloc (by have := B4.out.size; omega) (.cells #[.int .i64 k, .string d] 43))).keep fun bb oo hbb => World.cell?_of_block (hg5.block bb (by have := B4.out.size; simp at this ⊢; omega) (own_ne O4.out (by omega))))
          have O5 := Lib.hid ho5
          have go5 : g < w5.heap.size := K5.out.lt
          have xgb : w3.heap.size ≠ g := by have := K4.out.lt; omega
          have K6 := Lib.hid (K5.out.put 5 (.slice E5 (xs.length + 1) ce5))
          have R6 := Lib.hid (R5.out.far (p := ⟨g, 5, none⟩) (by show w.heap.size ≠ g; omega) (.slice E5 (xs.length + 1) ce5))
          have X6 := Lib.hid (X5.out.far (p := ⟨g, 5, none⟩) (by show w3.heap.size ≠ g; exact xgb) (.slice E5 (xs.length + 1) ce5))
          have O6 := Lib.hid (own_far O5.out (p := ⟨g, 5, none⟩) (by show g < g + 1; omega) (.slice E5 (xs.length + 1) ce5))
          have B6 := Lib.hid (B5.out.setCell (p := ⟨g, 5, none⟩) (by show w.heap.size ≤ g; omega) (.slice E5 (xs.length + 1) ce5))
          have H6 := Lib.hid (H5.out.keep fun bb oo hbb => World.cell?_of_block (Below.heap_setCell w5 ⟨g, 5, none⟩ (.slice E5 (xs.length + 1) ce5) bb (by show bb ≠ g; omega)))
          clear K5 R5 X5 O5 B5 H5 K4 R4 X4 O4 B4 H4 O3 ho5 hg5 y5 f5 nE nR x5
          go_wp2_with fail
          generalize w5.setCell ⟨g, 5, none⟩ (.slice E5 (xs.length + 1) ce5) = w4 at *
          obtain ⟨kk, hkk⟩ : ∃ kk, kk = t.getD 0 0 := ⟨_, rfl⟩
          have HW : Hid (∀ w', Gx g (.int .i64 kk) w4.drew w' → Holds w' B (some ⟨b1, p1, none⟩) n' c' t) := Lib.hid fun w' hw => H6.out.keep fun bb oo hbb => World.cell?_of_block ((hw.1.block bb (by have := B6.out.size; show bb < w4.heap.size; omega) (fun q => by injection q with q; omega)).trans rfl)
          have XW : Hid (∀ w', Gx g (.int .i64 kk) w4.drew w' → Blk w' w3.heap.size 43 #[.int .i64 k, .string d]) := Lib.hid fun w' hw => X6.out.drew.grown hw.1 (fun q => by injection q with q; exact xgb q)
          have GW : Hid (∀ w', Gx g (.int .i64 kk) w4.drew w' → Blk w' g 25 #[.int .i64 a0, .int .i64 a1, .int .i64 a2, .string s0, .string s1, .slice E5 (xs.length + 1) ce5, .int .i64 k, .slice none 0 0] ∨ Blk w' g 25 #[.int .i64 a0, .int .i64 a1, .int .i64 a2, .string s0, .string s1, .slice E5 (xs.length + 1) ce5, .int .i64 kk, .slice none 0 0]) := Lib.hid fun w' hw => hw.old K6.out.drew
          rw [hkk] at HW XW GW
          refine wp_region_free [0, 1, 2, 3, 4, 5, 6, 7, 8, 9] 10 [] (Gx g (.int .i64 (t.getD 0 0))) (fun k' w' v => match k' with
            | 0 => v = .slice (some ⟨b1, p1, none⟩) n' c'
            | 1 => v = .pointer (some ⟨b1, p1 + 0, none⟩)
            | 2 => v = .int .u8 (t.getD 0 0)
            | 3 => v = .int .i64 (t.getD 0 0)
            | 4 => v = .slice (some ⟨b1, p1, none⟩) n' c'
            | 5 => v = .agg #[.int .i64 k, .string d]
            | 6 => v = .int .i64 ((T : Int))
            | 7 => v = .slice (some (adr b1 p1 c' T)) (n' - T) (c' - T)
            | 8 => v = .pointer (some ⟨g, 6, none⟩)
            | _ => Blk w' g 25 #[.int .i64 a0, .int .i64 a1, .int .i64 a2, .string s0, .string s1, .slice E5 (xs.length + 1) ce5, .int .i64 (t.getD 0 0), .slice none 0 0]) (by kernel_rfl) (by kernel_rfl) (Gx.refl _ _ _) (fun _ _ _ h k => h.trans k) (fun k' w1 w2 v h => match k' with
            | 0 => fun x => x
            | 1 => fun x => x
            | 2 => fun x => x
            | 3 => fun x => x
            | 4 => fun x => x
            | 5 => fun x => x
            | 6 => fun x => x
            | 7 => fun x => x
            | 8 => fun x => x
            | _ + 9 => fun z => Gx.new h z) (fun _ _ _ _ _ h => h) ?_ _ (by rfl) ?_
          · refine obs_cons (by rfl) (fun vals w' hgr hdep K hK => ?_) (obs_cons (by rfl) (fun vals w' hgr hdep K hK => ?_) (obs_cons (by rfl) (fun vals w' hgr hdep K hK => ?_) (obs_cons (by rfl) (fun vals w' hgr hdep K hK => ?_) (obs_cons (by rfl) (fun vals w' hgr hdep K hK => ?_) (obs_cons (by rfl) (fun vals w' hgr hdep K hK => ?_) (obs_cons (by rfl) (fun vals w' hgr hdep K hK => ?_) (obs_cons (by rfl) (fun vals w' hgr hdep K hK => ?_) (obs_cons (by rfl) (fun vals w' hgr hdep K hK => ?_) (obs_cons (by rfl) (fun vals w' hgr hdep K hK => ?_) (obs_nil))))))))))
            · exact wp_move (.tmp 6) rfl _ (at_out _ (by kernel_rfl) rfl) (hK _ _ (Gx.refl _ _ _) rfl)
            · exact st_byte_at (.tmp 84) (.const (.int .i64 0)) rfl b1 p1 n' c' 0 ((at_dst 0 (by kernel_rfl)).trans (hdep 0 (by simp) (by kernel_rfl))) rfl (by omega) (hK _ _ (Gx.refl _ _ _) rfl)
            · exact wp_load1 (.tmp 85) rfl ⟨b1, p1 + 0, none⟩ ((at_dst 1 (by kernel_rfl)).trans (hdep 1 (by simp) (by kernel_rfl))) Try.underlying5 rfl _ (cell_getD (HW.out _ hgr) 0 (by omega)) (hK _ _ (Gx.refl _ _ _) rfl)
            · exact wp_conv (.tmp 86) rfl _ _ ((at_dst 2 (by kernel_rfl)).trans (hdep 2 (by simp) (by kernel_rfl))) (conv_int _ _ (by omega) (by omega)) (hK _ _ (Gx.refl _ _ _) rfl)
            · exact wp_move (.tmp 6) rfl _ (at_out _ (by kernel_rfl) rfl) (hK _ _ (Gx.refl _ _ _) rfl)
            · exact st_load_row 43 (.tmp 7) rfl w3.heap.size (at_out _ (by kernel_rfl) rfl) 43 #[.int .i64 k, .string d] (0, 0) _ (XW.out _ hgr) Try.underlying43 rfl (by kernel_rfl) (hK _ _ (Gx.refl _ _ _) rfl)
            · exact wp_call 22 [.tmp 89] _ rfl ent_size [.agg #[.int .i64 k, .string d]] (congrArg (fun z => [z]) ((at_dst 5 (by kernel_rfl)).trans (hdep 5 (by simp) (by kernel_rfl)))) (fun v w'' => v = .int .i64 (T : Int) ∧ Below w'.heap.size w' w'') ((SZ.out w').mono fun e w'' ⟨h1, h2⟩ => ⟨_, h1, rfl, h2⟩) (fun v w'' ⟨h1, h2⟩ => hK v _ (Gx.of_below h2) h1)
            · exact wp_slice (.tmp 88) rfl _ _ (some (.int .i64 (T : Int))) none none ((at_dst 4 (by kernel_rfl)).trans (hdep 4 (by simp) (by kernel_rfl))) (congrArg some ((at_dst 6 (by kernel_rfl)).trans (hdep 6 (by simp) (by kernel_rfl)))) rfl rfl (cutA_l b1 p1 n' c' T _ (by omega) (by omega)) (hK _ _ (Gx.refl _ _ _) rfl)
            · exact wp_field (.tmp 5) rfl _ _ (at_out _ (by kernel_rfl) rfl) (field6 g _) (hK _ _ (Gx.refl _ _ _) rfl)
            · rcases GW.out _ hgr with gb | gb
              · exact st_store1 (.tmp 92) (.tmp 87) rfl ⟨g, 6, none⟩ ((at_dst 8 (by kernel_rfl)).trans (hdep 8 (by simp) (by kernel_rfl))) _ ((at_dst 3 (by kernel_rfl)).trans (hdep 3 (by simp) (by kernel_rfl))) _ (gb.cell 6) (gb.frozen 6) (hK _ _ (Gx.set _ _ _) (gb.put 6 _))
              · exact st_store1 (.tmp 92) (.tmp 87) rfl ⟨g, 6, none⟩ ((at_dst 8 (by kernel_rfl)).trans (hdep 8 (by simp) (by kernel_rfl))) _ ((at_dst 3 (by kernel_rfl)).trans (hdep 3 (by simp) (by kernel_rfl))) _ (gb.cell 6) (gb.frozen 6) (hK _ _ (Gx.set _ _ _) (gb.put 6 _))
          · intro vals w' hgr hG
            have HWf := Lib.hid (HW.out _ hgr)
            have gb : Blk w' g 25 #[.int .i64 a0, .int .i64 a1, .int .i64 a2, .string s0, .string s1, .slice E5 (xs.length + 1) ce5, .int .i64 (t.getD 0 0), .slice none 0 0] := hG 9 (by simp)
            refine st_assign (.tmp 91) _ rfl ((at_dst 7 (by kernel_rfl)).trans (hG 7 (by simp))) (wpAnyH_done (by kernel_rfl) ?_ _)
            have gr : Gx g (.int .i64 (t.getD 0 0)) w4 w' := (Gx.of_below (below_drewN (Below.refl w4.heap.size w4) 1)).trans hgr
            rw [← hkk] at gb gr
            clear hG
            simp only [fill, dstAt, List.getElem?_cons_zero, List.getElem?_cons_succ, Option.bind_some, Act.put, List.setIfInBounds_toArray, List.set_cons_zero, List.set_cons_succ]
            generalize vals 0 = y0, vals 1 = y1, vals 2 = y2, vals 3 = y3, vals 4 = y4, vals 5 = y5, vals 6 = y6, vals 7 = y7, vals 8 = y8
            go_wp2_with fail
            go_roundw
            case rel =>
              have le : xs.length + 1 = (xs ++ [(k, d)]).length := by simp
              refine ⟨kk, xs ++ [(k, d)], t.drop T, adr b1 p1 c' T, n' - T, c' - T, E5, ce5, rfl, by simp only [List.length_append, List.length_singleton]; omega, by omega, ?_, ?_, ?_, ?_, ?_, ?_⟩
              · exact Lib.hid (cutA_rest HWf.out (by omega))
              · rw [le] at gb; exact Lib.hid gb
              · have oo := own_len (O6.out.kept (row := some g) gr.1 (own_ne' O6.out (by omega)))
                rw [le] at oo
                exact Lib.hid oo
              · exact Lib.hid (B6.out.grown gr.1 B6.out.size (fun j hj => by injection hj with hj; omega))
              · exact Lib.hid (R6.out.grown gr.1 (fun q => by injection q with q; omega))
              · refine Lib.hid ?_
                have e : ((xs ++ [(k, d)]).length == 0) = false := by rw [beq_eq_false_iff_ne]; simp
                rw [e, ← EE.out, GO.out, Option.map_map, hkk]
                congr 1
                funext q
                simp
            case measure => simp; omega 
end Go.Proofs.Ytjfieoleoodfdaa.Dec6
