/- Two objects side by side, each in blocks that are none of the other's: told by colours. No function is named. -/
import Derived.Test.YtppnkkpjfjhfkaaDoorM14
import Derived.Test.YtppnkkpjfjhfkaaDoorM16
import Derived.Test.YtppnkkpjfjhfkaaDoorM20
import Derived.Test.YtppnkkpjfjhfkaaDoorM25
import Derived.Test.YtppnkkpjfjhfkaaDoorM13
set_option linter.unusedVariables false
namespace Go.Proofs.YtppnkkpjfjhfkaaDoor.Two17
open Go.RowKit Go.Proofs.YtppnkkpjfjhfkaaDoor.Mem Go.Proofs.YtppnkkpjfjhfkaaDoor.Blk Go.Proofs.YtppnkkpjfjhfkaaDoor.SadM Go.Proofs.YtppnkkpjfjhfkaaDoor.SadF Go.Proofs.YtppnkkpjfjhfkaaDoor.RowN

/-- What is asked of the word that tells an object in blocks that are none of F. -/
structure IsObj (A : (Nat → Prop) → World → Nat → List Ent → Prop) : Prop where
  mono : ∀ {F G : Nat → Prop} {w g es}, A F w g es → (∀ k, k < w.heap.size → G k → F k) → A G w g es
  below : ∀ {F : Nat → Prop} {w w' g es}, A F w g es → Below w.heap.size w w' → A F w' g es
  other : ∀ {F G : Nat → Prop} {w w' g es}, A F w g es → Keep G w w' → (∀ k, k < w.heap.size → ¬ F k → G k) → A F w' g es
theorem sadF_obj : IsObj SadF where
  mono h hg := h.mono hg
  below h hb := h.below hb
  other := fun {F G w w' g es} h hk hG => by
    have h2 : SadF (fun k => F k ∨ w.heap.size ≤ k) w g es := h.mono fun k hk z => z.resolve_right (by omega)
    have h3 : SadF (fun k => F k ∨ w.heap.size ≤ k) w' g es := h2.other (G := fun k => G k ∧ k < w.heap.size) (hk.mono fun i a _ => a.1) fun k z => by
      have hlt : k < w.heap.size := Nat.lt_of_not_le fun q => z (.inr q)
      exact ⟨hG k hlt fun q => z (.inl q), hlt⟩
    exact h3.mono fun k _ z => .inl z
section
variable {A B : (Nat → Prop) → World → Nat → List Ent → Prop} {w0 w w' : World} {C0 : Nat → Nat} {gs gx : Nat} {e e' : List Ent}
/-- What stays from the beginning on: errors.errorType holds its handle. -/
structure Hd (w0 : World) (C0 : Nat → Nat) : Prop where
  col : C0 0 = 0
  hand : Errno.Handle w0
theorem Hd.lt {w0 : World} {C0 : Nat → Nat} (h : Hd w0 C0) : 0 < w0.heap.size := World.block_lt_of_cell? w0 _ h.hand
theorem Hd.of {w0 w : World} {C0 : Nat → Nat} (h : Hd w0 C0) (k : Keep (fun k => k < w0.heap.size ∧ C0 k = 0) w0 w) : Errno.Handle w := by
  have b := k.below (B := 0 + 1) (by have := h.lt; omega) fun i hi => by
    have : i = 0 := by omega
    subst this
    exact ⟨h.lt, h.col⟩
  exact (b.cell (p := ⟨0, 0, none⟩) (by show 0 < 0 + 1; omega)).trans h.hand
/-- One has the blocks of colour 1, the other one those of colour 2; what has colour 0 stays. -/
def Two (A B : (Nat → Prop) → World → Nat → List Ent → Prop) (w0 : World) (C0 : Nat → Nat) (gs gx : Nat) (w : World) (e e' : List Ent) : Prop :=
  ∃ C : Nat → Nat, (∀ k, k < w0.heap.size → C k = C0 k) ∧ A (fun k => k < w.heap.size ∧ C k ≠ 1) w gs e ∧ B (fun k => k < w.heap.size ∧ C k ≠ 2) w gx e' ∧ Keep (fun k => k < w0.heap.size ∧ C0 k = 0) w0 w ∧ Hd w0 C0
theorem Two.size (h : Two A B w0 C0 gs gx w e e') : w0.heap.size ≤ w.heap.size := by
  obtain ⟨_, _, _, _, k, hd⟩ := h
  exact k.size
theorem Two.handle (h : Two A B w0 C0 gs gx w e e') : Errno.Handle w := by
  obtain ⟨_, _, _, _, k, hd⟩ := h
  exact hd.of k
theorem Two.blk {b : Nat} {t : TypeId} {cs : Array Value} (h : Two A B w0 C0 gs gx w e e') (hb : Blk w0 b t cs) (h0 : C0 b = 0) : Blk w b t cs := by
  obtain ⟨_, _, _, _, k, hd⟩ := h
  exact (k.block b ⟨hb.lt, h0⟩ hb.lt).trans hb
theorem Two.below (hA : IsObj A) (hB : IsObj B) (h : Two A B w0 C0 gs gx w e e') (hb : Below w.heap.size w w') : Two A B w0 C0 gs gx w' e e' := by
  obtain ⟨C, hC, a, b, k, hd⟩ := h
  exact ⟨C, hC, hA.below (hA.mono a fun k hk z => ⟨hk, z.2⟩) hb, hB.below (hB.mono b fun k hk z => ⟨hk, z.2⟩) hb, k.trans (Keep.of hb), hd⟩
theorem Two.drew (hA : IsObj A) (hB : IsObj B) (h : Two A B w0 C0 gs gx w e e') : Two A B w0 C0 gs gx w.drew e e' := h.below hA hB (below_drewN (Below.refl w.heap.size w) 1)
variable {P : Program} {f : FuncId} {args : Array Value} {r : Ending} {e1 : List Ent}
/-- A call of the first one. -/
theorem Two.fst (hA : IsObj A) (hB : IsObj B) (h : Two A B w0 C0 gs gx w e e')
    (hc : ∀ F, A F w gs e → Errno.Handle w → (∀ k, F k → k < w.heap.size) → Calls P f args w fun er w' => er = r ∧ A F w' gs e1 ∧ Keep F w w') :
    Calls P f args w fun er w' => er = r ∧ Two A B w0 C0 gs gx w' e1 e' := by
  obtain ⟨C, hC, a, b, k, hd⟩ := h
  refine (hc _ a (hd.of k) fun k h => h.1).mono ?_
  rintro er w' ⟨rfl, a', kp⟩
  have hs := kp.size
  have h0 := k.size
  refine ⟨rfl, fun k => if k < w.heap.size then C k else 1, fun k hk => (if_pos (by omega)).trans (hC k hk), hA.mono a' fun k hk z => ?_, hB.other (hB.mono b fun k hk z => ?_) kp fun k hk z => ?_, k.trans (kp.mono fun i z hi => ?_), hd⟩
  · have z2 := z.2
    dsimp only at z2
    by_cases q : k < w.heap.size
    · rw [if_pos q] at z2; exact ⟨q, z2⟩
    · rw [if_neg q] at z2; exact absurd rfl z2
  · have z2 := z.2
    dsimp only at z2
    rw [if_pos hk] at z2
    exact ⟨hk, z2⟩
  · refine ⟨hk, fun q => z ⟨by omega, ?_⟩⟩
    dsimp only
    rw [if_pos hk, q]
    decide
  · exact ⟨hi, by rw [hC i z.1, z.2]; decide⟩
/-- A call of the second one. -/
theorem Two.snd (hA : IsObj A) (hB : IsObj B) (h : Two A B w0 C0 gs gx w e e')
    (hc : ∀ F, B F w gx e' → (∀ k, F k → k < w.heap.size) → Calls P f args w fun er w' => er = r ∧ B F w' gx e1 ∧ Keep F w w') :
    Calls P f args w fun er w' => er = r ∧ Two A B w0 C0 gs gx w' e e1 := by
  obtain ⟨C, hC, a, b, k, hd⟩ := h
  refine (hc _ b fun k h => h.1).mono ?_
  rintro er w' ⟨rfl, b', kp⟩
  have hs := kp.size
  have h0 := k.size
  refine ⟨rfl, fun k => if k < w.heap.size then C k else 2, fun k hk => (if_pos (by omega)).trans (hC k hk), hA.other (hA.mono a fun k hk z => ?_) kp fun k hk z => ?_, hB.mono b' fun k hk z => ?_, k.trans (kp.mono fun i z hi => ?_), hd⟩
  · have z2 := z.2
    dsimp only at z2
    rw [if_pos hk] at z2
    exact ⟨hk, z2⟩
  · refine ⟨hk, fun q => z ⟨by omega, ?_⟩⟩
    dsimp only
    rw [if_pos hk, q]
    decide
  · have z2 := z.2
    dsimp only at z2
    by_cases q : k < w.heap.size
    · rw [if_pos q] at z2; exact ⟨q, z2⟩
    · rw [if_neg q] at z2; exact absurd rfl z2
  · exact ⟨hi, by rw [hC i z.1, z.2]; decide⟩
/-- A call that only reads. -/
theorem Two.reads (hA : IsObj A) (hB : IsObj B) (h : Two A B w0 C0 gs gx w e e') (hc : Calls P f args w fun er w' => er = r ∧ Below w.heap.size w w') :
    Calls P f args w fun er w' => er = r ∧ Two A B w0 C0 gs gx w' e e' :=
  hc.mono fun er w' ⟨h1, h2⟩ => ⟨h1, h.below hA hB h2⟩
/-- One block more, which stays: the rest is told from there. -/
theorem Two.start (hA : IsObj A) (hB : IsObj B) (h : Two A B w0 C0 gs gx w e e') (o : Obj) : ∃ C1 : Nat → Nat, C1 w.heap.size = 0 ∧ Two A B (w.alloc o) C1 gs gx (w.alloc o) e e' ∧ ∀ w' f f', Two A B (w.alloc o) C1 gs gx w' f f' → Two A B w0 C0 gs gx w' f f' := by
  obtain ⟨C, hC, a, b, k, hd⟩ := h
  have h0 := k.size
  have bn : Below w.heap.size w (w.alloc o) := (Below.refl w.heap.size w).alloc (Nat.le_refl _) o
  refine ⟨fun k => if k < w.heap.size then C k else 0, if_neg (by omega), ⟨_, fun _ _ => rfl, hA.below (hA.mono a fun k hk z => ?_) bn, hB.below (hB.mono b fun k hk z => ?_) bn, Keep.refl _ _, ⟨(if_pos (Nat.lt_of_lt_of_le hd.lt h0)).trans ((hC _ hd.lt).trans hd.col), (hd.of k).keep bn⟩⟩, fun w' f f' ⟨D, hD, c, d, l, _⟩ => ?_⟩
  · have z2 := z.2
    rw [if_pos hk] at z2
    exact ⟨hk, z2⟩
  · have z2 := z.2
    rw [if_pos hk] at z2
    exact ⟨hk, z2⟩
  · have hs : (w.alloc o).heap.size = w.heap.size + 1 := by simp
    refine ⟨D, fun k hk => ?_, c, d, (k.trans (Keep.of bn)).trans (l.mono fun i z hi => ?_), hd⟩
    · rw [hD k (by omega)]
      exact (if_pos (by omega)).trans (hC k hk)
    · refine ⟨hi, ?_⟩
      show (if i < w.heap.size then C i else 0) = 0
      rw [if_pos (by omega), hC i z.1]
      exact z.2
end
end Go.Proofs.YtppnkkpjfjhfkaaDoor.Two17

/- The code's associations in memory, in blocks that are none of F. -/
set_option linter.unusedVariables false
namespace Go.Proofs.YtppnkkpjfjhfkaaDoor.CadM
open Go.RowKit Go.Proofs.YtppnkkpjfjhfkaaDoor.Mem Go.Proofs.YtppnkkpjfjhfkaaDoor.Blk Go.Proofs.YtppnkkpjfjhfkaaDoor.ArgT Go.Proofs.YtppnkkpjfjhfkaaDoor.Longs Go.Proofs.YtppnkkpjfjhfkaaDoor.WinA Go.Proofs.YtppnkkpjfjhfkaaDoor.Rng1 Go.Proofs.YtppnkkpjfjhfkaaDoor.Rng4 Go.Proofs.YtppnkkpjfjhfkaaDoor.SadM Go.Proofs.YtppnkkpjfjhfkaaDoor.SadMay Go.Proofs.YtppnkkpjfjhfkaaDoor.RowN Go.Proofs.YtppnkkpjfjhfkaaDoor.RowA Go.Proofs.YtppnkkpjfjhfkaaDoor.Two17

/-- Where an association lies: its block; the blocks of its window and of that one's ring, if it has a window. -/
structure CSpot where
  g : Nat
  w : Option (Nat × Nat)
def wptr (l : CSpot) : Value := match l.w with
  | none => .pointer none
  | some p => ptr p.1
def acells (e : Ent) (v : Value) : Array Value := #[.int .i64 e.life.x0, .string e.life.x1, .string e.life.x2, .string e.life.x3, .bool e.life.x4, .int .i64 e.life.x5, .int .i64 e.life.x6, .bool e.life.x7, .int .i64 e.life.x8, .int .i64 e.life.x9, .int .i64 e.life.x10, .int .i64 e.life.x11, .int .i64 e.born, .int .i64 e.bytes, .int .u64 (e.last : Int), v]
/-- What holds of each. -/
structure Fits (e : Ent) : Prop where
  may : mayL e.life = true
  born : 0 ≤ e.born
  bytes : 0 ≤ e.bytes
  last : e.last < Q64
  esn : e.life.x4 = false → e.last ≤ 4294967295
theorem Fits.win {e : Ent} (h : Fits e) : 64 ≤ e.life.x5 ∧ e.life.x5 ≤ 1024 := by
  have := h.may
  unfold mayL at this
  rw [Bool.and_eq_true] at this
  exact (may_facts this.1).2.2.2.2.2
theorem Fits.lim {e : Ent} (h : Fits e) : 0 ≤ e.life.x6 ∧ 0 ≤ e.life.x8 ∧ 0 ≤ e.life.x9 ∧ 0 ≤ e.life.x10 ∧ 0 ≤ e.life.x11 := by
  have := h.may
  simp only [mayL, Bool.and_eq_true, decide_eq_true_eq] at this
  exact this.2
theorem Fits.spi {e : Ent} (h : Fits e) : 256 ≤ e.life.x0 := by
  have := h.may
  unfold mayL at this
  rw [Bool.and_eq_true] at this
  exact (may_facts this.1).1
abbrev RT : TypeId := 61
/-- A row of pointers that the object owns; behind its elements there is nothing. -/
structure RowZ (w : World) (A : Option Addr) (n c : Nat) (cs : List Value) : Prop where
  row : RowAt RT 1 w A n c cs
  fits : ∀ b X, A = some ⟨b, 0, none⟩ → Blk w b RT X → X.size = c * 1
  tail : ∀ b X, A = some ⟨b, 0, none⟩ → Blk w b RT X → ∀ v ∈ X.toList.drop n, v = .pointer none
theorem RowZ.nil (w : World) : RowZ w none 0 0 [] := ⟨RowAt.nil RT 1 w, (fun b X h => by cases h), (fun b X h => by cases h)⟩
theorem RowZ.keep {w w' : World} {A : Option Addr} {n c : Nat} {cs : List Value} (h : RowZ w A n c cs) (hb : ∀ k, own A k → k < w.heap.size → w'.heap[k]? = w.heap[k]?) : RowZ w' A n c cs :=
  ⟨h.row.keep hb, fun b X hA hX => h.fits b X hA ((hb b ⟨_, hA, rfl⟩ (h.row.lt ⟨_, hA, rfl⟩)).symm.trans hX), fun b X hA hX => h.tail b X hA ((hb b ⟨_, hA, rfl⟩ (h.row.lt ⟨_, hA, rfl⟩)).symm.trans hX)⟩
theorem RowZ.below {w w' : World} {A : Option Addr} {n c : Nat} {cs : List Value} (h : RowZ w A n c cs) (hb : Below w.heap.size w w') : RowZ w' A n c cs := h.keep fun k _ hk => hb.block k hk
structure CadAt (w : World) (gs : Nat) (A : Option Addr) (n c : Nat) (ls : List CSpot) (es : List Ent) : Prop where
  blk : Blk w gs 60 #[.slice A n c]
  row : RowZ w A n c (ls.map fun l => ptr l.g)
  len : ls.length = es.length
  ent : ∀ (i : Nat) l e, ls[i]? = some l → es[i]? = some e → Blk w l.g 65 (acells e (wptr l)) ∧ (∀ p, l.w = some p → Has w p.1 p.2 e.life.x5.toNat e.life.x4 e.acc) ∧ l.w.isNone = e.life.x7 ∧ Fits e
  tag : ∃ T : Nat → Nat × Nat, T gs = (0, 0) ∧ (∀ k, own A k → T k = (1, 0)) ∧ ∀ l ∈ ls, T l.g = (2, l.g) ∧ ∀ p, l.w = some p → T p.1 = (3, l.g) ∧ T p.2 = (4, l.g)
  nodup : (ls.map (·.g)).Nodup
section
variable {w w' : World} {gs : Nat} {A : Option Addr} {n c : Nat} {ls : List CSpot} {es : List Ent}
theorem CadAt.num (h : CadAt w gs A n c ls es) : n = es.length := by
  have := h.row.row.len
  rw [List.length_map] at this
  rw [← h.len]
  omega
theorem CadAt.up (h : CadAt w gs A n c ls es) (hb : Below w.heap.size w w') : CadAt w' gs A n c ls es :=
  ⟨Blk.below h.blk hb (Blk.lt h.blk), h.row.below hb, h.len, fun i l e h1 h2 => by
    obtain ⟨a, b, c⟩ := h.ent i l e h1 h2
    exact ⟨Blk.below a hb (Blk.lt a), fun p hp => (b p hp).up hb, c⟩, h.tag, h.nodup⟩
theorem CadAt.mem (h : CadAt w gs A n c ls es) {l : CSpot} (hl : l ∈ ls) : ∃ (j : Nat) (e : Ent), ls[j]? = some l ∧ es[j]? = some e := by
  obtain ⟨j, hj⟩ := List.mem_iff_getElem?.1 hl
  obtain ⟨hlt, _⟩ := List.getElem?_eq_some_iff.1 hj
  exact ⟨j, _, hj, List.getElem?_eq_getElem (by rw [← h.len]; exact hlt)⟩
theorem CadAt.lts (h : CadAt w gs A n c ls es) {l : CSpot} (hl : l ∈ ls) : l.g < w.heap.size ∧ ∀ p, l.w = some p → p.1 < w.heap.size ∧ p.2 < w.heap.size := by
  obtain ⟨j, e, h1, h2⟩ := h.mem hl
  obtain ⟨a, b, _⟩ := h.ent j l e h1 h2
  exact ⟨Blk.lt a, fun p hp => has_lt (b p hp)⟩
theorem CadAt.apart (h : CadAt w gs A n c ls es) {i j : Nat} {l m : CSpot} (hi : ls[i]? = some l) (hj : ls[j]? = some m) (hij : j ≠ i) : m.g ≠ l.g := by
  intro z
  have n := h.nodup
  rw [List.Nodup, List.pairwise_iff_getElem] at n
  obtain ⟨a, rfl⟩ := List.getElem?_eq_some_iff.1 hi
  obtain ⟨b, rfl⟩ := List.getElem?_eq_some_iff.1 hj
  rcases Nat.lt_or_gt_of_ne hij with q | q
  · exact n j i (by simpa using b) (by simpa using a) q (by simpa using z)
  · exact n i j (by simpa using a) (by simpa using b) q (by simpa using z.symm)
theorem has_same {g gr S : Nat} {wd : Bool} {L : List Nat} (h : Has w g gr S wd L) (h1 : w'.heap[g]? = w.heap[g]?) (h2 : w'.heap[gr]? = w.heap[gr]?) : Has w' g gr S wd L := by
  obtain ⟨r, a, b⟩ := h.cw
  exact ⟨r, ⟨h1.trans a.blk, h2.trans a.ring, a.ne, a.tq, a.len, a.lo, a.hi⟩, b⟩
/-- One association is written; the others stay. -/
theorem CadAt.edit (h : CadAt w gs A n c ls es) {i : Nat} {l : CSpot} {e : Ent} (hl : ls[i]? = some l) (he : es[i]? = some e) (e' : Ent)
    (hx : ∀ k, k < w.heap.size → k ≠ l.g → (∀ p, l.w = some p → k ≠ p.1 ∧ k ≠ p.2) → w'.heap[k]? = w.heap[k]?)
    (hE : Blk w' l.g 65 (acells e' (wptr l))) (hW : ∀ p, l.w = some p → Has w' p.1 p.2 e'.life.x5.toNat e'.life.x4 e'.acc) (hlife : e'.life = e.life) (hf : Fits e') :
    CadAt w' gs A n c ls (es.set i e') := by
  obtain ⟨T, t0, t1, tl⟩ := h.tag
  have hm : l ∈ ls := List.mem_of_getElem? hl
  obtain ⟨a2, a3⟩ := tl l hm
  have hi : i < es.length := (List.getElem?_eq_some_iff.1 he).1
  have same : ∀ k, k < w.heap.size → T k ≠ (2, l.g) → T k ≠ (3, l.g) → T k ≠ (4, l.g) → w'.heap[k]? = w.heap[k]? := fun k hk q2 q3 q4 =>
    hx k hk (fun z => q2 (by rw [z]; exact a2)) fun p hp => ⟨fun z => q3 (by rw [z]; exact (a3 p hp).1), fun z => q4 (by rw [z]; exact (a3 p hp).2)⟩
  refine ⟨(same gs (Blk.lt h.blk) (by rw [t0]; simp) (by rw [t0]; simp) (by rw [t0]; simp)).trans h.blk, h.row.keep fun k hk hlt => same k hlt (by rw [t1 k hk]; simp) (by rw [t1 k hk]; simp) (by rw [t1 k hk]; simp), by simp [h.len], ?_, h.tag, h.nodup⟩
  intro j m d hj hd
  rw [List.getElem?_set] at hd
  by_cases q : i = j
  · subst q
    rw [if_pos rfl, if_pos hi] at hd
    obtain rfl := Option.some.inj (hl.symm.trans hj)
    obtain rfl := Option.some.inj hd
    obtain ⟨_, _, c1, _⟩ := h.ent i l e hl he
    exact ⟨hE, hW, by rw [hlife]; exact c1, hf⟩
  · rw [if_neg q] at hd
    have ap := h.apart hl hj (fun z => q z.symm)
    have mm : m ∈ ls := List.mem_of_getElem? hj
    obtain ⟨b2, b3⟩ := tl m mm
    obtain ⟨l1, l2⟩ := h.lts mm
    obtain ⟨c1, c2, c3⟩ := h.ent j m d hj hd
    refine ⟨(same m.g l1 (by rw [b2]; simp [ap]) (by rw [b2]; simp) (by rw [b2]; simp)).trans c1, fun p hp => has_same (c2 p hp) ?_ ?_, c3⟩
    · exact same p.1 (l2 p hp).1 (by rw [(b3 p hp).1]; simp) (by rw [(b3 p hp).1]; simp [ap]) (by rw [(b3 p hp).1]; simp)
    · exact same p.2 (l2 p hp).2 (by rw [(b3 p hp).2]; simp) (by rw [(b3 p hp).2]; simp) (by rw [(b3 p hp).2]; simp [ap])
/-- All its blocks are as they were. -/
theorem CadAt.same (h : CadAt w gs A n c ls es) (hx : ∀ k, k < w.heap.size → (k = gs ∨ own A k ∨ ∃ l ∈ ls, k = l.g ∨ ∃ p, l.w = some p ∧ (k = p.1 ∨ k = p.2)) → w'.heap[k]? = w.heap[k]?) : CadAt w' gs A n c ls es :=
  ⟨(hx gs (Blk.lt h.blk) (.inl rfl)).trans h.blk, h.row.keep fun k hk hlt => hx k hlt (.inr (.inl hk)), h.len, fun i l e h1 h2 => by
    have hm := List.mem_of_getElem? h1
    obtain ⟨a, b⟩ := h.lts hm
    obtain ⟨c1, c2, c3⟩ := h.ent i l e h1 h2
    exact ⟨(hx l.g a (.inr (.inr ⟨l, hm, .inl rfl⟩))).trans c1, fun p hp => has_same (c2 p hp) (hx p.1 (b p hp).1 (.inr (.inr ⟨l, hm, .inr ⟨p, hp, .inl rfl⟩⟩))) (hx p.2 (b p hp).2 (.inr (.inr ⟨l, hm, .inr ⟨p, hp, .inr rfl⟩⟩))), c3⟩, h.tag, h.nodup⟩
end
/-- Its blocks. -/
def Mine (gs : Nat) (A : Option Addr) (ls : List CSpot) (k : Nat) : Prop := k = gs ∨ own A k ∨ ∃ l ∈ ls, k = l.g ∨ ∃ p, l.w = some p ∧ (k = p.1 ∨ k = p.2)
theorem CadAt.mine {w : World} {gs : Nat} {A : Option Addr} {n c : Nat} {ls : List CSpot} {es : List Ent} (h : CadAt w gs A n c ls es) {k : Nat} (hk : Mine gs A ls k) : k < w.heap.size := by
  rcases hk with rfl | hk | ⟨l, hl, rfl | ⟨p, hp, rfl | rfl⟩⟩
  · exact Blk.lt h.blk
  · exact h.row.row.lt hk
  · exact (h.lts hl).1
  · exact ((h.lts hl).2 p hp).1
  · exact ((h.lts hl).2 p hp).2
/-- None of F is one of its blocks. -/
structure COut (F : Nat → Prop) (gs : Nat) (A : Option Addr) (ls : List CSpot) : Prop where
  s : ¬ F gs
  v : ∀ k, own A k → ¬ F k
  l : ∀ l ∈ ls, ¬ F l.g ∧ ∀ p, l.w = some p → ¬ F p.1 ∧ ¬ F p.2
theorem COut.mine {F : Nat → Prop} {gs : Nat} {A : Option Addr} {ls : List CSpot} (h : COut F gs A ls) {k : Nat} (hk : Mine gs A ls k) : ¬ F k := by
  rcases hk with rfl | hk | ⟨l, hl, rfl | ⟨p, hp, rfl | rfl⟩⟩
  · exact h.s
  · exact h.v k hk
  · exact (h.l l hl).1
  · exact ((h.l l hl).2 p hp).1
  · exact ((h.l l hl).2 p hp).2
def CadF (F : Nat → Prop) (w : World) (gs : Nat) (es : List Ent) : Prop := ∃ A n c ls, CadAt w gs A n c ls es ∧ COut F gs A ls
section
variable {F G : Nat → Prop} {w w' : World} {gs : Nat} {es : List Ent}
theorem CadF.below (h : CadF F w gs es) (hb : Below w.heap.size w w') : CadF F w' gs es := by
  obtain ⟨A, n, c, ls, h1, h2⟩ := h
  exact ⟨A, n, c, ls, h1.up hb, h2⟩
theorem CadF.mono (h : CadF F w gs es) (hg : ∀ k, k < w.heap.size → G k → F k) : CadF G w gs es := by
  obtain ⟨A, n, c, ls, h1, h2⟩ := h
  refine ⟨A, n, c, ls, h1, fun z => h2.s (hg _ (Blk.lt h1.blk) z), fun k hk z => h2.v k hk (hg _ (h1.row.row.lt hk) z), fun l hl => ?_⟩
  obtain ⟨a, b⟩ := h1.lts hl
  exact ⟨fun z => (h2.l l hl).1 (hg _ a z), fun p hp => ⟨fun z => ((h2.l l hl).2 p hp).1 (hg _ (b p hp).1 z), fun z => ((h2.l l hl).2 p hp).2 (hg _ (b p hp).2 z)⟩⟩
theorem cadF_obj : IsObj CadF where
  mono h hg := h.mono hg
  below h hb := h.below hb
  other := fun {F G w w' g es} h hk hG => by
    obtain ⟨A, n, c, ls, h1, h2⟩ := h
    refine ⟨A, n, c, ls, h1.same fun k hl z => hk.block k (hG k hl ?_) hl, h2⟩
    rcases z with rfl | z | ⟨l, hl', z⟩
    · exact h2.s
    · exact h2.v k z
    · rcases z with rfl | ⟨p, hp, rfl | rfl⟩
      · exact (h2.l l hl').1
      · exact ((h2.l l hl').2 p hp).1
      · exact ((h2.l l hl').2 p hp).2
end
end Go.Proofs.YtppnkkpjfjhfkaaDoor.CadM

