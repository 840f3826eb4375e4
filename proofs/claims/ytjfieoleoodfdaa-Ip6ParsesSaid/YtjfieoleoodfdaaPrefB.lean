/- The contract of the document's Parse. -/
import Derived.Test.YtjfieoleoodfdaaParse6
import Derived.Test.YtjfieoleoodfdaaPrefA
set_option linter.unusedVariables false
namespace Go.Proofs.Ytjfieoleoodfdaa.ParseRef
open Go.RowKit Go.Proofs.Ytjfieoleoodfdaa.Sums Go.Proofs.Ytjfieoleoodfdaa.Mem Go.Proofs.Ytjfieoleoodfdaa.P6 Go.Proofs.Ytjfieoleoodfdaa.Blk Go.Proofs.Ytjfieoleoodfdaa.Regs Go.Proofs.Ytjfieoleoodfdaa.Small6 Go.Proofs.Ytjfieoleoodfdaa.Cut Go.Proofs.Ytjfieoleoodfdaa.Exb6 Go.Proofs.Ytjfieoleoodfdaa.First6 Go.Proofs.Ytjfieoleoodfdaa.Free Go.Proofs.Ytjfieoleoodfdaa.Steps Go.Proofs.Ytjfieoleoodfdaa.Bits Go.Proofs.Ytjfieoleoodfdaa.Exts Go.Proofs.Ytjfieoleoodfdaa.Opts Go.Proofs.Ytjfieoleoodfdaa.Dec6 Go.Proofs.Ytjfieoleoodfdaa.Parse6

theorem field5 (g : Nat) (w : World) : (Instr.fieldAt 25 (.pointer (some ⟨g, 0, none⟩)) 5).run Try.prog w = .ok (.pointer (some ⟨g, 5, none⟩)) w := by kernel_rfl
theorem buildX (k : Int) (d : ByteArray) (w : World) : (Instr.build 43 #[(0, .int .i64 k), (1, .string d)]).run Try.prog w = .ok (.agg #[.int .i64 k, .string d]) w := by kernel_rfl
theorem run_sliceX (w : World) (k : Int) (d : ByteArray) : (Instr.buildSlice 22 1 #[(0, .agg #[.int .i64 k, .string d])]).run Try.prog w = .ok (.slice (some ⟨w.heap.size, 0, none⟩) 1 1) (w.alloc (.cells #[.int .i64 k, .string d] 43)) := by
  kernel_rfl
theorem st_sliceX {o : Oper} {a : Act} {w : World} {K : Act → World → Prop} {Q : Exit → Act → World → Prop} (x : Operand) (ho : o.op = .buildSlice 22 1 #[(0, x)]) (k : Int) (d : ByteArray) (hx : a.eval x = .agg #[.int .i64 k, .string d])
    (hK : K (a.put o.dst (.slice (some ⟨w.heap.size, 0, none⟩) 1 1)) (w.alloc (.cells #[.int .i64 k, .string d] 43))) : Step Try.prog o a w K Q := by
  constructor
  have hr : (execOp a.eval o).run Try.prog w = .ok (.value (.slice (some ⟨w.heap.size, 0, none⟩) 1 1)) (w.alloc (.cells #[.int .i64 k, .string d] 43)) := by
    simp [execOp, ho, hx, run_sliceX w, Result.andThen]
  unfold Oper.wp
  rw [hr]
  exact hK
theorem st_append_pair {o : Oper} {a : Act} {w : World} {K : Act → World → Prop} {Q : Exit → Act → World → Prop} (s x : Operand)
    (ho : o.op = .call { callee := .builtin .append, args := #[s, x], argTypes := #[22, 22] })
    (base : Nat) (v : Value) (n : Nat) (xs : List Value) (hs : a.eval s = v) (hown : w.ownsRow base 43 2 v n xs) (g : Nat) (k : Int) (d : ByteArray) (hx : a.eval x = .slice (some ⟨g, 0, none⟩) 1 1) (hg : Blk w g 43 #[.int .i64 k, .string d])
    (hn : n + 1 ≤ 1048576) (hbase : base ≤ w.heap.size)
    (hK : ∀ v' w', w'.ownsRow base 43 2 v' (n + 1) (xs ++ [.int .i64 k, .string d]) → w.grownBy w' v.ownBlock → K (a.put o.dst v') w') : Step Try.prog o a w K Q := by
  constructor
  obtain ⟨i, hi, hz, hsz, hb⟩ := info_parts ext_info
  obtain ⟨v', w', hr, h2, h3, h4, h5⟩ := run_append_own_at (P := Try.prog) w base 22 o.type 43 i (.agg #[.int .i64 0, .string ⟨#[]⟩]) 2 24 Try.underlying22 hi hz hsz hb (by kernel_rfl) (by decide) v n xs hown ⟨g, 0, none⟩ 1 1 [.int .i64 k, .string d] rfl
    (by
      intro j y hj
      match j, hj with
      | 0, hj =>
        simp at hj
        subst hj
        simpa [Addr.add] using hg.cell 0
      | 1, hj =>
        simp at hj
        subst hj
        simpa [Addr.add] using hg.cell 1)
    (by
      intro y hy
      simp at hy
      rcases hy with rfl | rfl <;> rfl) (by simp only [maxLen]; omega) (by omega) hbase
  unfold Oper.wp execOp
  simp only [ho, resolve, invoke, builtin, Sem.run_bind, Sem.run_pure, Result.andThen_ok, List.map_toArray, List.map_cons, List.map_nil, hs, hx, hr]
  exact hK _ _ h2 h3
/-- A store of one slice. -/
theorem st_store_ext {o : Oper} {a : Act} {w : World} {K : Act → World → Prop} {Q : Exit → Act → World → Prop} (x y : Operand) (ho : o.op = .store 22 x y) (ad : Addr) (hx : a.eval x = .pointer (some ad)) (z : Value) (hy : a.eval y = z) (hz1 : z.cells = #[z]) (hz2 : z.oneCell' = true)
    (u : Value) (hc : w.cell? ad = some u) (hf : w.frozen? ad = false) (hK : K (a.put o.dst undef) (w.setCell ad z)) : Step Try.prog o a w K Q := by
  have hz : (sizeOf 22).run Try.prog w = .ok 1 w := by kernel_rfl
  have hr : (storeVar 22 ad z).run Try.prog w = .ok () (w.setCell ad z) := by
    simp [storeVar, hz1, storeCells, Addr.add, hz, Result.andThen]
    rw [run_store Try.prog w ad _ _ hz2]
    simp [hc, hf]
  constructor
  unfold Oper.wp execOp
  simp only [ho, hx, hy, Instr.storeAt, Instr.sureAddr, Sem.run_bind, Sem.run_pure, Result.andThen_ok, hr]
  exact hK

/-- What holds at the loop's head. -/
def Rl (w : World) (n g : Nat) (l : List Int) (a0 a1 a2 : Int) (s0 s1 : ByteArray) (s6 s7 : Value) (wr : World) : Prop :=
  ∃ (k : Int) (xs : P6.Exts) (at_ : Nat) (E : Option Addr) (ce : Nat), s6 = .int .i64 k ∧ s7 = .int .i64 (at_ : Int) ∧ xs.length + 40 ≤ at_ ∧ at_ ≤ n ∧ (xs.length = 0 → at_ = 40) ∧ (0 ≤ k ∧ k ≤ 255) ∧
    Hid (Blk wr g 25 #[.int .i64 a0, .int .i64 a1, .int .i64 a2, .string s0, .string s1, .slice E xs.length ce, .int .i64 0, .slice none 0 0]) ∧ Hid (wr.ownsRow (g + 1) 43 2 (.slice E xs.length ce) xs.length (Opts.cells xs)) ∧ Hid (Below w.heap.size w wr) ∧ Hid (Blk wr w.heap.size 25 #[.int .i64 0, .int .i64 0, .int .i64 0, .string ⟨#[]⟩, .string ⟨#[]⟩, .slice none 0 0, .int .i64 0, .slice none 0 0]) ∧
    Hid ((exts k (xs.length == 0) (l.drop at_)).map (fun q => (xs ++ q.1, q.2)) = exts (l.getD 6 0) true (l.drop 40))

set_option maxHeartbeats 8000000 in
set_option maxRecDepth 100000 in
theorem pref_ok (b p n c : Nat) (l : List Int) (w : World) (B : Nat) (h : Holds w B (some ⟨b, p, none⟩) n c l) (hB : B ≤ w.heap.size) (hn : n ≤ 1048576) (h40 : 40 ≤ n) (he : eb l = 0) : Calls Try.prog 19 #[.slice (some ⟨b, p, none⟩) n c] w (Gp l w) := by
  have hl := h.1
  obtain ⟨_, ez1, ez2, EZ'⟩ := eb_zero he
  have EZ := Lib.hid EZ'
  rw [hl] at ez2
  have B0 := Lib.hid ((Below.refl w.heap.size w).alloc (Nat.le_refl _) (.cells #[.int .i64 0, .int .i64 0, .int .i64 0, .string ⟨#[]⟩, .string ⟨#[]⟩, .slice none 0 0, .int .i64 0, .slice none 0 0] 25))
  have R0 := Lib.hid (Blk.new w 25 #[.int .i64 0, .int .i64 0, .int .i64 0, .string ⟨#[]⟩, .string ⟨#[]⟩, .slice none 0 0, .int .i64 0, .slice none 0 0])
  have HA0 := h.below (B0.out.mono hB)
  have c0 : (w.alloc (.cells #[.int .i64 0, .int .i64 0, .int .i64 0, .string ⟨#[]⟩, .string ⟨#[]⟩, .slice none 0 0, .int .i64 0, .slice none 0 0] 25)).cell? ⟨b, p, none⟩ = some (.int .u8 (l.getD 0 0)) := cell_getD HA0 0 (by omega)
  have c4 := cell_getD HA0 4 (by omega)
  have c5 := cell_getD HA0 5 (by omega)
  have z0 := getD_in h.2.2.2.1 0
  have z1 := getD_in h.2.2.2.1 1
  have z2 := getD_in h.2.2.2.1 2
  have z3 := getD_in h.2.2.2.1 3
  have z4 := getD_in h.2.2.2.1 4
  have z5 := getD_in h.2.2.2.1 5
  have z6 := getD_in h.2.2.2.1 6
  have z7 := getD_in h.2.2.2.1 7
  have hcm := h.2.2.1
  have hnc := h.2.1
  unfold maxLen at hcm
  have H0 := Lib.hid h
  clear h hl HA0 he EZ'
  have q1' : (l.getD 0 0 / 16 != 6) = false := by rw [bne_eq_false_iff_eq]; exact ez1
  have e1 : IntKind.i64.wrap (256 * l.getD 4 0) = 256 * l.getD 4 0 := IntWalk.i64_in _ (by omega)
  have e2 : IntKind.i64.wrap (40 + 256 * l.getD 4 0) = 40 + 256 * l.getD 4 0 := IntWalk.i64_in _ (by omega)
  have e3 : IntKind.i64.wrap (40 + 256 * l.getD 4 0 + l.getD 5 0) = (n : Int) := by rw [ez2, IntWalk.i64_in _ (by omega)]; omega
  have e4 : IntKind.i64.wrap (l.getD 4 0) = l.getD 4 0 := IntWalk.i64_in _ (by omega)
  have e5 : IntKind.i64.wrap (l.getD 5 0) = l.getD 5 0 := IntWalk.i64_in _ (by omega)
  have i0 : 0 < n := by omega
  have i4 : (4 : Int) < (n : Int) := by omega
  have i5 : (5 : Int) < (n : Int) := by omega
  have h40' : ¬ n < 40 := by omega
  clear ez1 ez2
  obtain ⟨y0, hy0⟩ : ∃ y0, y0 = l.getD 0 0 := ⟨_, rfl⟩
  obtain ⟨y4, hy4⟩ : ∃ y4, y4 = l.getD 4 0 := ⟨_, rfl⟩
  obtain ⟨y5, hy5⟩ : ∃ y5, y5 = l.getD 5 0 := ⟨_, rfl⟩
  rw [← hy0] at c0 q1'
  have z0' := z0
  rw [← hy0] at z0'
  rw [← hy4] at e1 e2 e3 e4 c4 z4
  rw [← hy5] at e3 e5 c5 z5
  clear hy0 hy4 hy5
  go_enter Try.func19, Try.ntmps19
  go_wp2_with fail
  go_quiet (fail)
  clear e1 e2 e3 e4 e5 c4 c5 c0 q1' i4 i5
  have B1 : Hid (Below w.heap.size w ((w.alloc (.cells #[.int .i64 0, .int .i64 0, .int .i64 0, .string ⟨#[]⟩, .string ⟨#[]⟩, .slice none 0 0, .int .i64 0, .slice none 0 0] 25)).drewN nq)) := Lib.hid (below_drewN B0.out nq)
  have R1 := Lib.hid (R0.out.drewN nq)
  generalize (w.alloc (.cells #[.int .i64 0, .int .i64 0, .int .i64 0, .string ⟨#[]⟩, .string ⟨#[]⟩, .slice none 0 0, .int .i64 0, .slice none 0 0] 25)).drewN nq = w1 at *
  clear z0' z4 z5
  go_wp2_with fail
  have HW : Hid (∀ w', Below w1.drew.heap.size w1.drew w' → Holds w' B (some ⟨b, p, none⟩) n c l) := Lib.hid fun w' hw => H0.out.below ((B1.out.trans (((below_drewN (Below.refl w1.heap.size w1) 1).trans hw).mono B1.out.size)).mono hB)
  refine wp_region_free [0, 1, 2, 3, 4, 5, 6, 7, 8, 9, 10, 11, 12, 13, 14, 15, 16, 17, 18, 19, 20, 21, 22, 23, 24, 25, 26, 27, 28, 29, 30, 31, 32, 33, 34, 35, 36, 37, 38, 39, 40] 41 [] (fun w1 w2 => Below w1.heap.size w1 w2) (fun k' w' v => match k' with
    | 0 => v = .slice (some ⟨b, p, none⟩) n c
    | 1 => v = .pointer (some ⟨b, p + 0, none⟩)
    | 2 => v = .int .u8 (l.getD 0 0)
    | 3 => v = .int .i64 (l.getD 0 0)
    | 4 => v = .int .i64 (l.getD 0 0 % 16)
    | 5 => v = .int .i64 ((l.getD 0 0 % 16) * 16)
    | 6 => v = .slice (some ⟨b, p, none⟩) n c
    | 7 => v = .pointer (some ⟨b, p + 1, none⟩)
    | 8 => v = .int .u8 (l.getD 1 0)
    | 9 => v = .int .i64 (l.getD 1 0)
    | 10 => v = .int .i64 (l.getD 1 0 / 16)
    | 11 => v = .int .i64 ((l.getD 0 0 % 16) * 16 + (l.getD 1 0 / 16))
    | 12 => v = .slice (some ⟨b, p, none⟩) n c
    | 13 => v = .pointer (some ⟨b, p + 1, none⟩)
    | 14 => v = .int .u8 (l.getD 1 0)
    | 15 => v = .int .i64 (l.getD 1 0)
    | 16 => v = .int .i64 (l.getD 1 0 % 16)
    | 17 => v = .int .i64 (65536 * (l.getD 1 0 % 16))
    | 18 => v = .slice (some ⟨b, p, none⟩) n c
    | 19 => v = .pointer (some ⟨b, p + 2, none⟩)
    | 20 => v = .int .u8 (l.getD 2 0)
    | 21 => v = .int .i64 (l.getD 2 0)
    | 22 => v = .int .i64 (256 * l.getD 2 0)
    | 23 => v = .int .i64 (65536 * (l.getD 1 0 % 16) + (256 * l.getD 2 0))
    | 24 => v = .slice (some ⟨b, p, none⟩) n c
    | 25 => v = .pointer (some ⟨b, p + 3, none⟩)
    | 26 => v = .int .u8 (l.getD 3 0)
    | 27 => v = .int .i64 (l.getD 3 0)
    | 28 => v = .int .i64 (65536 * (l.getD 1 0 % 16) + (256 * l.getD 2 0) + l.getD 3 0)
    | 29 => v = .slice (some ⟨b, p, none⟩) n c
    | 30 => v = .pointer (some ⟨b, p + 7, none⟩)
    | 31 => v = .int .u8 (l.getD 7 0)
    | 32 => v = .int .i64 (l.getD 7 0)
    | 33 => v = .slice (some ⟨b, p, none⟩) n c
    | 34 => v = .slice (some (adr b p c 8)) 16 (c - 8)
    | 35 => v = .string (strOfNums ((l.drop 8).take 16))
    | 36 => v = .slice (some ⟨b, p, none⟩) n c
    | 37 => v = .slice (some (adr b p c 24)) 16 (c - 24)
    | 38 => v = .string (strOfNums ((l.drop 24).take 16))
    | 39 => v = .agg #[.int .i64 (l.getD 0 0 % 16 * 16 + l.getD 1 0 / 16), .int .i64 (65536 * (l.getD 1 0 % 16) + 256 * l.getD 2 0 + l.getD 3 0), .int .i64 (l.getD 7 0), .string (strOfNums ((l.drop 8).take 16)), .string (strOfNums ((l.drop 24).take 16)), .slice none 0 0, .int .i64 0, .slice none 0 0]
    | _ => ∃ g, v = .pointer (some ⟨g, 0, none⟩) ∧ w1.heap.size ≤ g ∧ Blk w' g 25 #[.int .i64 0, .int .i64 0, .int .i64 0, .string ⟨#[]⟩, .string ⟨#[]⟩, .slice none 0 0, .int .i64 0, .slice none 0 0]) (by kernel_rfl) (by kernel_rfl) (Below.refl _ _) (fun _ _ _ h k => h.trans (k.mono h.size)) (fun k' w1 w2 v h => match k' with
    | 0 => fun x => x
    | 1 => fun x => x
    | 2 => fun x => x
    | 3 => fun x => x
    | 4 => fun x => x
    | 5 => fun x => x
    | 6 => fun x => x
    | 7 => fun x => x
    | 8 => fun x => x
    | 9 => fun x => x
    | 10 => fun x => x
    | 11 => fun x => x
    | 12 => fun x => x
    | 13 => fun x => x
    | 14 => fun x => x
    | 15 => fun x => x
    | 16 => fun x => x
    | 17 => fun x => x
    | 18 => fun x => x
    | 19 => fun x => x
    | 20 => fun x => x
    | 21 => fun x => x
    | 22 => fun x => x
    | 23 => fun x => x
    | 24 => fun x => x
    | 25 => fun x => x
    | 26 => fun x => x
    | 27 => fun x => x
    | 28 => fun x => x
    | 29 => fun x => x
    | 30 => fun x => x
    | 31 => fun x => x
    | 32 => fun x => x
    | 33 => fun x => x
    | 34 => fun x => x
    | 35 => fun x => x
    | 36 => fun x => x
    | 37 => fun x => x
    | 38 => fun x => x
    | 39 => fun x => x
    | _ + 40 => fun ⟨g, e, h1, h2⟩ => ⟨g, e, h1, h2.below h h2.lt⟩) (fun _ _ _ _ _ h => h) ?_ _ (by rfl) ?_
  · refine obs_cons (by rfl) (fun vals w' hgr hdep K hK => ?_) (obs_cons (by rfl) (fun vals w' hgr hdep K hK => ?_) (obs_cons (by rfl) (fun vals w' hgr hdep K hK => ?_) (obs_cons (by rfl) (fun vals w' hgr hdep K hK => ?_) (obs_cons (by rfl) (fun vals w' hgr hdep K hK => ?_) (obs_cons (by rfl) (fun vals w' hgr hdep K hK => ?_) (obs_cons (by rfl) (fun vals w' hgr hdep K hK => ?_) (obs_cons (by rfl) (fun vals w' hgr hdep K hK => ?_) (obs_cons (by rfl) (fun vals w' hgr hdep K hK => ?_) (obs_cons (by rfl) (fun vals w' hgr hdep K hK => ?_) (obs_cons (by rfl) (fun vals w' hgr hdep K hK => ?_) (obs_cons (by rfl) (fun vals w' hgr hdep K hK => ?_) (obs_cons (by rfl) (fun vals w' hgr hdep K hK => ?_) (obs_cons (by rfl) (fun vals w' hgr hdep K hK => ?_) (obs_cons (by rfl) (fun vals w' hgr hdep K hK => ?_) (obs_cons (by rfl) (fun vals w' hgr hdep K hK => ?_) (obs_cons (by rfl) (fun vals w' hgr hdep K hK => ?_) (obs_cons (by rfl) (fun vals w' hgr hdep K hK => ?_) (obs_cons (by rfl) (fun vals w' hgr hdep K hK => ?_) (obs_cons (by rfl) (fun vals w' hgr hdep K hK => ?_) (obs_cons (by rfl) (fun vals w' hgr hdep K hK => ?_) (obs_cons (by rfl) (fun vals w' hgr hdep K hK => ?_) (obs_cons (by rfl) (fun vals w' hgr hdep K hK => ?_) (obs_cons (by rfl) (fun vals w' hgr hdep K hK => ?_) (obs_cons (by rfl) (fun vals w' hgr hdep K hK => ?_) (obs_cons (by rfl) (fun vals w' hgr hdep K hK => ?_) (obs_cons (by rfl) (fun vals w' hgr hdep K hK => ?_) (obs_cons (by rfl) (fun vals w' hgr hdep K hK => ?_) (obs_cons (by rfl) (fun vals w' hgr hdep K hK => ?_) (obs_cons (by rfl) (fun vals w' hgr hdep K hK => ?_) (obs_cons (by rfl) (fun vals w' hgr hdep K hK => ?_) (obs_cons (by rfl) (fun vals w' hgr hdep K hK => ?_) (obs_cons (by rfl) (fun vals w' hgr hdep K hK => ?_) (obs_cons (by rfl) (fun vals w' hgr hdep K hK => ?_) (obs_cons (by rfl) (fun vals w' hgr hdep K hK => ?_) (obs_cons (by rfl) (fun vals w' hgr hdep K hK => ?_) (obs_cons (by rfl) (fun vals w' hgr hdep K hK => ?_) (obs_cons (by rfl) (fun vals w' hgr hdep K hK => ?_) (obs_cons (by rfl) (fun vals w' hgr hdep K hK => ?_) (obs_cons (by rfl) (fun vals w' hgr hdep K hK => ?_) (obs_cons (by rfl) (fun vals w' hgr hdep K hK => ?_) (obs_nil)))))))))))))))))))))))))))))))))))))))))
    · exact wp_move (.tmp 0) rfl _ (at_out _ (by kernel_rfl) rfl) (hK _ _ (Below.refl _ _) rfl)
    · exact st_byte_at (.tmp 41) (.const (.int .i64 0)) rfl b p n c 0 ((at_dst 0 (by kernel_rfl)).trans (hdep 0 (by simp) (by kernel_rfl))) rfl (by omega) (hK _ _ (Below.refl _ _) rfl)
    · exact wp_load1 (.tmp 42) rfl ⟨b, p + 0, none⟩ ((at_dst 1 (by kernel_rfl)).trans (hdep 1 (by simp) (by kernel_rfl))) Try.underlying5 rfl _ (cell_getD (HW.out _ hgr) 0 (by omega)) (hK _ _ (Below.refl _ _) rfl)
    · exact wp_conv (.tmp 43) rfl _ _ ((at_dst 2 (by kernel_rfl)).trans (hdep 2 (by simp) (by kernel_rfl))) (conv_int _ _ (by omega) (by omega)) (hK _ _ (Below.refl _ _) rfl)
    · exact wp_bin (.tmp 44) (.const (.int .i64 16)) rfl _ _ _ ((at_dst 3 (by kernel_rfl)).trans (hdep 3 (by simp) (by kernel_rfl))) rfl (b_rem _ _ _ _ _ (by omega) (by omega) (by omega)) (hK _ _ (Below.refl _ _) rfl)
    · exact wp_bin (.tmp 45) (.const (.int .i64 16)) rfl _ _ _ ((at_dst 4 (by kernel_rfl)).trans (hdep 4 (by simp) (by kernel_rfl))) rfl (b_mul _ _ _ _ _ (by omega) (by omega)) (hK _ _ (Below.refl _ _) rfl)
    · exact wp_move (.tmp 0) rfl _ (at_out _ (by kernel_rfl) rfl) (hK _ _ (Below.refl _ _) rfl)
    · exact st_byte_at (.tmp 47) (.const (.int .i64 1)) rfl b p n c 1 ((at_dst 6 (by kernel_rfl)).trans (hdep 6 (by simp) (by kernel_rfl))) rfl (by omega) (hK _ _ (Below.refl _ _) rfl)
    · exact wp_load1 (.tmp 48) rfl ⟨b, p + 1, none⟩ ((at_dst 7 (by kernel_rfl)).trans (hdep 7 (by simp) (by kernel_rfl))) Try.underlying5 rfl _ (cell_getD (HW.out _ hgr) 1 (by omega)) (hK _ _ (Below.refl _ _) rfl)
    · exact wp_conv (.tmp 49) rfl _ _ ((at_dst 8 (by kernel_rfl)).trans (hdep 8 (by simp) (by kernel_rfl))) (conv_int _ _ (by omega) (by omega)) (hK _ _ (Below.refl _ _) rfl)
    · exact wp_bin (.tmp 50) (.const (.int .i64 16)) rfl _ _ _ ((at_dst 9 (by kernel_rfl)).trans (hdep 9 (by simp) (by kernel_rfl))) rfl (b_quo _ _ _ _ _ (by omega) (by omega) (by omega)) (hK _ _ (Below.refl _ _) rfl)
    · exact wp_bin (.tmp 46) (.tmp 51) rfl _ _ _ ((at_dst 5 (by kernel_rfl)).trans (hdep 5 (by simp) (by kernel_rfl))) ((at_dst 10 (by kernel_rfl)).trans (hdep 10 (by simp) (by kernel_rfl))) (b_add _ _ _ _ _ (by omega) (by omega)) (hK _ _ (Below.refl _ _) rfl)
    · exact wp_move (.tmp 0) rfl _ (at_out _ (by kernel_rfl) rfl) (hK _ _ (Below.refl _ _) rfl)
    · exact st_byte_at (.tmp 53) (.const (.int .i64 1)) rfl b p n c 1 ((at_dst 12 (by kernel_rfl)).trans (hdep 12 (by simp) (by kernel_rfl))) rfl (by omega) (hK _ _ (Below.refl _ _) rfl)
    · exact wp_load1 (.tmp 54) rfl ⟨b, p + 1, none⟩ ((at_dst 13 (by kernel_rfl)).trans (hdep 13 (by simp) (by kernel_rfl))) Try.underlying5 rfl _ (cell_getD (HW.out _ hgr) 1 (by omega)) (hK _ _ (Below.refl _ _) rfl)
    · exact wp_conv (.tmp 55) rfl _ _ ((at_dst 14 (by kernel_rfl)).trans (hdep 14 (by simp) (by kernel_rfl))) (conv_int _ _ (by omega) (by omega)) (hK _ _ (Below.refl _ _) rfl)
    · exact wp_bin (.tmp 56) (.const (.int .i64 16)) rfl _ _ _ ((at_dst 15 (by kernel_rfl)).trans (hdep 15 (by simp) (by kernel_rfl))) rfl (b_rem _ _ _ _ _ (by omega) (by omega) (by omega)) (hK _ _ (Below.refl _ _) rfl)
    · exact wp_bin (.const (.int .i64 65536)) (.tmp 57) rfl _ _ _ rfl ((at_dst 16 (by kernel_rfl)).trans (hdep 16 (by simp) (by kernel_rfl))) (b_mul _ _ _ _ _ (by omega) (by omega)) (hK _ _ (Below.refl _ _) rfl)
    · exact wp_move (.tmp 0) rfl _ (at_out _ (by kernel_rfl) rfl) (hK _ _ (Below.refl _ _) rfl)
    · exact st_byte_at (.tmp 59) (.const (.int .i64 2)) rfl b p n c 2 ((at_dst 18 (by kernel_rfl)).trans (hdep 18 (by simp) (by kernel_rfl))) rfl (by omega) (hK _ _ (Below.refl _ _) rfl)
    · exact wp_load1 (.tmp 60) rfl ⟨b, p + 2, none⟩ ((at_dst 19 (by kernel_rfl)).trans (hdep 19 (by simp) (by kernel_rfl))) Try.underlying5 rfl _ (cell_getD (HW.out _ hgr) 2 (by omega)) (hK _ _ (Below.refl _ _) rfl)
    · exact wp_conv (.tmp 61) rfl _ _ ((at_dst 20 (by kernel_rfl)).trans (hdep 20 (by simp) (by kernel_rfl))) (conv_int _ _ (by omega) (by omega)) (hK _ _ (Below.refl _ _) rfl)
    · exact wp_bin (.const (.int .i64 256)) (.tmp 62) rfl _ _ _ rfl ((at_dst 21 (by kernel_rfl)).trans (hdep 21 (by simp) (by kernel_rfl))) (b_mul _ _ _ _ _ (by omega) (by omega)) (hK _ _ (Below.refl _ _) rfl)
    · exact wp_bin (.tmp 58) (.tmp 63) rfl _ _ _ ((at_dst 17 (by kernel_rfl)).trans (hdep 17 (by simp) (by kernel_rfl))) ((at_dst 22 (by kernel_rfl)).trans (hdep 22 (by simp) (by kernel_rfl))) (b_add _ _ _ _ _ (by omega) (by omega)) (hK _ _ (Below.refl _ _) rfl)
    · exact wp_move (.tmp 0) rfl _ (at_out _ (by kernel_rfl) rfl) (hK _ _ (Below.refl _ _) rfl)
    · exact st_byte_at (.tmp 65) (.const (.int .i64 3)) rfl b p n c 3 ((at_dst 24 (by kernel_rfl)).trans (hdep 24 (by simp) (by kernel_rfl))) rfl (by omega) (hK _ _ (Below.refl _ _) rfl)
    · exact wp_load1 (.tmp 66) rfl ⟨b, p + 3, none⟩ ((at_dst 25 (by kernel_rfl)).trans (hdep 25 (by simp) (by kernel_rfl))) Try.underlying5 rfl _ (cell_getD (HW.out _ hgr) 3 (by omega)) (hK _ _ (Below.refl _ _) rfl)
    · exact wp_conv (.tmp 67) rfl _ _ ((at_dst 26 (by kernel_rfl)).trans (hdep 26 (by simp) (by kernel_rfl))) (conv_int _ _ (by omega) (by omega)) (hK _ _ (Below.refl _ _) rfl)
    · exact wp_bin (.tmp 64) (.tmp 68) rfl _ _ _ ((at_dst 23 (by kernel_rfl)).trans (hdep 23 (by simp) (by kernel_rfl))) ((at_dst 27 (by kernel_rfl)).trans (hdep 27 (by simp) (by kernel_rfl))) (b_add _ _ _ _ _ (by omega) (by omega)) (hK _ _ (Below.refl _ _) rfl)
    · exact wp_move (.tmp 0) rfl _ (at_out _ (by kernel_rfl) rfl) (hK _ _ (Below.refl _ _) rfl)
    · exact st_byte_at (.tmp 70) (.const (.int .i64 7)) rfl b p n c 7 ((at_dst 29 (by kernel_rfl)).trans (hdep 29 (by simp) (by kernel_rfl))) rfl (by omega) (hK _ _ (Below.refl _ _) rfl)
    · exact wp_load1 (.tmp 71) rfl ⟨b, p + 7, none⟩ ((at_dst 30 (by kernel_rfl)).trans (hdep 30 (by simp) (by kernel_rfl))) Try.underlying5 rfl _ (cell_getD (HW.out _ hgr) 7 (by omega)) (hK _ _ (Below.refl _ _) rfl)
    · exact wp_conv (.tmp 72) rfl _ _ ((at_dst 31 (by kernel_rfl)).trans (hdep 31 (by simp) (by kernel_rfl))) (conv_int _ _ (by omega) (by omega)) (hK _ _ (Below.refl _ _) rfl)
    · exact wp_move (.tmp 0) rfl _ (at_out _ (by kernel_rfl) rfl) (hK _ _ (Below.refl _ _) rfl)
    · exact wp_slice (.tmp 74) rfl _ _ (some (.int .i64 8)) (some (.int .i64 24)) none ((at_dst 33 (by kernel_rfl)).trans (hdep 33 (by simp) (by kernel_rfl))) rfl rfl rfl (cutA_lh b p n c 8 24 _ (by omega) (by omega)) (hK _ _ (Below.refl _ _) rfl)
    · exact wp_conv (.tmp 75) rfl _ _ ((at_dst 34 (by kernel_rfl)).trans (hdep 34 (by simp) (by kernel_rfl))) (run_string_bytes (cutA_holds (lo := 8) (hi := 24) (HW.out _ hgr) (by omega) (by omega))) (hK _ _ (Below.refl _ _) rfl)
    · exact wp_move (.tmp 0) rfl _ (at_out _ (by kernel_rfl) rfl) (hK _ _ (Below.refl _ _) rfl)
    · exact wp_slice (.tmp 77) rfl _ _ (some (.int .i64 24)) (some (.int .i64 40)) none ((at_dst 36 (by kernel_rfl)).trans (hdep 36 (by simp) (by kernel_rfl))) rfl rfl rfl (cutA_lh b p n c 24 40 _ (by omega) (by omega)) (hK _ _ (Below.refl _ _) rfl)
    · exact wp_conv (.tmp 78) rfl _ _ ((at_dst 37 (by kernel_rfl)).trans (hdep 37 (by simp) (by kernel_rfl))) (run_string_bytes (cutA_holds (lo := 24) (hi := 40) (HW.out _ hgr) (by omega) (by omega))) (hK _ _ (Below.refl _ _) rfl)
    · have eq11 : vals 11 = .int .i64 ((l.getD 0 0 % 16) * 16 + (l.getD 1 0 / 16)) := hdep 11 (by simp) (by kernel_rfl)
      have eq28 : vals 28 = .int .i64 (65536 * (l.getD 1 0 % 16) + (256 * l.getD 2 0) + l.getD 3 0) := hdep 28 (by simp) (by kernel_rfl)
      have eq32 : vals 32 = .int .i64 (l.getD 7 0) := hdep 32 (by simp) (by kernel_rfl)
      have eq35 : vals 35 = .string (strOfNums ((l.drop 8).take 16)) := hdep 35 (by simp) (by kernel_rfl)
      have eq38 : vals 38 = .string (strOfNums ((l.drop 24).take 16)) := hdep 38 (by simp) (by kernel_rfl)
      refine st_build ([(0, 52, 11), (1, 69, 28), (2, 73, 32), (3, 76, 35), (4, 79, 38)].map fun q => (q.1, Operand.tmp q.2.1)) rfl ([(0, 52, 11), (1, 69, 28), (2, 73, 32), (3, 76, 35), (4, 79, 38)].map fun q => (q.1, vals q.2.2)) (map_fill [(0, 52, 11), (1, 69, 28), (2, 73, 32), (3, 76, 35), (4, 79, 38)] (by kernel_rfl)) (.agg #[.int .i64 (l.getD 0 0 % 16 * 16 + l.getD 1 0 / 16), .int .i64 (65536 * (l.getD 1 0 % 16) + 256 * l.getD 2 0 + l.getD 3 0), .int .i64 (l.getD 7 0), .string (strOfNums ((l.drop 8).take 16)), .string (strOfNums ((l.drop 24).take 16)), .slice none 0 0, .int .i64 0, .slice none 0 0]) ?_ (hK _ _ (Below.refl _ _) rfl)
      simp only [List.map, eq11, eq28, eq32, eq35, eq38]
      exact build6' _ _ _ _ _ _
    · exact st_alloc6 rfl (hK _ _ ((Below.refl _ _).alloc (Nat.le_refl _) _) ⟨_, rfl, hgr.size, Blk.new _ _ _⟩)
  · intro vals w' hgr hG
    obtain ⟨g, eg, hg1, hg2⟩ : ∃ g, vals 40 = .pointer (some ⟨g, 0, none⟩) ∧ w1.heap.size ≤ g ∧ Blk w' g 25 #[.int .i64 0, .int .i64 0, .int .i64 0, .string ⟨#[]⟩, .string ⟨#[]⟩, .slice none 0 0, .int .i64 0, .slice none 0 0] := hG 40 (by simp)
    refine st_store_row 25 (.tmp 5) (.tmp 80) rfl g _ ((at_dst 40 (by kernel_rfl)).trans eg) ((at_dst 39 (by kernel_rfl)).trans (hG 39 (by simp))) 25 _ hg2 (by kernel_rfl) rfl (one8 _ _ _ _ _ _ _ _ _ _ _ _) (wpAnyH_done (by kernel_rfl) ?_ _)
    have NB := Lib.hid (setRow_blk hg2 #[.int .i64 (l.getD 0 0 % 16 * 16 + l.getD 1 0 / 16), .int .i64 (65536 * (l.getD 1 0 % 16) + 256 * l.getD 2 0 + l.getD 3 0), .int .i64 (l.getD 7 0), .string (strOfNums ((l.drop 8).take 16)), .string (strOfNums ((l.drop 24).take 16)), .slice none 0 0, .int .i64 0, .slice none 0 0])
    have BW := Lib.hid (setRow_bel ((below_drewN (Below.refl w1.heap.size w1) 1).trans hgr) hg1 #[.int .i64 (l.getD 0 0 % 16 * 16 + l.getD 1 0 / 16), .int .i64 (65536 * (l.getD 1 0 % 16) + 256 * l.getD 2 0 + l.getD 3 0), .int .i64 (l.getD 7 0), .string (strOfNums ((l.drop 8).take 16)), .string (strOfNums ((l.drop 24).take 16)), .slice none 0 0, .int .i64 0, .slice none 0 0])
    have gin : g < w'.heap.size := hg2.lt
    clear hG hg2 hgr
    generalize w'.setRow g #[.int .i64 (l.getD 0 0 % 16 * 16 + l.getD 1 0 / 16), .int .i64 (65536 * (l.getD 1 0 % 16) + 256 * l.getD 2 0 + l.getD 3 0), .int .i64 (l.getD 7 0), .string (strOfNums ((l.drop 8).take 16)), .string (strOfNums ((l.drop 24).take 16)), .slice none 0 0, .int .i64 0, .slice none 0 0] = w2 at *
    simp only [fill, dstAt, List.getElem?_cons_zero, List.getElem?_cons_succ, Option.bind_some, Act.put, List.setIfInBounds_toArray, List.set_cons_zero, List.set_cons_succ]
    rw [eg]
    clear eg
    have B2 := Lib.hid (B1.out.trans (BW.out.mono B1.out.size))
    have R2 := Lib.hid (R1.out.below BW.out R1.out.lt)
    have c6 := cell_getD (H0.out.below (B2.out.mono hB)) 6 (by omega)
    have e6 : IntKind.i64.wrap (l.getD 6 0) = l.getD 6 0 := IntWalk.i64_in _ (by omega)
    have i6 : (6 : Int) < (n : Int) := by omega
    obtain ⟨a0, ha0⟩ : ∃ a0, a0 = l.getD 0 0 % 16 * 16 + l.getD 1 0 / 16 := ⟨_, rfl⟩
    obtain ⟨a1, ha1⟩ : ∃ a1, a1 = 65536 * (l.getD 1 0 % 16) + 256 * l.getD 2 0 + l.getD 3 0 := ⟨_, rfl⟩
    obtain ⟨a2, ha2⟩ : ∃ a2, a2 = l.getD 7 0 := ⟨_, rfl⟩
    obtain ⟨s0, hs0⟩ : ∃ s0, s0 = strOfNums ((l.drop 8).take 16) := ⟨_, rfl⟩
    obtain ⟨s1, hs1⟩ : ∃ s1, s1 = strOfNums ((l.drop 24).take 16) := ⟨_, rfl⟩
    have HA : Hid (a0 = (pkOf l).cls ∧ a1 = (pkOf l).lab ∧ a2 = (pkOf l).hop ∧ s0 = (pkOf l).src ∧ s1 = (pkOf l).dst) := Lib.hid ⟨ha0, ha1, ha2, hs0, hs1⟩
    rw [← ha0, ← ha1, ← ha2, ← hs0, ← hs1] at NB
    clear ha0 ha1 ha2 hs0 hs1
    have wg : w.heap.size < g := by have := R1.out.lt; omega
    obtain ⟨k0, hk0⟩ : ∃ k0, k0 = l.getD 6 0 := ⟨_, rfl⟩
    rw [← hk0] at c6 e6
    have zk : 0 ≤ k0 ∧ k0 ≤ 255 := by rw [hk0]; exact z6
    have HK := Lib.hid hk0
    clear hk0
    generalize vals 0 = x0, vals 1 = x1, vals 2 = x2, vals 3 = x3, vals 4 = x4, vals 5 = x5, vals 6 = x6, vals 7 = x7, vals 8 = x8, vals 9 = x9, vals 10 = x10, vals 11 = x11, vals 12 = x12, vals 13 = x13, vals 14 = x14, vals 15 = x15, vals 16 = x16, vals 17 = x17, vals 18 = x18, vals 19 = x19, vals 20 = x20, vals 21 = x21, vals 22 = x22, vals 23 = x23, vals 24 = x24, vals 25 = x25, vals 26 = x26, vals 27 = x27, vals 28 = x28, vals 29 = x29, vals 30 = x30, vals 31 = x31, vals 32 = x32, vals 33 = x33, vals 34 = x34, vals 35 = x35, vals 36 = x36, vals 37 = x37, vals 38 = x38, vals 39 = x39
    clear z0 z1 z2 z3 z6 z7 HW BW R1 B1 B0 R0 hg1
    go_wp2_with fail
    clear c6 e6 i6
    go_loopw [6, 7] (fun s6 s7 wr => Rl w n g l a0 a1 a2 s0 s1 s6 s7 wr) (fun _ s7 _ => n - (intOf s7).toNat)
    case atStart => exact ⟨k0, [], 40, none, 0, rfl, rfl, by simp, by omega, by simp, zk, NB, Lib.hid (World.ownsRow_nil _ _ _ _), B2, R2, Lib.hid (by rw [HK.out]; simp)⟩
    case round =>
      obtain ⟨k, xs, at_, E, ce, rfl, rfl, hlen, hat, h40x, ⟨k1, k2⟩, KB, OX, BB, RB, EE⟩ := hrel
      have BT := Lib.hid (fun W => between_ref k W)
      have hbs := BB.out.size
      have gin2 := KB.out.lt
      clear NB B2 R2 zk HK
      have HT := Lib.hid (cutA_rest (lo := at_) (H0.out.below (BB.out.mono hB)) (by omega))
      cases hb : btw k
      · have EX : exts (l.getD 6 0) true (l.drop 40) = some (xs, k, l.drop at_) := by
          rw [← EE.out, exts, if_pos hb]; simp
        have TL : P6.tail l = (xs, k, l.drop at_) := by unfold P6.tail; rw [EX]; rfl
        have PE : Hid (perr l = 0) := Lib.hid (by rw [EZ.out, EX]; simp)
        have PV : Hid (∀ D, Value.agg #[.int .i64 a0, .int .i64 a1, .int .i64 a2, .string s0, .string s1, .slice E xs.length ce, .int .i64 k, D] = Value.agg #[.int .i64 (pkOf l).cls, .int .i64 (pkOf l).lab, .int .i64 (pkOf l).hop, .string (pkOf l).src, .string (pkOf l).dst, .slice E (pkOf l).exts.length ce, .int .i64 (pkOf l).next, D]) := Lib.hid (fun D => by
          obtain ⟨e0, e1, e2, e3, e4⟩ := HA.out
          have te : (pkOf l).exts = xs := by unfold pkOf; rw [TL]
          have tn : (pkOf l).next = k := by unfold pkOf; rw [TL]
          rw [te, tn, ← e0, ← e1, ← e2, ← e3, ← e4])
        have TX : Hid ((pkOf l).exts = xs ∧ (P6.tail l).2.2 = l.drop at_) := Lib.hid ⟨by unfold pkOf; rw [TL], by rw [TL]⟩
        rw [hb] at BT
        clear hb EX TL EE
        have y6 := KB.out.cell 6
        have f6 := KB.out.frozen 6
        have K2 := Lib.hid (KB.out.put 6 (.int .i64 k))
        have R2 := Lib.hid (RB.out.far (p := ⟨g, 6, none⟩) (by show w.heap.size ≠ g; omega) (.int .i64 k))
        have B2 := Lib.hid (BB.out.setCell (p := ⟨g, 6, none⟩) (by show w.heap.size ≤ g; omega) (.int .i64 k))
        have O2 := Lib.hid (own_far OX.out (p := ⟨g, 6, none⟩) (by show g < g + 1; omega) (.int .i64 k))
        have CU : ∀ W, (Instr.sliceAt 23 (.slice (some ⟨b, p, none⟩) n c) (some (.int .i64 (at_ : Int))) none none).run Try.prog W = .ok (.slice (some (adr b p c at_)) (n - at_) (c - at_)) W := fun W => cutA_l b p n c at_ W (by omega) (by omega)
        have T2 := Lib.hid (cutA_rest (lo := at_) (H0.out.below (B2.out.mono hB)) (by omega))
        go_wp2_with fail
        refine (BT.out _).mono ?_
        rintro e wv ⟨rfl, rfl⟩
        go_wp2_with fail
        refine (Both.both_lit (B := B) (by simp; omega) [⟨some (adr b p c at_), n - at_, c - at_, l.drop at_⟩] _ _ rfl (Both.mem1 T2.out) _ 1 (by simp) rfl (by decide) (by show n - at_ + 0 ≤ 1048576; omega)).mono ?_
        rintro e w3 ⟨A2, c2, rfl, _, o3, hb3⟩
        have o3' : Owns w3 (wr.setCell ⟨g, 6, none⟩ (.int .i64 k)).heap.size (.slice A2 (n - at_) c2) (n - at_) (l.drop at_) := by
          have e1 : Both.flat [⟨some (adr b p c at_), n - at_, c - at_, l.drop at_⟩] = l.drop at_ := by simp [Both.flat]
          rw [e1] at o3
          exact o3
        have e0 : Both.total [⟨some (adr b p c at_), n - at_, c - at_, l.drop at_⟩] = n - at_ := rfl
        rw [e0]
        have sz2 : (wr.setCell ⟨g, 6, none⟩ (.int .i64 k)).heap.size = wr.heap.size := by simp
        have B3 := Lib.hid (B2.out.trans (hb3.mono B2.out.size))
        have K3 := Lib.hid (K2.out.below hb3 K2.out.lt)
        have R3 := Lib.hid (R2.out.below hb3 R2.out.lt)
        have O3 := Lib.hid (own_below O2.out hb3)
        have D3 := Lib.hid o3'
        clear hb3 o3 o3' y6 f6 KB RB OX HT BB CU K2 R2 B2 O2 T2 e0
        have y7 := K3.out.cell 7
        have f7 := K3.out.frozen 7
        have K4 := Lib.hid (K3.out.put 7 (.slice A2 (n - at_) c2))
        have R4 := Lib.hid (R3.out.far (p := ⟨g, 7, none⟩) (by show w.heap.size ≠ g; omega) (.slice A2 (n - at_) c2))
        have B4 := Lib.hid (B3.out.setCell (p := ⟨g, 7, none⟩) (by show w.heap.size ≤ g; omega) (.slice A2 (n - at_) c2))
        have O4 := Lib.hid (own_far O3.out (p := ⟨g, 7, none⟩) (by show g < g + 1; omega) (.slice A2 (n - at_) c2))
        have D4 := Lib.hid (D3.out.kept (row := some g) (grown_set w3 ⟨g, 7, none⟩ (.slice A2 (n - at_) c2)) (owns_ne D3.out (by omega)))
        clear K3 R3 B3 O3 D3
        go_wp2_with (first
          | (refine Loads.wpList_load_w rfl 25 (.tmp 5) rfl g rfl 25 #[.int .i64 a0, .int .i64 a1, .int .i64 a2, .string s0, .string s1, .slice E xs.length ce, .int .i64 k, .slice A2 (n - at_) c2] (0, 0) _ K4.out (Try.underlying25) rfl (by kernel_rfl) ?_)
          | (refine wpList_store_row rfl 25 (.tmp 2) (.tmp 152) rfl w.heap.size #[.int .i64 a0, .int .i64 a1, .int .i64 a2, .string s0, .string s1, .slice E xs.length ce, .int .i64 k, .slice A2 (n - at_) c2] rfl rfl 25 _ R4.out (by kernel_rfl) rfl (one8 _ _ _ _ _ _ _ _ _ _ _ _) ?_))
        refine bodyPost_ret (results_pair rfl _ _ w.heap.size 25 _ (0, 0) _ _ rfl rfl (setRow_heap _ _ _ _ _ _ R4.out) Try.underlying25 rfl (by kernel_rfl)) rfl ⟨.inl ⟨PE.out, E, ce, A2, n - at_, c2, by rw [PV.out]; rfl, ?_, ?_⟩, setRow_bel B4.out (Nat.le_refl _) _⟩
        · rw [TX.out.1]
          exact own_mono (own_row O4.out (by omega) _) (by omega)
        · rw [TX.out.2]
          exact (D4.out.kept (row := some w.heap.size) (grown_row _ _ _) (owns_ne D4.out (by omega))).mono (by omega)
      · rw [hb] at BT
        have tl : (l.drop at_).length = n - at_ := HT.out.1
        obtain ⟨t, ht⟩ : ∃ t, t = l.drop at_ := ⟨_, rfl⟩
        have td : ∀ i, t.getD i 0 = l.getD (at_ + i) 0 := fun i => by rw [ht]; simp [List.getD]
        rw [← ht] at tl EE
        have TD := Lib.hid td
        by_cases q1 : n < at_ + 8
        · have EX : exts (l.getD 6 0) true (l.drop 40) = none := by
            rw [← EE.out, exts_bad hb (.inr (.inl (by omega)))]; rfl
          have PE : Hid (perr l = 4) := Lib.hid (by rw [EZ.out, if_pos EX])
          have q1' : decide (n < at_ + 8) = true := decide_eq_true q1
          have q1i : (n : Int) < (at_ : Int) + 8 := by omega
          clear EX EE HT td TD
          go_wp2_with fail
          refine (BT.out _).mono ?_
          rintro e wv ⟨rfl, rfl⟩
          go_wp2_with (first
            | (refine wpList_store_row rfl 25 (.tmp 2) (.tmp 100) rfl w.heap.size #[.int .i64 0, .int .i64 0, .int .i64 0, .string ⟨#[]⟩, .string ⟨#[]⟩, .slice none 0 0, .int .i64 0, .slice none 0 0] rfl rfl 25 _ RB.out (by kernel_rfl) rfl (one8 _ _ _ _ _ _ _ _ _ _ _ _) ?_))
          exact bodyPost_ret (results_pair rfl _ _ w.heap.size 25 _ (0, 0) _ _ rfl rfl (setRow_heap _ _ _ _ _ _ RB.out) Try.underlying25 rfl (by kernel_rfl)) rfl ⟨.inr ⟨by rw [PE.out]; decide, by rw [PE.out]; rfl⟩, setRow_bel BB.out (Nat.le_refl _) _⟩
        by_cases q2 : k = 0 ∧ 40 < at_
        · have EX : exts (l.getD 6 0) true (l.drop 40) = none := by
            rw [← EE.out, exts_bad hb (.inl ⟨q2.1, by rcases Nat.eq_zero_or_pos xs.length with q | q; (have := h40x q; omega); exact q⟩)]; rfl
          have PE : Hid (perr l = 4) := Lib.hid (by rw [EZ.out, if_pos EX])
          obtain ⟨rfl, q2b⟩ := q2
          have q1' : decide (n < at_ + 8) = false := decide_eq_false q1
          have q2' : decide (40 < at_) = true := decide_eq_true q2b
          have q1i : ¬ (n : Int) < (at_ : Int) + 8 := by omega
          have q2i : (40 : Int) < (at_ : Int) := by omega
          clear EX EE HT td TD
          go_wp2_with fail
          refine (BT.out _).mono ?_
          rintro e wv ⟨rfl, rfl⟩
          go_wp2_with (first
            | (refine wpList_store_row rfl 25 (.tmp 2) (.tmp 100) rfl w.heap.size #[.int .i64 0, .int .i64 0, .int .i64 0, .string ⟨#[]⟩, .string ⟨#[]⟩, .slice none 0 0, .int .i64 0, .slice none 0 0] rfl rfl 25 _ RB.out (by kernel_rfl) rfl (one8 _ _ _ _ _ _ _ _ _ _ _ _) ?_))
          exact bodyPost_ret (results_pair rfl _ _ w.heap.size 25 _ (0, 0) _ _ rfl rfl (setRow_heap _ _ _ _ _ _ RB.out) Try.underlying25 rfl (by kernel_rfl)) rfl ⟨.inr ⟨by rw [PE.out]; decide, by rw [PE.out]; rfl⟩, setRow_bel BB.out (Nat.le_refl _) _⟩
        have T8 := end_ge k t
        obtain ⟨T, hTe⟩ : ∃ T, T = endOf k t := ⟨_, rfl⟩
        rw [← hTe] at T8
        have q1' : decide (n < at_ + 8) = false := decide_eq_false q1
        have q1i : ¬ (n : Int) < (at_ : Int) + 8 := by omega
        have zu := getD_in H0.out.2.2.2.1 (at_ + 1)
        have cu := cell_getD (H0.out.below (BB.out.mono hB)) (at_ + 1) (by omega)
        obtain ⟨u1, hu1⟩ : ∃ u1, u1 = l.getD (at_ + 1) 0 := ⟨_, rfl⟩
        rw [← hu1] at zu cu
        have td' : ∀ i, (l.drop at_).getD i 0 = l.getD (at_ + i) 0 := fun i => by rw [← ht]; exact td i
        by_cases q3 : n < at_ + T
        · have EX : exts (l.getD 6 0) true (l.drop 40) = none := by
            rw [← EE.out, exts_bad hb (.inr (.inr (by omega)))]; rfl
          have PE : Hid (perr l = 4) := Lib.hid (by rw [EZ.out, if_pos EX])
          by_cases kz : k = 0
          · subst kz
            have q2' : decide (40 < at_) = false := decide_eq_false (by omega)
            have q2i : ¬ (40 : Int) < (at_ : Int) := by omega
            have hT : (T : Int) = 8 * (u1 + 1) := by
              rw [hTe, endOf, if_neg (by decide), td 1, ← hu1]; omega
            have g1 : IntKind.i64.wrap u1 = u1 := IntWalk.i64_in _ (by omega)
            have g2 : IntKind.i64.wrap (u1 + 1) = u1 + 1 := IntWalk.i64_in _ (by omega)
            have g3 : IntKind.i64.wrap (8 * (u1 + 1)) = (T : Int) := by rw [hT]; exact IntWalk.i64_in _ (by omega)
            have i1 : (at_ : Int) + 1 < (n : Int) := by omega
            have q3' : decide (n < at_ + T) = true := decide_eq_true (by omega)
            have q3i : (n : Int) < (at_ : Int) + (T : Int) := by omega
            clear hTe hu1 td EX EE HT TD ht
            go_wp2_with fail
            refine (BT.out _).mono ?_
            rintro e wv ⟨rfl, rfl⟩
            go_wp2_with (first
              | (refine wpList_store_row rfl 25 (.tmp 2) (.tmp 121) rfl w.heap.size #[.int .i64 0, .int .i64 0, .int .i64 0, .string ⟨#[]⟩, .string ⟨#[]⟩, .slice none 0 0, .int .i64 0, .slice none 0 0] rfl rfl 25 _ RB.out (by kernel_rfl) rfl (one8 _ _ _ _ _ _ _ _ _ _ _ _) ?_))
            exact bodyPost_ret (results_pair rfl _ _ w.heap.size 25 _ (0, 0) _ _ rfl rfl (setRow_heap _ _ _ _ _ _ RB.out) Try.underlying25 rfl (by kernel_rfl)) rfl ⟨.inr ⟨by rw [PE.out]; decide, by rw [PE.out]; rfl⟩, setRow_bel BB.out (Nat.le_refl _) _⟩
          by_cases k4 : k = 44
          · subst k4
            obtain rfl : T = 8 := by rw [hTe, endOf, if_pos rfl]
            exact absurd q3 q1
          have kz' : (k == 0) = false := beq_eq_false_iff_ne.2 kz
          have k4' : (k != 44) = true := by rw [bne_iff_ne]; exact k4
          have hT : (T : Int) = 8 * (u1 + 1) := by
            rw [hTe, endOf, if_neg (by exact k4), td 1, ← hu1]; omega
          have g1 : IntKind.i64.wrap u1 = u1 := IntWalk.i64_in _ (by omega)
          have g2 : IntKind.i64.wrap (u1 + 1) = u1 + 1 := IntWalk.i64_in _ (by omega)
          have g3 : IntKind.i64.wrap (8 * (u1 + 1)) = (T : Int) := by rw [hT]; exact IntWalk.i64_in _ (by omega)
          have i1 : (at_ : Int) + 1 < (n : Int) := by omega
          have q3' : decide (n < at_ + T) = true := decide_eq_true (by omega)
          have q3i : (n : Int) < (at_ : Int) + (T : Int) := by omega
          clear hTe hu1 td EX EE HT TD ht
          go_wp2_with fail
          refine (BT.out _).mono ?_
          rintro e wv ⟨rfl, rfl⟩
          go_wp2_with (first
            | (refine wpList_store_row rfl 25 (.tmp 2) (.tmp 121) rfl w.heap.size #[.int .i64 0, .int .i64 0, .int .i64 0, .string ⟨#[]⟩, .string ⟨#[]⟩, .slice none 0 0, .int .i64 0, .slice none 0 0] rfl rfl 25 _ RB.out (by kernel_rfl) rfl (one8 _ _ _ _ _ _ _ _ _ _ _ _) ?_))
          exact bodyPost_ret (results_pair rfl _ _ w.heap.size 25 _ (0, 0) _ _ rfl rfl (setRow_heap _ _ _ _ _ _ RB.out) Try.underlying25 rfl (by kernel_rfl)) rfl ⟨.inr ⟨by rw [PE.out]; decide, by rw [PE.out]; rfl⟩, setRow_bel BB.out (Nat.le_refl _) _⟩
        have hgood : ¬ bad k xs.length t := by
          rintro (⟨a, b⟩ | a | a)
          · exact q2 ⟨a, by omega⟩
          · omega
          · omega
        have GW : Hid (∀ w', Below wr.drew.heap.size wr.drew w' → Blk w' g 25 #[.int .i64 a0, .int .i64 a1, .int .i64 a2, .string s0, .string s1, .slice E xs.length ce, .int .i64 0, .slice none 0 0]) := Lib.hid fun w' hw => KB.out.drew.below hw KB.out.lt
        have HW : Hid (∀ w', Below wr.drew.heap.size wr.drew w' → Holds w' B (some ⟨b, p, none⟩) n c l) := Lib.hid fun w' hw => H0.out.below ((BB.out.trans (((below_drewN (Below.refl wr.heap.size wr) 1).trans hw).mono hbs)).mono hB)
        by_cases kz : k = 0
        · subst kz
          have q2' : decide (40 < at_) = false := decide_eq_false (by omega)
          have q2i : ¬ (40 : Int) < (at_ : Int) := by omega
          have hT : (T : Int) = 8 * (u1 + 1) := by
            rw [hTe, endOf, if_neg (by decide), td 1, ← hu1]; omega
          have g1 : IntKind.i64.wrap u1 = u1 := IntWalk.i64_in _ (by omega)
          have g2 : IntKind.i64.wrap (u1 + 1) = u1 + 1 := IntWalk.i64_in _ (by omega)
          have g3 : IntKind.i64.wrap (8 * (u1 + 1)) = (T : Int) := by rw [hT]; exact IntWalk.i64_in _ (by omega)
          have i1 : (at_ : Int) + 1 < (n : Int) := by omega
          have q3' : decide (n < at_ + T) = false := decide_eq_false (by omega)
          have q3i : ¬ (n : Int) < (at_ : Int) + (T : Int) := by omega
          obtain ⟨d, hd⟩ : ∃ d, d = strOfNums ((t.take (endOf 0 t)).drop (opn 0)) := ⟨_, rfl⟩
          obtain ⟨F0, hF0⟩ : ∃ F0, F0 = at_ + 2 := ⟨_, rfl⟩
          obtain ⟨H, hH⟩ : ∃ H, H = at_ + T := ⟨_, rfl⟩
          have hF : (F0 : Int) = (at_ : Int) + 1 + 1 := by omega
          have HI : Hid ((at_ : Int) + (T : Int) = (H : Int)) := Lib.hid (by omega)
          have GO := Lib.hid (exts_go hb hgood)
          rw [← hd, ← hTe, ht, List.drop_drop, ← hH, td' 0, Nat.add_zero] at GO
          have DS : Hid (strOfNums ((l.drop F0).take (H - F0)) = d) := Lib.hid (by rw [hd, ← hTe, ht, hF0, hH, show opn 0 = 2 from rfl, List.drop_take, List.drop_drop]; congr 2; omega)
          have EE' : Hid ((exts 0 (xs.length == 0) (l.drop at_)).map (fun q => (xs ++ q.1, q.2)) = exts (l.getD 6 0) true (l.drop 40)) := Lib.hid (by rw [← ht]; exact EE.out)
          clear hTe hu1 td hd ht EE HT TD hgood hb
          go_wp2_with fail
          refine (BT.out _).mono ?_
          rintro e wv ⟨rfl, rfl⟩
          go_wp2_with fail
          rw [← hT, ← hF]
          clear hT hF g1 g2 g3
          refine wp_region_free [0, 1, 2, 3, 4, 5, 6, 7, 8, 9, 10, 11] 12 [13, 14] (fun w1 w2 => Below w1.heap.size w1 w2) (fun k' w' v => match k' with
            | 0 => v = .pointer (some ⟨g, 5, none⟩)
            | 1 => v = .slice E xs.length ce
            | 2 => v = .int .i64 0
            | 3 => v = .slice (some ⟨b, p, none⟩) n c
            | 4 => v = .int .i64 ((F0 : Int))
            | 5 => v = .int .i64 ((at_ : Int))
            | 6 => v = .int .i64 ((T : Int))
            | 7 => v = .int .i64 ((H : Int))
            | 8 => v = .slice (some (adr b p c F0)) (H - F0) (c - F0)
            | 9 => v = .string d
            | 10 => v = .agg #[.int .i64 0, .string d]
            | _ => ∃ B', v = .slice (some ⟨B', 0, none⟩) 1 1 ∧ wr.heap.size ≤ B' ∧ Blk w' B' 43 #[.int .i64 0, .string d]) (by kernel_rfl) (by kernel_rfl) (Below.refl _ _) (fun _ _ _ h k => h.trans (k.mono h.size)) (fun k' w1 w2 v h => match k' with
            | 0 => fun x => x
            | 1 => fun x => x
            | 2 => fun x => x
            | 3 => fun x => x
            | 4 => fun x => x
            | 5 => fun x => x
            | 6 => fun x => x
            | 7 => fun x => x
            | 8 => fun x => x
            | 9 => fun x => x
            | 10 => fun x => x
            | _ + 11 => fun ⟨g, e, h1, h2⟩ => ⟨g, e, h1, h2.below h h2.lt⟩) (fun _ _ _ _ _ h => h) ?_ _ (by rfl) ?_
          · refine obs_cons (by rfl) (fun vals w' hgr hdep K hK => ?_) (obs_cons (by rfl) (fun vals w' hgr hdep K hK => ?_) (obs_cons (by rfl) (fun vals w' hgr hdep K hK => ?_) (obs_cons (by rfl) (fun vals w' hgr hdep K hK => ?_) (obs_cons (by rfl) (fun vals w' hgr hdep K hK => ?_) (obs_cons (by rfl) (fun vals w' hgr hdep K hK => ?_) (obs_cons (by rfl) (fun vals w' hgr hdep K hK => ?_) (obs_cons (by rfl) (fun vals w' hgr hdep K hK => ?_) (obs_cons (by rfl) (fun vals w' hgr hdep K hK => ?_) (obs_cons (by rfl) (fun vals w' hgr hdep K hK => ?_) (obs_cons (by rfl) (fun vals w' hgr hdep K hK => ?_) (obs_cons (by rfl) (fun vals w' hgr hdep K hK => ?_) (obs_nil))))))))))))
            · exact wp_field (.tmp 5) rfl _ _ (at_out _ (by kernel_rfl) rfl) (field5 g _) (hK _ _ (Below.refl _ _) rfl)
            · exact wp_load1 (.tmp 122) rfl ⟨g, 5, none⟩ ((at_dst 0 (by kernel_rfl)).trans (hdep 0 (by simp) (by kernel_rfl))) Try.underlying22 rfl _ ((GW.out _ hgr).cell 5) (hK _ _ (Below.refl _ _) rfl)
            · exact wp_move (.tmp 6) rfl _ (at_out _ (by kernel_rfl) rfl) (hK _ _ (Below.refl _ _) rfl)
            · exact wp_move (.tmp 0) rfl _ (at_out _ (by kernel_rfl) rfl) (hK _ _ (Below.refl _ _) rfl)
            · exact wp_move (.tmp 9) rfl _ (at_out _ (by kernel_rfl) rfl) (hK _ _ (Below.refl _ _) rfl)
            · exact wp_move (.tmp 7) rfl _ (at_out _ (by kernel_rfl) rfl) (hK _ _ (Below.refl _ _) rfl)
            · exact wp_move (.tmp 8) rfl _ (at_out _ (by kernel_rfl) rfl) (hK _ _ (Below.refl _ _) rfl)
            · exact wp_bin (.tmp 127) (.tmp 128) rfl _ _ (.int .i64 (H : Int)) ((at_dst 5 (by kernel_rfl)).trans (hdep 5 (by simp) (by kernel_rfl))) ((at_dst 6 (by kernel_rfl)).trans (hdep 6 (by simp) (by kernel_rfl))) (by have := b_add (at_ : Int) (T : Int) (.tmp 127) (.tmp 128) w' (by omega) (by omega); rwa [HI.out] at this) (hK _ _ (Below.refl _ _) rfl)
            · exact wp_slice (.tmp 125) rfl _ _ (some (.int .i64 (F0 : Int))) (some (.int .i64 (H : Int))) none ((at_dst 3 (by kernel_rfl)).trans (hdep 3 (by simp) (by kernel_rfl))) (congrArg some ((at_dst 4 (by kernel_rfl)).trans (hdep 4 (by simp) (by kernel_rfl)))) (congrArg some ((at_dst 7 (by kernel_rfl)).trans (hdep 7 (by simp) (by kernel_rfl)))) rfl (cutA_lh b p n c F0 H _ (by omega) (by omega)) (hK _ _ (Below.refl _ _) rfl)
            · exact wp_conv (.tmp 130) rfl _ _ ((at_dst 8 (by kernel_rfl)).trans (hdep 8 (by simp) (by kernel_rfl))) (by have := run_string_bytes (cutA_holds (lo := F0) (hi := H) (HW.out _ hgr) (by omega) (by omega)); rwa [DS.out] at this) (hK _ _ (Below.refl _ _) rfl)
            · have eq2 : vals 2 = .int .i64 0 := hdep 2 (by simp) (by kernel_rfl)
              have eq9 : vals 9 = .string d := hdep 9 (by simp) (by kernel_rfl)
              refine st_build ([(0, 124, 2), (1, 131, 9)].map fun q => (q.1, Operand.tmp q.2.1)) rfl ([(0, 124, 2), (1, 131, 9)].map fun q => (q.1, vals q.2.2)) (map_fill [(0, 124, 2), (1, 131, 9)] (by kernel_rfl)) (.agg #[.int .i64 0, .string d]) ?_ (hK _ _ (Below.refl _ _) rfl)
              simp only [List.map, eq2, eq9]
              exact buildX 0 d _
            · exact st_sliceX (.tmp 132) rfl 0 d ((at_dst 10 (by kernel_rfl)).trans (hdep 10 (by simp) (by kernel_rfl))) (hK _ _ ((Below.refl _ _).alloc (Nat.le_refl _) _) ⟨_, rfl, hgr.size, Blk.new _ _ _⟩)
          · intro vals w' hgr hG
            obtain ⟨B', eB, hB1, hB2⟩ : ∃ B', vals 11 = .slice (some ⟨B', 0, none⟩) 1 1 ∧ wr.heap.size ≤ B' ∧ Blk w' B' 43 #[.int .i64 0, .string d] := hG 11 (by simp)
            have bel : Below wr.heap.size wr w' := (below_drewN (Below.refl wr.heap.size wr) 1).trans hgr
            have OW := own_below OX.out bel
            have GB := GW.out _ hgr
            refine st_append_pair (.tmp 123) (.tmp 133) rfl (g + 1) (.slice E xs.length ce) xs.length (Opts.cells xs) ((at_dst 1 (by kernel_rfl)).trans (hG 1 (by simp))) OW B' 0 d ((at_dst 11 (by kernel_rfl)).trans eB) hB2 (by omega) (by have := bel.size; omega) (fun v5 w5 ho5 hg5 => ?_)
            obtain ⟨E5, ce5, rfl⟩ := own_slice ho5
            have nE := own_ne OW (k := g) (by omega)
            have nR := own_ne OW (k := w.heap.size) (by omega)
            have K5 := GB.grown hg5 nE
            have R5 := ((RB.out.below bel RB.out.lt)).grown hg5 nR
            have B5 := ((BB.out.trans (bel.mono hbs)).grown hg5 (by have := bel.size; omega) (fun j hj => by have := (OW.lt j hj).1; omega))
            have gl := GB.lt
            refine wpAnyH_next 13 _ rfl rfl (by kernel_rfl) (wp_field (.tmp 5) rfl _ _ (put_tmps_ne (by rfl) (at_out _ (by kernel_rfl) rfl)) (field5 g _) ⟨trivial, ?_⟩)
            refine wpAnyH_next 14 _ rfl rfl (by kernel_rfl) (st_store_ext (.tmp 135) (.tmp 134) rfl ⟨g, 5, none⟩ (put_tmps_eq (put_size (fill_size _ _ _)) (by kernel_rfl)) (.slice E5 (xs.length + 1) ce5) (put_tmps_ne (by rfl) (put_tmps_eq (fill_size _ _ _) (by kernel_rfl))) rfl rfl _ (K5.cell 5) (K5.frozen 5) ⟨trivial, wpAnyH_done (by kernel_rfl) ?_ _⟩)
            have K6 := Lib.hid (K5.put 5 (.slice E5 (xs.length + 1) ce5))
            have R6 := Lib.hid (R5.far (p := ⟨g, 5, none⟩) (by show w.heap.size ≠ g; omega) (.slice E5 (xs.length + 1) ce5))
            have O6 := Lib.hid (own_far ho5 (p := ⟨g, 5, none⟩) (by show g < g + 1; omega) (.slice E5 (xs.length + 1) ce5))
            have B6 := Lib.hid (B5.setCell (p := ⟨g, 5, none⟩) (by show w.heap.size ≤ g; omega) (.slice E5 (xs.length + 1) ce5))
            clear hG hB2 eB GB OW K5 R5 B5 ho5 hg5 nE nR hgr bel HW GW
            generalize w5.setCell ⟨g, 5, none⟩ (.slice E5 (xs.length + 1) ce5) = w6 at *
            have ca := cell_getD (H0.out.below (B6.out.mono hB)) at_ (by omega)
            have za := getD_in H0.out.2.2.2.1 at_
            have ea : IntKind.i64.wrap (l.getD at_ 0) = l.getD at_ 0 := IntWalk.i64_in _ (by omega)
            have ia : (at_ : Int) < (n : Int) := by omega
            simp only [fill, dstAt, List.getElem?_cons_zero, List.getElem?_cons_succ, Option.bind_some, Act.put, List.setIfInBounds_toArray, List.set_cons_zero, List.set_cons_succ]
            generalize vals 0 = y0, vals 1 = y1, vals 2 = y2, vals 3 = y3, vals 4 = y4, vals 5 = y5, vals 6 = y6, vals 7 = y7, vals 8 = y8, vals 9 = y9, vals 10 = y10, vals 11 = y11
            obtain ⟨kk, hkk⟩ : ∃ kk, kk = l.getD at_ 0 := ⟨_, rfl⟩
            rw [← hkk] at ca za ea
            have KK := Lib.hid hkk
            clear hkk
            go_wp2_with fail
            go_roundw
            case rel =>
              have hi := HI.out
              have le : xs.length + 1 = (xs ++ [(0, d)]).length := by simp
              refine ⟨kk, xs ++ [(0, d)], H, E5, ce5, rfl, by rw [hi], by simp only [List.length_append, List.length_singleton]; omega, by omega, by simp, by omega, ?_, ?_, ?_, ?_, ?_⟩
              · have q := K6.out; rw [le] at q; exact Lib.hid q
              · have q := own_len O6.out; rw [le] at q; exact Lib.hid q
              · exact B6
              · exact R6
              · refine Lib.hid ?_
                have e : ((xs ++ [(0, d)]).length == 0) = false := by rw [beq_eq_false_iff_ne]; simp
                rw [e, ← EE'.out, GO.out, Option.map_map, KK.out]
                congr 1
                funext q
                simp
            case measure => have hi := HI.out; simp [intOf]; omega
        by_cases k4 : k = 44
        · subst k4
          obtain rfl : T = 8 := by rw [hTe, endOf, if_pos rfl]
          have q3' : decide (n < at_ + 8) = false := decide_eq_false (by omega)
          have q3i : ¬ (n : Int) < (at_ : Int) + 8 := by omega
          obtain ⟨d, hd⟩ : ∃ d, d = strOfNums ((t.take (endOf 44 t)).drop (opn 44)) := ⟨_, rfl⟩
          obtain ⟨F0, hF0⟩ : ∃ F0, F0 = at_ + 1 := ⟨_, rfl⟩
          obtain ⟨H, hH⟩ : ∃ H, H = at_ + 8 := ⟨_, rfl⟩
          have hF : (F0 : Int) = (at_ : Int) + 1 := by omega
          have HI : Hid ((at_ : Int) + (8 : Int) = (H : Int)) := Lib.hid (by omega)
          have GO := Lib.hid (exts_go hb hgood)
          rw [← hd, ← hTe, ht, List.drop_drop, ← hH, td' 0, Nat.add_zero] at GO
          have DS : Hid (strOfNums ((l.drop F0).take (H - F0)) = d) := Lib.hid (by rw [hd, ← hTe, ht, hF0, hH, show opn 44 = 1 from rfl, List.drop_take, List.drop_drop]; congr 2; omega)
          have EE' : Hid ((exts 44 (xs.length == 0) (l.drop at_)).map (fun q => (xs ++ q.1, q.2)) = exts (l.getD 6 0) true (l.drop 40)) := Lib.hid (by rw [← ht]; exact EE.out)
          clear hTe hu1 td hd ht EE HT TD hgood hb
          go_wp2_with fail
          refine (BT.out _).mono ?_
          rintro e wv ⟨rfl, rfl⟩
          go_wp2_with fail
          rw [← hF]
          clear hF
          refine wp_region_free [0, 1, 2, 3, 4, 5, 6, 7, 8, 9, 10, 11] 12 [13, 14] (fun w1 w2 => Below w1.heap.size w1 w2) (fun k' w' v => match k' with
            | 0 => v = .pointer (some ⟨g, 5, none⟩)
            | 1 => v = .slice E xs.length ce
            | 2 => v = .int .i64 44
            | 3 => v = .slice (some ⟨b, p, none⟩) n c
            | 4 => v = .int .i64 ((F0 : Int))
            | 5 => v = .int .i64 ((at_ : Int))
            | 6 => v = .int .i64 8
            | 7 => v = .int .i64 ((H : Int))
            | 8 => v = .slice (some (adr b p c F0)) (H - F0) (c - F0)
            | 9 => v = .string d
            | 10 => v = .agg #[.int .i64 44, .string d]
            | _ => ∃ B', v = .slice (some ⟨B', 0, none⟩) 1 1 ∧ wr.heap.size ≤ B' ∧ Blk w' B' 43 #[.int .i64 44, .string d]) (by kernel_rfl) (by kernel_rfl) (Below.refl _ _) (fun _ _ _ h k => h.trans (k.mono h.size)) (fun k' w1 w2 v h => match k' with
            | 0 => fun x => x
            | 1 => fun x => x
            | 2 => fun x => x
            | 3 => fun x => x
            | 4 => fun x => x
            | 5 => fun x => x
            | 6 => fun x => x
            | 7 => fun x => x
            | 8 => fun x => x
            | 9 => fun x => x
            | 10 => fun x => x
            | _ + 11 => fun ⟨g, e, h1, h2⟩ => ⟨g, e, h1, h2.below h h2.lt⟩) (fun _ _ _ _ _ h => h) ?_ _ (by rfl) ?_
          · refine obs_cons (by rfl) (fun vals w' hgr hdep K hK => ?_) (obs_cons (by rfl) (fun vals w' hgr hdep K hK => ?_) (obs_cons (by rfl) (fun vals w' hgr hdep K hK => ?_) (obs_cons (by rfl) (fun vals w' hgr hdep K hK => ?_) (obs_cons (by rfl) (fun vals w' hgr hdep K hK => ?_) (obs_cons (by rfl) (fun vals w' hgr hdep K hK => ?_) (obs_cons (by rfl) (fun vals w' hgr hdep K hK => ?_) (obs_cons (by rfl) (fun vals w' hgr hdep K hK => ?_) (obs_cons (by rfl) (fun vals w' hgr hdep K hK => ?_) (obs_cons (by rfl) (fun vals w' hgr hdep K hK => ?_) (obs_cons (by rfl) (fun vals w' hgr hdep K hK => ?_) (obs_cons (by rfl) (fun vals w' hgr hdep K hK => ?_) (obs_nil))))))))))))
            · exact wp_field (.tmp 5) rfl _ _ (at_out _ (by kernel_rfl) rfl) (field5 g _) (hK _ _ (Below.refl _ _) rfl)
            · exact wp_load1 (.tmp 122) rfl ⟨g, 5, none⟩ ((at_dst 0 (by kernel_rfl)).trans (hdep 0 (by simp) (by kernel_rfl))) Try.underlying22 rfl _ ((GW.out _ hgr).cell 5) (hK _ _ (Below.refl _ _) rfl)
            · exact wp_move (.tmp 6) rfl _ (at_out _ (by kernel_rfl) rfl) (hK _ _ (Below.refl _ _) rfl)
            · exact wp_move (.tmp 0) rfl _ (at_out _ (by kernel_rfl) rfl) (hK _ _ (Below.refl _ _) rfl)
            · exact wp_move (.tmp 9) rfl _ (at_out _ (by kernel_rfl) rfl) (hK _ _ (Below.refl _ _) rfl)
            · exact wp_move (.tmp 7) rfl _ (at_out _ (by kernel_rfl) rfl) (hK _ _ (Below.refl _ _) rfl)
            · exact wp_move (.tmp 8) rfl _ (at_out _ (by kernel_rfl) rfl) (hK _ _ (Below.refl _ _) rfl)
            · exact wp_bin (.tmp 127) (.tmp 128) rfl _ _ (.int .i64 (H : Int)) ((at_dst 5 (by kernel_rfl)).trans (hdep 5 (by simp) (by kernel_rfl))) ((at_dst 6 (by kernel_rfl)).trans (hdep 6 (by simp) (by kernel_rfl))) (by have := b_add (at_ : Int) (8 : Int) (.tmp 127) (.tmp 128) w' (by omega) (by omega); rwa [HI.out] at this) (hK _ _ (Below.refl _ _) rfl)
            · exact wp_slice (.tmp 125) rfl _ _ (some (.int .i64 (F0 : Int))) (some (.int .i64 (H : Int))) none ((at_dst 3 (by kernel_rfl)).trans (hdep 3 (by simp) (by kernel_rfl))) (congrArg some ((at_dst 4 (by kernel_rfl)).trans (hdep 4 (by simp) (by kernel_rfl)))) (congrArg some ((at_dst 7 (by kernel_rfl)).trans (hdep 7 (by simp) (by kernel_rfl)))) rfl (cutA_lh b p n c F0 H _ (by omega) (by omega)) (hK _ _ (Below.refl _ _) rfl)
            · exact wp_conv (.tmp 130) rfl _ _ ((at_dst 8 (by kernel_rfl)).trans (hdep 8 (by simp) (by kernel_rfl))) (by have := run_string_bytes (cutA_holds (lo := F0) (hi := H) (HW.out _ hgr) (by omega) (by omega)); rwa [DS.out] at this) (hK _ _ (Below.refl _ _) rfl)
            · have eq2 : vals 2 = .int .i64 44 := hdep 2 (by simp) (by kernel_rfl)
              have eq9 : vals 9 = .string d := hdep 9 (by simp) (by kernel_rfl)
              refine st_build ([(0, 124, 2), (1, 131, 9)].map fun q => (q.1, Operand.tmp q.2.1)) rfl ([(0, 124, 2), (1, 131, 9)].map fun q => (q.1, vals q.2.2)) (map_fill [(0, 124, 2), (1, 131, 9)] (by kernel_rfl)) (.agg #[.int .i64 44, .string d]) ?_ (hK _ _ (Below.refl _ _) rfl)
              simp only [List.map, eq2, eq9]
              exact buildX 44 d _
            · exact st_sliceX (.tmp 132) rfl 44 d ((at_dst 10 (by kernel_rfl)).trans (hdep 10 (by simp) (by kernel_rfl))) (hK _ _ ((Below.refl _ _).alloc (Nat.le_refl _) _) ⟨_, rfl, hgr.size, Blk.new _ _ _⟩)
          · intro vals w' hgr hG
            obtain ⟨B', eB, hB1, hB2⟩ : ∃ B', vals 11 = .slice (some ⟨B', 0, none⟩) 1 1 ∧ wr.heap.size ≤ B' ∧ Blk w' B' 43 #[.int .i64 44, .string d] := hG 11 (by simp)
            have bel : Below wr.heap.size wr w' := (below_drewN (Below.refl wr.heap.size wr) 1).trans hgr
            have OW := own_below OX.out bel
            have GB := GW.out _ hgr
            refine st_append_pair (.tmp 123) (.tmp 133) rfl (g + 1) (.slice E xs.length ce) xs.length (Opts.cells xs) ((at_dst 1 (by kernel_rfl)).trans (hG 1 (by simp))) OW B' 44 d ((at_dst 11 (by kernel_rfl)).trans eB) hB2 (by omega) (by have := bel.size; omega) (fun v5 w5 ho5 hg5 => ?_)
            obtain ⟨E5, ce5, rfl⟩ := own_slice ho5
            have nE := own_ne OW (k := g) (by omega)
            have nR := own_ne OW (k := w.heap.size) (by omega)
            have K5 := GB.grown hg5 nE
            have R5 := ((RB.out.below bel RB.out.lt)).grown hg5 nR
            have B5 := ((BB.out.trans (bel.mono hbs)).grown hg5 (by have := bel.size; omega) (fun j hj => by have := (OW.lt j hj).1; omega))
            have gl := GB.lt
            refine wpAnyH_next 13 _ rfl rfl (by kernel_rfl) (wp_field (.tmp 5) rfl _ _ (put_tmps_ne (by rfl) (at_out _ (by kernel_rfl) rfl)) (field5 g _) ⟨trivial, ?_⟩)
            refine wpAnyH_next 14 _ rfl rfl (by kernel_rfl) (st_store_ext (.tmp 135) (.tmp 134) rfl ⟨g, 5, none⟩ (put_tmps_eq (put_size (fill_size _ _ _)) (by kernel_rfl)) (.slice E5 (xs.length + 1) ce5) (put_tmps_ne (by rfl) (put_tmps_eq (fill_size _ _ _) (by kernel_rfl))) rfl rfl _ (K5.cell 5) (K5.frozen 5) ⟨trivial, wpAnyH_done (by kernel_rfl) ?_ _⟩)
            have K6 := Lib.hid (K5.put 5 (.slice E5 (xs.length + 1) ce5))
            have R6 := Lib.hid (R5.far (p := ⟨g, 5, none⟩) (by show w.heap.size ≠ g; omega) (.slice E5 (xs.length + 1) ce5))
            have O6 := Lib.hid (own_far ho5 (p := ⟨g, 5, none⟩) (by show g < g + 1; omega) (.slice E5 (xs.length + 1) ce5))
            have B6 := Lib.hid (B5.setCell (p := ⟨g, 5, none⟩) (by show w.heap.size ≤ g; omega) (.slice E5 (xs.length + 1) ce5))
            clear hG hB2 eB GB OW K5 R5 B5 ho5 hg5 nE nR hgr bel HW GW
            generalize w5.setCell ⟨g, 5, none⟩ (.slice E5 (xs.length + 1) ce5) = w6 at *
            have ca := cell_getD (H0.out.below (B6.out.mono hB)) at_ (by omega)
            have za := getD_in H0.out.2.2.2.1 at_
            have ea : IntKind.i64.wrap (l.getD at_ 0) = l.getD at_ 0 := IntWalk.i64_in _ (by omega)
            have ia : (at_ : Int) < (n : Int) := by omega
            simp only [fill, dstAt, List.getElem?_cons_zero, List.getElem?_cons_succ, Option.bind_some, Act.put, List.setIfInBounds_toArray, List.set_cons_zero, List.set_cons_succ]
            generalize vals 0 = y0, vals 1 = y1, vals 2 = y2, vals 3 = y3, vals 4 = y4, vals 5 = y5, vals 6 = y6, vals 7 = y7, vals 8 = y8, vals 9 = y9, vals 10 = y10, vals 11 = y11
            obtain ⟨kk, hkk⟩ : ∃ kk, kk = l.getD at_ 0 := ⟨_, rfl⟩
            rw [← hkk] at ca za ea
            have KK := Lib.hid hkk
            clear hkk
            go_wp2_with fail
            go_roundw
            case rel =>
              have hi := HI.out
              have le : xs.length + 1 = (xs ++ [(44, d)]).length := by simp
              refine ⟨kk, xs ++ [(44, d)], H, E5, ce5, rfl, by rw [hi], by simp only [List.length_append, List.length_singleton]; omega, by omega, by simp, by omega, ?_, ?_, ?_, ?_, ?_⟩
              · have q := K6.out; rw [le] at q; exact Lib.hid q
              · have q := own_len O6.out; rw [le] at q; exact Lib.hid q
              · exact B6
              · exact R6
              · refine Lib.hid ?_
                have e : ((xs ++ [(44, d)]).length == 0) = false := by rw [beq_eq_false_iff_ne]; simp
                rw [e, ← EE'.out, GO.out, Option.map_map, KK.out]
                congr 1
                funext q
                simp
            case measure => have hi := HI.out; simp [intOf]; omega
        have kz' : (k == 0) = false := beq_eq_false_iff_ne.2 kz
        have k4' : (k != 44) = true := by rw [bne_iff_ne]; exact k4
        have hT : (T : Int) = 8 * (u1 + 1) := by
          rw [hTe, endOf, if_neg (by exact k4), td 1, ← hu1]; omega
        have g1 : IntKind.i64.wrap u1 = u1 := IntWalk.i64_in _ (by omega)
        have g2 : IntKind.i64.wrap (u1 + 1) = u1 + 1 := IntWalk.i64_in _ (by omega)
        have g3 : IntKind.i64.wrap (8 * (u1 + 1)) = (T : Int) := by rw [hT]; exact IntWalk.i64_in _ (by omega)
        have i1 : (at_ : Int) + 1 < (n : Int) := by omega
        have q3' : decide (n < at_ + T) = false := decide_eq_false (by omega)
        have q3i : ¬ (n : Int) < (at_ : Int) + (T : Int) := by omega
        obtain ⟨d, hd⟩ : ∃ d, d = strOfNums ((t.take (endOf k t)).drop (opn k)) := ⟨_, rfl⟩
        obtain ⟨F0, hF0⟩ : ∃ F0, F0 = at_ + 2 := ⟨_, rfl⟩
        obtain ⟨H, hH⟩ : ∃ H, H = at_ + T := ⟨_, rfl⟩
        have hF : (F0 : Int) = (at_ : Int) + 1 + 1 := by omega
        have HI : Hid ((at_ : Int) + (T : Int) = (H : Int)) := Lib.hid (by omega)
        have GO := Lib.hid (exts_go hb hgood)
        rw [← hd, ← hTe, ht, List.drop_drop, ← hH, td' 0, Nat.add_zero] at GO
        have DS : Hid (strOfNums ((l.drop F0).take (H - F0)) = d) := Lib.hid (by rw [hd, ← hTe, ht, hF0, hH, show opn k = 2 from by unfold opn; rw [if_neg k4], List.drop_take, List.drop_drop]; congr 2; omega)
        have EE' : Hid ((exts k (xs.length == 0) (l.drop at_)).map (fun q => (xs ++ q.1, q.2)) = exts (l.getD 6 0) true (l.drop 40)) := Lib.hid (by rw [← ht]; exact EE.out)
        clear hTe hu1 td hd ht EE HT TD hgood hb
        go_wp2_with fail
        refine (BT.out _).mono ?_
        rintro e wv ⟨rfl, rfl⟩
        go_wp2_with fail
        rw [← hT, ← hF]
        clear hT hF g1 g2 g3
        refine wp_region_free [0, 1, 2, 3, 4, 5, 6, 7, 8, 9, 10, 11] 12 [13, 14] (fun w1 w2 => Below w1.heap.size w1 w2) (fun k' w' v => match k' with
          | 0 => v = .pointer (some ⟨g, 5, none⟩)
          | 1 => v = .slice E xs.length ce
          | 2 => v = .int .i64 k
          | 3 => v = .slice (some ⟨b, p, none⟩) n c
          | 4 => v = .int .i64 ((F0 : Int))
          | 5 => v = .int .i64 ((at_ : Int))
          | 6 => v = .int .i64 ((T : Int))
          | 7 => v = .int .i64 ((H : Int))
          | 8 => v = .slice (some (adr b p c F0)) (H - F0) (c - F0)
          | 9 => v = .string d
          | 10 => v = .agg #[.int .i64 k, .string d]
          | _ => ∃ B', v = .slice (some ⟨B', 0, none⟩) 1 1 ∧ wr.heap.size ≤ B' ∧ Blk w' B' 43 #[.int .i64 k, .string d]) (by kernel_rfl) (by kernel_rfl) (Below.refl _ _) (fun _ _ _ h k => h.trans (k.mono h.size)) (fun k' w1 w2 v h => match k' with
          | 0 => fun x => x
          | 1 => fun x => x
          | 2 => fun x => x
          | 3 => fun x => x
          | 4 => fun x => x
          | 5 => fun x => x
          | 6 => fun x => x
          | 7 => fun x => x
          | 8 => fun x => x
          | 9 => fun x => x
          | 10 => fun x => x
          | _ + 11 => fun ⟨g, e, h1, h2⟩ => ⟨g, e, h1, h2.below h h2.lt⟩) (fun _ _ _ _ _ h => h) ?_ _ (by rfl) ?_
        · refine obs_cons (by rfl) (fun vals w' hgr hdep K hK => ?_) (obs_cons (by rfl) (fun vals w' hgr hdep K hK => ?_) (obs_cons (by rfl) (fun vals w' hgr hdep K hK => ?_) (obs_cons (by rfl) (fun vals w' hgr hdep K hK => ?_) (obs_cons (by rfl) (fun vals w' hgr hdep K hK => ?_) (obs_cons (by rfl) (fun vals w' hgr hdep K hK => ?_) (obs_cons (by rfl) (fun vals w' hgr hdep K hK => ?_) (obs_cons (by rfl) (fun vals w' hgr hdep K hK => ?_) (obs_cons (by rfl) (fun vals w' hgr hdep K hK => ?_) (obs_cons (by rfl) (fun vals w' hgr hdep K hK => ?_) (obs_cons (by rfl) (fun vals w' hgr hdep K hK => ?_) (obs_cons (by rfl) (fun vals w' hgr hdep K hK => ?_) (obs_nil))))))))))))
          · exact wp_field (.tmp 5) rfl _ _ (at_out _ (by kernel_rfl) rfl) (field5 g _) (hK _ _ (Below.refl _ _) rfl)
          · exact wp_load1 (.tmp 122) rfl ⟨g, 5, none⟩ ((at_dst 0 (by kernel_rfl)).trans (hdep 0 (by simp) (by kernel_rfl))) Try.underlying22 rfl _ ((GW.out _ hgr).cell 5) (hK _ _ (Below.refl _ _) rfl)
          · exact wp_move (.tmp 6) rfl _ (at_out _ (by kernel_rfl) rfl) (hK _ _ (Below.refl _ _) rfl)
          · exact wp_move (.tmp 0) rfl _ (at_out _ (by kernel_rfl) rfl) (hK _ _ (Below.refl _ _) rfl)
          · exact wp_move (.tmp 9) rfl _ (at_out _ (by kernel_rfl) rfl) (hK _ _ (Below.refl _ _) rfl)
          · exact wp_move (.tmp 7) rfl _ (at_out _ (by kernel_rfl) rfl) (hK _ _ (Below.refl _ _) rfl)
          · exact wp_move (.tmp 8) rfl _ (at_out _ (by kernel_rfl) rfl) (hK _ _ (Below.refl _ _) rfl)
          · exact wp_bin (.tmp 127) (.tmp 128) rfl _ _ (.int .i64 (H : Int)) ((at_dst 5 (by kernel_rfl)).trans (hdep 5 (by simp) (by kernel_rfl))) ((at_dst 6 (by kernel_rfl)).trans (hdep 6 (by simp) (by kernel_rfl))) (by have := b_add (at_ : Int) (T : Int) (.tmp 127) (.tmp 128) w' (by omega) (by omega); rwa [HI.out] at this) (hK _ _ (Below.refl _ _) rfl)
          · exact wp_slice (.tmp 125) rfl _ _ (some (.int .i64 (F0 : Int))) (some (.int .i64 (H : Int))) none ((at_dst 3 (by kernel_rfl)).trans (hdep 3 (by simp) (by kernel_rfl))) (congrArg some ((at_dst 4 (by kernel_rfl)).trans (hdep 4 (by simp) (by kernel_rfl)))) (congrArg some ((at_dst 7 (by kernel_rfl)).trans (hdep 7 (by simp) (by kernel_rfl)))) rfl (cutA_lh b p n c F0 H _ (by omega) (by omega)) (hK _ _ (Below.refl _ _) rfl)
          · exact wp_conv (.tmp 130) rfl _ _ ((at_dst 8 (by kernel_rfl)).trans (hdep 8 (by simp) (by kernel_rfl))) (by have := run_string_bytes (cutA_holds (lo := F0) (hi := H) (HW.out _ hgr) (by omega) (by omega)); rwa [DS.out] at this) (hK _ _ (Below.refl _ _) rfl)
          · have eq2 : vals 2 = .int .i64 k := hdep 2 (by simp) (by kernel_rfl)
            have eq9 : vals 9 = .string d := hdep 9 (by simp) (by kernel_rfl)
            refine st_build ([(0, 124, 2), (1, 131, 9)].map fun q => (q.1, Operand.tmp q.2.1)) rfl ([(0, 124, 2), (1, 131, 9)].map fun q => (q.1, vals q.2.2)) (map_fill [(0, 124, 2), (1, 131, 9)] (by kernel_rfl)) (.agg #[.int .i64 k, .string d]) ?_ (hK _ _ (Below.refl _ _) rfl)
            simp only [List.map, eq2, eq9]
            exact buildX k d _
          · exact st_sliceX (.tmp 132) rfl k d ((at_dst 10 (by kernel_rfl)).trans (hdep 10 (by simp) (by kernel_rfl))) (hK _ _ ((Below.refl _ _).alloc (Nat.le_refl _) _) ⟨_, rfl, hgr.size, Blk.new _ _ _⟩)
        · intro vals w' hgr hG
          obtain ⟨B', eB, hB1, hB2⟩ : ∃ B', vals 11 = .slice (some ⟨B', 0, none⟩) 1 1 ∧ wr.heap.size ≤ B' ∧ Blk w' B' 43 #[.int .i64 k, .string d] := hG 11 (by simp)
          have bel : Below wr.heap.size wr w' := (below_drewN (Below.refl wr.heap.size wr) 1).trans hgr
          have OW := own_below OX.out bel
          have GB := GW.out _ hgr
          refine st_append_pair (.tmp 123) (.tmp 133) rfl (g + 1) (.slice E xs.length ce) xs.length (Opts.cells xs) ((at_dst 1 (by kernel_rfl)).trans (hG 1 (by simp))) OW B' k d ((at_dst 11 (by kernel_rfl)).trans eB) hB2 (by omega) (by have := bel.size; omega) (fun v5 w5 ho5 hg5 => ?_)
          obtain ⟨E5, ce5, rfl⟩ := own_slice ho5
          have nE := own_ne OW (k := g) (by omega)
          have nR := own_ne OW (k := w.heap.size) (by omega)
          have K5 := GB.grown hg5 nE
          have R5 := ((RB.out.below bel RB.out.lt)).grown hg5 nR
          have B5 := ((BB.out.trans (bel.mono hbs)).grown hg5 (by have := bel.size; omega) (fun j hj => by have := (OW.lt j hj).1; omega))
          have gl := GB.lt
          refine wpAnyH_next 13 _ rfl rfl (by kernel_rfl) (wp_field (.tmp 5) rfl _ _ (put_tmps_ne (by rfl) (at_out _ (by kernel_rfl) rfl)) (field5 g _) ⟨trivial, ?_⟩)
          refine wpAnyH_next 14 _ rfl rfl (by kernel_rfl) (st_store_ext (.tmp 135) (.tmp 134) rfl ⟨g, 5, none⟩ (put_tmps_eq (put_size (fill_size _ _ _)) (by kernel_rfl)) (.slice E5 (xs.length + 1) ce5) (put_tmps_ne (by rfl) (put_tmps_eq (fill_size _ _ _) (by kernel_rfl))) rfl rfl _ (K5.cell 5) (K5.frozen 5) ⟨trivial, wpAnyH_done (by kernel_rfl) ?_ _⟩)
          have K6 := Lib.hid (K5.put 5 (.slice E5 (xs.length + 1) ce5))
          have R6 := Lib.hid (R5.far (p := ⟨g, 5, none⟩) (by show w.heap.size ≠ g; omega) (.slice E5 (xs.length + 1) ce5))
          have O6 := Lib.hid (own_far ho5 (p := ⟨g, 5, none⟩) (by show g < g + 1; omega) (.slice E5 (xs.length + 1) ce5))
          have B6 := Lib.hid (B5.setCell (p := ⟨g, 5, none⟩) (by show w.heap.size ≤ g; omega) (.slice E5 (xs.length + 1) ce5))
          clear hG hB2 eB GB OW K5 R5 B5 ho5 hg5 nE nR hgr bel HW GW
          generalize w5.setCell ⟨g, 5, none⟩ (.slice E5 (xs.length + 1) ce5) = w6 at *
          have ca := cell_getD (H0.out.below (B6.out.mono hB)) at_ (by omega)
          have za := getD_in H0.out.2.2.2.1 at_
          have ea : IntKind.i64.wrap (l.getD at_ 0) = l.getD at_ 0 := IntWalk.i64_in _ (by omega)
          have ia : (at_ : Int) < (n : Int) := by omega
          simp only [fill, dstAt, List.getElem?_cons_zero, List.getElem?_cons_succ, Option.bind_some, Act.put, List.setIfInBounds_toArray, List.set_cons_zero, List.set_cons_succ]
          generalize vals 0 = y0, vals 1 = y1, vals 2 = y2, vals 3 = y3, vals 4 = y4, vals 5 = y5, vals 6 = y6, vals 7 = y7, vals 8 = y8, vals 9 = y9, vals 10 = y10, vals 11 = y11
          obtain ⟨kk, hkk⟩ : ∃ kk, kk = l.getD at_ 0 := ⟨_, rfl⟩
          rw [← hkk] at ca za ea
          have KK := Lib.hid hkk
          clear hkk
          go_wp2_with fail
          go_roundw
          case rel =>
            have hi := HI.out
            have le : xs.length + 1 = (xs ++ [(k, d)]).length := by simp
            refine ⟨kk, xs ++ [(k, d)], H, E5, ce5, rfl, by rw [hi], by simp only [List.length_append, List.length_singleton]; omega, by omega, by simp, by omega, ?_, ?_, ?_, ?_, ?_⟩
            · have q := K6.out; rw [le] at q; exact Lib.hid q
            · have q := own_len O6.out; rw [le] at q; exact Lib.hid q
            · exact B6
            · exact R6
            · refine Lib.hid ?_
              have e : ((xs ++ [(k, d)]).length == 0) = false := by rw [beq_eq_false_iff_ne]; simp
              rw [e, ← EE'.out, GO.out, Option.map_map, KK.out]
              congr 1
              funext q
              simp
          case measure => have hi := HI.out; simp [intOf]; omega
end Go.Proofs.Ytjfieoleoodfdaa.ParseRef
