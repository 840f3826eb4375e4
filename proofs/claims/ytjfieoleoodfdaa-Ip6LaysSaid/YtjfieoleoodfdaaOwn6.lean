/- The law's own: a packet with its headers and its data in memory of their own. -/
import Derived.Test.YtjfieoleoodfdaaLawBack6
import Derived.Test.YtjfieoleoodfdaaBoth
set_option linter.unusedVariables false
namespace Go.Proofs.Ytjfieoleoodfdaa.Own6
open Go.RowKit Go.Sort Go.Proofs.Ytjfieoleoodfdaa.Sums Go.Proofs.Ytjfieoleoodfdaa.Mem Go.Proofs.Ytjfieoleoodfdaa.P6 Go.Proofs.Ytjfieoleoodfdaa.Blk Go.Proofs.Ytjfieoleoodfdaa.Loads6 Go.Proofs.Ytjfieoleoodfdaa.Exts Go.Proofs.Ytjfieoleoodfdaa.Opts Go.Proofs.Ytjfieoleoodfdaa.Dec6 Go.Proofs.Ytjfieoleoodfdaa.First6 Go.Proofs.Ytjfieoleoodfdaa.Regs

theorem cells_len : ∀ l : List (Int × ByteArray), (Opts.cells l).length = l.length * 2
  | [] => rfl
  | (k, d) :: r => by simp [Opts.cells, cells_len r]; omega
theorem cells_one : ∀ (l : List (Int × ByteArray)), ∀ u ∈ Opts.cells l, u.oneCell' = true
  | [], u, h => by cases h
  | (k, d) :: r, u, h => by
    simp [Opts.cells] at h
    rcases h with rfl | rfl | h
    · rfl
    · rfl
    · exact cells_one r u h
theorem run_append_ext (w : World) (ty : TypeId) (base : Nat) (v : Value) (h : w.ownsRow base 43 2 v 0 []) (E : Option Addr) (m ce : Nat) (xs : P6.Exts) (hk : Exts.Row w (.slice E m ce) xs) (hs : m ≤ 1048576) (hbase : base ≤ w.heap.size) :
    ∃ v' w', (Builtin.append_ #[22, 22] ty #[v, .slice E m ce]).run Try.prog w = .ok v' w' ∧ w'.ownsRow base 43 2 v' m (Opts.cells xs) ∧ w.grownBy w' v.ownBlock := by
  obtain ⟨i, hi, hz, hsz, hby⟩ := info_parts ext_info
  have hl := hk.len
  rcases E with _ | ad
  · have hm : m = 0 := by
      rcases Nat.eq_zero_or_pos m with h0 | h0
      · exact h0
      · obtain ⟨a, q, d, e, _⟩ := hk.at_ (k := 0) h0
        cases e
    subst hm
    obtain rfl : xs = [] := List.eq_nil_of_length_eq_zero hl
    refine ⟨v, w, ?_, h, World.grownBy.refl _ _⟩
    rcases h.2 with ⟨rfl, _⟩ | ⟨g, cap, cur, rfl, _, _, hnc, _⟩
    · simp [Builtin.append_, run_underlying Try.underlying22, sizeOf, typeInfo, hi, Builtin.lenOf, Builtin.firstCells]
    · simp [Builtin.append_, run_underlying Try.underlying22, sizeOf, typeInfo, hi, Builtin.lenOf, Builtin.firstCells, hnc, storeCells]
  · have hc : ∀ j u, (Opts.cells xs)[j]? = some u → w.cell? (ad.add j) = some u := by
      intro j u hu
      have hj : j < xs.length * 2 := by
        rw [← cells_len]
        exact (List.getElem?_eq_some_iff.1 hu).1
      obtain ⟨a, q, d, e, hq, _, c1, c2, _⟩ := hk.at_ (k := j / 2) (by omega)
      obtain rfl := Option.some.inj e
      obtain ⟨k1, k2⟩ := cells_at xs (j / 2) q d hq
      rcases Nat.mod_two_eq_zero_or_one j with r | r
      · rw [show j / 2 * 2 = j by omega] at c1 k1
        rw [hu] at k1
        rw [c1, ← k1]
      · rw [show j / 2 * 2 + 1 = j by omega] at c2 k2
        rw [hu] at k2
        rw [c2, ← k2]
    obtain ⟨v', w', hr, h2, h3, _, _⟩ := run_append_own_at (P := Try.prog) w base 22 ty 43 i (.agg #[.int .i64 0, .string ⟨#[]⟩]) 2 24 Try.underlying22 hi hz hsz hby (by kernel_rfl) (by decide) v 0 [] h ad m ce (Opts.cells xs) (by rw [cells_len, hl]) hc (cells_one xs) (by simp only [maxLen]; omega) (by omega) hbase
    exact ⟨v', w', hr, by simpa using h2, h3⟩
theorem wpList_append_ext {w : World} {ops : Array Oper} {rest : List Oper} {o : Oper} {a : Act} {Q : Exit → Act → World → Prop} (hgd : o.guard = none) (s x : Operand)
    (ho : o.op = .call { callee := .builtin .append, args := #[s, x], argTypes := #[22, 22] })
    (base : Nat) (v : Value) (hs : a.eval s = v) (h : w.ownsRow base 43 2 v 0 []) (E : Option Addr) (m ce : Nat) (xs : P6.Exts) (hx : a.eval x = .slice E m ce) (hk : Exts.Row w (.slice E m ce) xs) (hsm : m ≤ 1048576) (hbase : base ≤ w.heap.size)
    (K : ∀ v' w', w'.ownsRow base 43 2 v' m (Opts.cells xs) → w.grownBy w' v.ownBlock → wpList Try.prog ops Q rest (a.put o.dst v') w') :
    wpList Try.prog ops Q (o :: rest) a w := by
  refine wpList_plain hgd fun K' hK => ?_
  obtain ⟨v', w', hr, h2, h3⟩ := run_append_ext w o.type base v h E m ce xs hk hsm hbase
  unfold Oper.wp execOp
  simp only [ho, resolve, invoke, builtin, Sem.run_bind, Sem.run_pure, Result.andThen_ok, List.map_toArray, List.map_cons, List.map_nil, hs, hx, hr]
  exact hK _ _ (K v' w' h2 h3)
theorem results_one {fn : Func} {p : Tmp} {ty : TypeId} (h : fn.results = #[.cell p ty]) (tmps : Array Value) (w : World) (g : Nat) (t : TypeId) (cs : Array Value) (fr : Nat × Nat) (d : TypeDesc)
    (hp : tmps.getD p undef = .pointer (some ⟨g, 0, none⟩)) (hg : w.heap[g]? = some (.cells cs t fr))
    (hu : Try.prog.underlying ty = some d) (hd : aggB d = true) (hi : (Try.prog.info? ty).map (·.size) = some cs.size) :
    (results fn tmps).run Try.prog w = .ok (.agg cs) w := by
  have hp' : tmps[p]?.getD undef = .pointer (some ⟨g, 0, none⟩) := by simpa using hp
  have e := run_loadVar_row (P := Try.prog) w g t ty cs fr d hg hu (by cases d <;> simp_all [aggB]) hi
  simp [results, h, hp', asAddr, e]

set_option maxHeartbeats 4000000 in
set_option maxRecDepth 100000 in
theorem own_any (p : Pkt) (E : Option Addr) (m ce : Nat) (A : Option Addr) (n c : Nat) (l : List Int) (w : World) (hr : Exts.Row w (.slice E m ce) p.exts) (h : Holds w w.heap.size A n c l) (hm : m ≤ 65536) (hn : n ≤ 1048576) :
    Calls Try.prog 8 #[.agg #[.int .i64 p.cls, .int .i64 p.lab, .int .i64 p.hop, .string p.src, .string p.dst, .slice E m ce, .int .i64 p.next, .slice A n c]] w fun e w' => ∃ E2 ce2 A2 c2, e = .returned (.agg #[.int .i64 p.cls, .int .i64 p.lab, .int .i64 p.hop, .string p.src, .string p.dst, .slice E2 m ce2, .int .i64 p.next, .slice A2 n c2]) ∧ Exts.Row w' (.slice E2 m ce2) p.exts ∧ Holds w' w'.heap.size A2 n c2 l ∧ Below w.heap.size w w' := by
  have ml := hr.len
  have B1 := Lib.hid (((((Below.refl w.heap.size w).alloc (Nat.le_refl _) (.cells #[.int .i64 p.cls, .int .i64 p.lab, .int .i64 p.hop, .string p.src, .string p.dst, .slice E m ce, .int .i64 p.next, .slice A n c] 25)).alloc (by simp) (.cells #[.int .i64 0, .int .i64 0, .int .i64 0, .string ⟨#[]⟩, .string ⟨#[]⟩, .slice none 0 0, .int .i64 0, .slice none 0 0] 25)).alloc (by simp; omega) (.cells #[.int .i64 p.cls, .int .i64 p.lab, .int .i64 p.hop, .string p.src, .string p.dst, .slice E m ce, .int .i64 p.next, .slice A n c] 25)).alloc (by simp; omega) (.cells #[] 43))
  have P0 := Lib.hid (Blk.new w 25 #[.int .i64 p.cls, .int .i64 p.lab, .int .i64 p.hop, .string p.src, .string p.dst, .slice E m ce, .int .i64 p.next, .slice A n c])
  have P1 := Lib.hid (((P0.out.alloc (.cells #[.int .i64 0, .int .i64 0, .int .i64 0, .string ⟨#[]⟩, .string ⟨#[]⟩, .slice none 0 0, .int .i64 0, .slice none 0 0] 25)).alloc (.cells #[.int .i64 p.cls, .int .i64 p.lab, .int .i64 p.hop, .string p.src, .string p.dst, .slice E m ce, .int .i64 p.next, .slice A n c] 25)).alloc (.cells #[] 43))
  have R1 : Hid (Blk ((((w.alloc (.cells #[.int .i64 p.cls, .int .i64 p.lab, .int .i64 p.hop, .string p.src, .string p.dst, .slice E m ce, .int .i64 p.next, .slice A n c] 25)).alloc (.cells #[.int .i64 0, .int .i64 0, .int .i64 0, .string ⟨#[]⟩, .string ⟨#[]⟩, .slice none 0 0, .int .i64 0, .slice none 0 0] 25)).alloc (.cells #[.int .i64 p.cls, .int .i64 p.lab, .int .i64 p.hop, .string p.src, .string p.dst, .slice E m ce, .int .i64 p.next, .slice A n c] 25)).alloc (.cells #[] 43)) (w.heap.size + 1) 25 #[.int .i64 0, .int .i64 0, .int .i64 0, .string ⟨#[]⟩, .string ⟨#[]⟩, .slice none 0 0, .int .i64 0, .slice none 0 0]) := Lib.hid (by
    have := Blk.new (w.alloc (.cells #[.int .i64 p.cls, .int .i64 p.lab, .int .i64 p.hop, .string p.src, .string p.dst, .slice E m ce, .int .i64 p.next, .slice A n c] 25)) 25 #[.int .i64 0, .int .i64 0, .int .i64 0, .string ⟨#[]⟩, .string ⟨#[]⟩, .slice none 0 0, .int .i64 0, .slice none 0 0]
    have e : (w.alloc (.cells #[.int .i64 p.cls, .int .i64 p.lab, .int .i64 p.hop, .string p.src, .string p.dst, .slice E m ce, .int .i64 p.next, .slice A n c] 25)).heap.size = w.heap.size + 1 := by simp
    rw [e] at this
    exact (this.alloc _).alloc _)
  have Q1 : Hid (Blk ((((w.alloc (.cells #[.int .i64 p.cls, .int .i64 p.lab, .int .i64 p.hop, .string p.src, .string p.dst, .slice E m ce, .int .i64 p.next, .slice A n c] 25)).alloc (.cells #[.int .i64 0, .int .i64 0, .int .i64 0, .string ⟨#[]⟩, .string ⟨#[]⟩, .slice none 0 0, .int .i64 0, .slice none 0 0] 25)).alloc (.cells #[.int .i64 p.cls, .int .i64 p.lab, .int .i64 p.hop, .string p.src, .string p.dst, .slice E m ce, .int .i64 p.next, .slice A n c] 25)).alloc (.cells #[] 43)) (w.heap.size + 2) 25 #[.int .i64 p.cls, .int .i64 p.lab, .int .i64 p.hop, .string p.src, .string p.dst, .slice E m ce, .int .i64 p.next, .slice A n c]) := Lib.hid (by
    have := Blk.new ((w.alloc (.cells #[.int .i64 p.cls, .int .i64 p.lab, .int .i64 p.hop, .string p.src, .string p.dst, .slice E m ce, .int .i64 p.next, .slice A n c] 25)).alloc (.cells #[.int .i64 0, .int .i64 0, .int .i64 0, .string ⟨#[]⟩, .string ⟨#[]⟩, .slice none 0 0, .int .i64 0, .slice none 0 0] 25)) 25 #[.int .i64 p.cls, .int .i64 p.lab, .int .i64 p.hop, .string p.src, .string p.dst, .slice E m ce, .int .i64 p.next, .slice A n c]
    have e : ((w.alloc (.cells #[.int .i64 p.cls, .int .i64 p.lab, .int .i64 p.hop, .string p.src, .string p.dst, .slice E m ce, .int .i64 p.next, .slice A n c] 25)).alloc (.cells #[.int .i64 0, .int .i64 0, .int .i64 0, .string ⟨#[]⟩, .string ⟨#[]⟩, .slice none 0 0, .int .i64 0, .slice none 0 0] 25)).heap.size = w.heap.size + 2 := by simp
    rw [e] at this
    exact this.alloc _)
  have O1 : Hid (((((w.alloc (.cells #[.int .i64 p.cls, .int .i64 p.lab, .int .i64 p.hop, .string p.src, .string p.dst, .slice E m ce, .int .i64 p.next, .slice A n c] 25)).alloc (.cells #[.int .i64 0, .int .i64 0, .int .i64 0, .string ⟨#[]⟩, .string ⟨#[]⟩, .slice none 0 0, .int .i64 0, .slice none 0 0] 25)).alloc (.cells #[.int .i64 p.cls, .int .i64 p.lab, .int .i64 p.hop, .string p.src, .string p.dst, .slice E m ce, .int .i64 p.next, .slice A n c] 25)).alloc (.cells #[] 43)).ownsRow (w.heap.size + 3) 43 2 (.slice (some ⟨w.heap.size + 3, 0, none⟩) 0 0) 0 []) := Lib.hid (by
    have := World.ownsRow_lit (base := w.heap.size + 3) (e := 43) (size := 2) (((w.alloc (.cells #[.int .i64 p.cls, .int .i64 p.lab, .int .i64 p.hop, .string p.src, .string p.dst, .slice E m ce, .int .i64 p.next, .slice A n c] 25)).alloc (.cells #[.int .i64 0, .int .i64 0, .int .i64 0, .string ⟨#[]⟩, .string ⟨#[]⟩, .slice none 0 0, .int .i64 0, .slice none 0 0] 25)).alloc (.cells #[.int .i64 p.cls, .int .i64 p.lab, .int .i64 p.hop, .string p.src, .string p.dst, .slice E m ce, .int .i64 p.next, .slice A n c] 25)) #[] 0 (by simp) (by decide) rfl
    simpa using this)
  have d5 := P1.out.cell 5
  have HL := Lib.hid h
  have HR := Lib.hid hr
  clear h hr
  go_enter Try.func8, Try.ntmps8
  go_wp2_with (first
    | (refine Loads.wpList_load_w rfl 25 (.tmp 1) rfl w.heap.size rfl 25 #[.int .i64 p.cls, .int .i64 p.lab, .int .i64 p.hop, .string p.src, .string p.dst, .slice E m ce, .int .i64 p.next, .slice A n c] (0, 0) _ (P0.out.alloc _) (Try.underlying25) rfl (by kernel_rfl) ?_)
    | (at_builtin
       refine wpList_append_ext rfl (.tmp 5) (.tmp 7) rfl (w.heap.size + 3) _ rfl O1.out E m ce p.exts rfl (HR.out.below B1.out) (by omega) (by simp) ?_
       intro v5 w5 ho5 hg5
       obtain ⟨E5, ce5, rfl⟩ := own_slice ho5
       have nb := fun (k : Nat) (hk : k < w.heap.size + 3) => own_ne O1.out (k := k) hk
       have P5 := Lib.hid (P1.out.grown hg5 (nb w.heap.size (by omega)))
       have R5 := Lib.hid (R1.out.grown hg5 (nb (w.heap.size + 1) (by omega)))
       have Q5 := Lib.hid (Q1.out.grown hg5 (nb (w.heap.size + 2) (by omega)))
       have q5 := Q5.out.cell 5
       have f5 := Q5.out.frozen 5
       have p7 := P5.out.cell 7))
  have B5 := Lib.hid (B1.out.grown hg5 (by simp; omega) (fun j hj => by have := (O1.out.lt j hj).1; omega))
  have O5 := Lib.hid ho5
  have wl := Q5.out.lt
  have rl := R5.out.lt
  have Q6 := Lib.hid (Q5.out.put 5 (.slice E5 m ce5))
  have R6 := Lib.hid (R5.out.far (p := ⟨w.heap.size + 2, 5, none⟩) (by show w.heap.size + 1 ≠ w.heap.size + 2; omega) (.slice E5 m ce5))
  have B6 := Lib.hid (B5.out.setCell (p := ⟨w.heap.size + 2, 5, none⟩) (by show w.heap.size ≤ w.heap.size + 2; omega) (.slice E5 m ce5))
  have O6 := Lib.hid (own_far O5.out (p := ⟨w.heap.size + 2, 5, none⟩) (by show w.heap.size + 2 < w.heap.size + 3; omega) (.slice E5 m ce5))
  have H6 := Lib.hid (HL.out.below B6.out)
  have sz6 : (w5.setCell ⟨w.heap.size + 2, 5, none⟩ (.slice E5 m ce5)).heap.size = w5.heap.size := by simp
  clear Q5 R5 B5 O5 ho5 hg5 P5 O1 P1 R1 Q1 B1 d5 q5 f5
  refine (Both.both_lit (B := w.heap.size) (by simp; omega) [⟨A, n, c, l⟩] _ _ rfl (Both.mem1 H6.out) _ 1 (by simp) rfl (by decide) (by show n + 0 ≤ 1048576; omega)).mono ?_
  rintro e w7 ⟨A2, c2, rfl, h7, o7, hb⟩
  have e1 : Both.flat [⟨A, n, c, l⟩] = l := by simp [Both.flat]
  have e0 : Both.total [⟨A, n, c, l⟩] = n := rfl
  rw [e1, e0] at o7
  rw [e0]
  have Q7 := Lib.hid (Q6.out.below hb Q6.out.lt)
  have R7 := Lib.hid (R6.out.below hb R6.out.lt)
  have O7 := Lib.hid (own_below O6.out hb)
  have B7 := Lib.hid (B6.out.trans (hb.mono B6.out.size))
  have D7 := Lib.hid o7
  clear hb o7 h7 e0 e1 Q6 R6 O6 B6
  have q7 := Q7.out.cell 7
  have f7 := Q7.out.frozen 7
  have Q8 := Lib.hid (Q7.out.put 7 (.slice A2 n c2))
  have R8 := Lib.hid (R7.out.far (p := ⟨w.heap.size + 2, 7, none⟩) (by show w.heap.size + 1 ≠ w.heap.size + 2; omega) (.slice A2 n c2))
  have B8 := Lib.hid (B7.out.setCell (p := ⟨w.heap.size + 2, 7, none⟩) (by show w.heap.size ≤ w.heap.size + 2; omega) (.slice A2 n c2))
  have O8 := Lib.hid (own_far O7.out (p := ⟨w.heap.size + 2, 7, none⟩) (by show w.heap.size + 2 < w.heap.size + 3; omega) (.slice A2 n c2))
  have D8 := Lib.hid (D7.out.kept (row := some (w.heap.size + 2)) (grown_set w7 ⟨w.heap.size + 2, 7, none⟩ (.slice A2 n c2)) (owns_ne D7.out (by omega)))
  clear Q7 R7 B7 O7 D7
  go_wp2_with (first
    | (refine Loads.wpList_load_w rfl 25 (.tmp 3) rfl (w.heap.size + 2) rfl 25 #[.int .i64 p.cls, .int .i64 p.lab, .int .i64 p.hop, .string p.src, .string p.dst, .slice E5 m ce5, .int .i64 p.next, .slice A2 n c2] (0, 0) _ Q8.out (Try.underlying25) rfl (by kernel_rfl) ?_)
    | (refine wpList_store_row rfl 25 (.tmp 2) (.tmp 15) rfl (w.heap.size + 1) #[.int .i64 p.cls, .int .i64 p.lab, .int .i64 p.hop, .string p.src, .string p.dst, .slice E5 m ce5, .int .i64 p.next, .slice A2 n c2] rfl rfl 25 _ R8.out (by kernel_rfl) rfl (one8 _ _ _ _ _ _ _ _ _ _ _ _) ?_))
  refine bodyPost_ret (results_one rfl _ _ (w.heap.size + 1) 25 _ (0, 0) _ rfl (setRow_heap _ _ _ _ _ _ R8.out) Try.underlying25 rfl (by kernel_rfl)) rfl ⟨E5, ce5, A2, c2, rfl, ?_, ?_, setRow_bel B8.out (by omega) _⟩
  · exact Row.of_owns (by rw [ml]; exact own_row O8.out (by omega) _)
  · exact (D8.out.kept (row := some (w.heap.size + 1)) (grown_row _ _ _) (owns_ne D8.out (by omega))).holds
end Go.Proofs.Ytjfieoleoodfdaa.Own6
