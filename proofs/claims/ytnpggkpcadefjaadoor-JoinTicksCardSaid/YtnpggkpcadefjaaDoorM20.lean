/- What always holds of a joiner that is put pieces at times up to a last one: plain (JoinTicks). -/
import Derived.Test.YtnpggkpcadefjaaDoorJoiM
import Derived.Test.YtnpggkpcadefjaaDoorFew20
set_option linter.unusedVariables false
namespace Go.Proofs.YtnpggkpcadefjaaDoor.JoiQ
open Go.RowKit Go.Proofs.YtnpggkpcadefjaaDoor.Sums Go.Proofs.YtnpggkpcadefjaaDoor.Mem Go.Proofs.YtnpggkpcadefjaaDoor.Pkt Go.Proofs.YtnpggkpcadefjaaDoor.JoiM

def zeros (l : List Frag) : List Frag := l.filter fun x => decide (x.1.off = 0)
/-- At most one piece of each packet stands at its beginning; none has come behind the last time. -/
structure LoneE (last : Int) (e : Ent) : Prop where
  one : (zeros e.2).length ≤ 1
  born : e.1 ≤ last
def Lone (last : Int) (s : JSt) : Prop := ∀ e ∈ s, LoneE last e
theorem lone_nil (last : Int) : Lone last [] := fun e h => by cases h
theorem lone_up {last last' : Int} {s : JSt} (h : Lone last s) (k : last ≤ last') : Lone last' s := fun e he => ⟨(h e he).one, Int.le_trans (h e he).born k⟩
theorem lone_erase {last : Int} {s : JSt} (h : Lone last s) (i : Nat) : Lone last (s.eraseIdx i) := fun e he => h e (List.mem_of_mem_eraseIdx he)
theorem lone_fin {last : Int} {s : JSt} (h : Lone last s) (i : Nat) (l : List Frag) : Lone last (finJ s i l).2 := by
  unfold finJ
  split
  · exact h
  · split
    · exact lone_erase h i
    · split
      · exact lone_erase h i
      · exact lone_erase h i
theorem lone_put {last now : Int} {x : Frag} {s : JSt} (g : GoodJ s) (h : Lone last s) (hn : now ≤ last) : Lone last (putJ now x s).2 := by
  unfold putJ
  by_cases c : x.1.chk x.2.length ≠ 0
  · rw [if_pos c]; exact h
  rw [if_neg c]
  by_cases q1 : x.1.off = 0 ∧ x.1.mf = false
  · rw [if_pos q1]; exact h
  rw [if_neg q1]
  by_cases q2 : x.1.mf = true ∧ (x.2.length = 0 ∨ x.2.length % 8 ≠ 0)
  · rw [if_pos q2]; exact h
  rw [if_neg q2]
  by_cases q3 : 65515 < endF x
  · rw [if_pos q3]; exact h
  rw [if_neg q3]
  cases ha : atJ s x.1 with
  | none =>
    dsimp only
    by_cases q4 : 16 ≤ s.length
    · rw [if_pos q4]; exact h
    · rw [if_neg q4]
      refine lone_fin (fun e he => ?_) _ _
      rcases List.mem_append.1 he with he | he
      · exact h e he
      · obtain rfl := List.mem_singleton.1 he
        exact ⟨by unfold zeros; exact Nat.le_trans (List.length_filter_le _ _) (Nat.le_refl _), hn⟩
  | some i =>
    dsimp only
    cases hi : s[i]? with
    | none => exact h
    | some e =>
      dsimp only
      have he := List.mem_of_getElem? hi
      have G := g.ent e he
      have L := h e he
      by_cases q4 : e.2.any (twinB · x) = true
      · rw [if_pos q4]; exact h
      rw [if_neg q4]
      by_cases q5 : 64 ≤ e.2.length
      · rw [if_pos q5]; exact h
      rw [if_neg q5]
      by_cases q6 : e.2.any (badB · x) = true
      · rw [if_pos q6]; exact lone_erase h i
      rw [if_neg q6]
      refine lone_fin (fun e' he' => ?_) _ _
      rcases List.mem_or_eq_of_mem_set he' with he' | rfl
      · exact h e' he'
      · refine ⟨?_, L.born⟩
        unfold zeros
        rw [List.filter_append, List.length_append]
        by_cases z : x.1.off = 0
        · have m : x.1.mf = true := by
            cases m : x.1.mf with
            | true => rfl
            | false => exact absurd ⟨z, m⟩ q1
          have e0 : e.2.filter (fun x => decide (x.1.off = 0)) = [] := by
            rw [List.filter_eq_nil_iff]
            intro y hy hz
            have hz := of_decide_eq_true hz
            obtain ⟨_, _, _, _, k1, k2⟩ := G.ok y hy
            have ky := k1 (k2 hz)
            refine q6 (List.any_eq_true.2 ⟨y, hy, ?_⟩)
            unfold badB
            rw [if_pos]
            unfold endF
            have : x.2.length ≠ 0 := fun w => q2 ⟨m, .inl w⟩
            omega
          rw [e0]
          simp [z]
        · have : ([x] : List Frag).filter (fun x => decide (x.1.off = 0)) = [] := by simp [z]
          rw [this]
          exact L.one
/-- Behind a Tick that is late enough none waits; each that is handed out stands at its packet's beginning, and more comes. -/
theorem tick_all {last now : Int} {s : JSt} (h : Lone last s) (hn : last + 60 ≤ now) : (tickJ now s).2 = [] := by
  unfold tickJ
  rw [List.filter_eq_nil_iff]
  intro e he
  have := (h e he).born
  have : oldB now e = true := by
    unfold oldB
    exact decide_eq_true (by omega)
  rw [this]
  simp
theorem tick_out {now : Int} {s : JSt} (g : GoodJ s) : ∀ x ∈ (tickJ now s).1, x.1.off = 0 ∧ x.1.mf = true := by
  intro x hx
  obtain ⟨e, he, hx⟩ := List.mem_flatMap.1 hx
  split at hx
  · obtain ⟨h1, h2⟩ := List.mem_filter.1 hx
    have h2 := of_decide_eq_true h2
    obtain ⟨_, _, _, _, _, k2⟩ := (g.ent e he).ok x h1
    exact ⟨h2, k2 h2⟩
  · cases hx
theorem flat_le (f : Ent → List Frag) : ∀ s : JSt, (∀ e ∈ s, (f e).length ≤ 1) → (s.flatMap f).length ≤ s.length := by
  intro s
  induction s with
  | nil => intro _; exact Nat.le_refl _
  | cons e s ih =>
    intro h
    rw [List.flatMap_cons, List.length_append, List.length_cons]
    have := h e (by simp)
    have := ih (fun e' he => h e' (by simp [he]))
    omega
theorem tick_few {last now : Int} {s : JSt} (g : GoodJ s) (h : Lone last s) : (tickJ now s).1.length ≤ 16 := by
  refine Nat.le_trans (flat_le _ s fun e he => ?_) g.few
  split
  · exact (h e he).one
  · exact Nat.zero_le _
theorem lone_tick {last now : Int} {s : JSt} (h : Lone last s) : Lone last (tickJ now s).2 := fun e he => h e (List.mem_filter.1 he).1
end Go.Proofs.YtnpggkpcadefjaaDoor.JoiQ

/- JoinTicks' walk, given a joiner's contract. -/
set_option linter.unusedVariables false
set_option maxRecDepth 100000
namespace Go.Proofs.YtnpggkpcadefjaaDoor.LawTicks20
open Go.RowKit Go.Proofs.YtnpggkpcadefjaaDoor.Sums Go.Proofs.YtnpggkpcadefjaaDoor.Mem Go.Proofs.YtnpggkpcadefjaaDoor.Blk Go.Proofs.YtnpggkpcadefjaaDoor.Pkt Go.Proofs.YtnpggkpcadefjaaDoor.Check Go.Proofs.YtnpggkpcadefjaaDoor.Free Go.Proofs.YtnpggkpcadefjaaDoor.Steps Go.Proofs.YtnpggkpcadefjaaDoor.RowN Go.Proofs.YtnpggkpcadefjaaDoor.Obj Go.Proofs.YtnpggkpcadefjaaDoor.JoiM Go.Proofs.YtnpggkpcadefjaaDoor.JoiQ Go.Proofs.YtnpggkpcadefjaaDoor.JoiP Go.Proofs.YtnpggkpcadefjaaDoor.JoiA Go.Proofs.YtnpggkpcadefjaaDoor.SplP Go.Proofs.YtnpggkpcadefjaaDoor.Errno Go.Proofs.YtnpggkpcadefjaaDoor.ArgT Go.Proofs.YtnpggkpcadefjaaDoor.Few20
variable {JA : (Nat → Prop) → World → Nat → JSt → Prop}
theorem ent_put : Enters Tryd.prog 14 := enters_of Tryd.func14 (by kernel_rfl) rfl
theorem list3 {f : Operand → Value} {x y z : Operand} {a b c : Value} (h1 : f x = a) (h2 : f y = b) (h3 : f z = c) : [x, y, z].map f = [a, b, c] := by simp [h1, h2, h3]
theorem tk_one (t : Int) : putJ t (pcP 8 false, nums xyzS) [] = ((none, 0), [(t, [(pcP 8 false, nums xyzS)])]) := by kernel_rfl
theorem tk_two (t t' : Int) : putJ t (pcP 0 true, nums numS) [(t', [(pcP 8 false, nums xyzS)])] = ((some (pcP 0 false, nums numS ++ nums xyzS), 0), []) := by kernel_rfl
set_option maxHeartbeats 2000000 in
theorem ticks_any (S : JoinSpec JA) (A : Option Addr) (n c : Nat) (rs : List Op20R) (x : Int) (w : World) (hg : Handle w) (h : Op20Rows w A n rs) (hn : n ≤ 9223372036854775807) : Calls Tryd.prog 5 #[.slice A n c, .int .i64 x] w fun e w' => e = .returned (.bool true) ∧ Below w.heap.size w w' := by
  have HG := Lib.hid hg
  have HH := Lib.hid h
  have LN := Lib.hid h.1
  have FC := Lib.hid (few_any A n c rs w h hn)
  have HB0 := Lib.hid (show HB < w.heap.size from World.block_lt_of_cell? w _ hg)
  obtain ⟨fb, hfb⟩ : ∃ fb, fewS rs = fb := ⟨_, rfl⟩
  have FB := Lib.hid hfb
  rw [hfb] at FC
  clear hg h hfb
  go_enter Tryd.func5, Tryd.ntmps5
  go_wp2_with fail
  refine FC.out.mono ?_
  rintro e w1 ⟨rfl, hb⟩
  have B1 := Lib.hid hb
  clear hb FC
  cases fb with
  | false =>
    go_wp2_with fail
    go_ret
    exact ⟨rfl, B1.out⟩
  | true =>
  have FE : Hid (∀ r ∈ rs, r.x9.size + r.x10.size + r.x11.size ≤ 300 ∧ r.xn12 ≤ 20000 ∧ -1000000000 ≤ r.x0 ∧ r.x0 ≤ 1000000000) := Lib.hid (by
    have := FB.out
    unfold fewS at this
    rw [Bool.and_eq_true] at this
    exact few_each rs 0 this.2)
  have FN : Hid (n ≤ 120) := Lib.hid (by
    have := FB.out
    unfold fewS at this
    rw [Bool.and_eq_true] at this
    have := of_decide_eq_true this.1
    rw [LN.out] at this
    exact this)
  clear FB
  by_cases x0 : x < 0
  · have g1 : decide (x < 0) = true := decide_eq_true x0
    clear x0
    go_wp2_with fail
    go_ret
    exact ⟨rfl, B1.out⟩
  have g1 : decide (x < 0) = false := decide_eq_false x0
  by_cases x1 : 1000000 < x
  · have g2 : decide (1000000 < x) = true := decide_eq_true x1
    clear x0 x1
    go_wp2_with fail
    go_ret
    exact ⟨rfl, B1.out⟩
  have g2 : decide (1000000 < x) = false := decide_eq_false x1
  have NC := Lib.hid (S.solo_new w1)
  have XX := Lib.hid (And.intro (show 0 ≤ x by omega) (show x ≤ 1000000 by omega))
  clear x0 x1
  go_wp2_with fail
  refine NC.out.mono ?_
  rintro e w2 ⟨⟨g, rfl, hs⟩, hb⟩
  have S2 := Lib.hid hs
  have B2 := Lib.hid hb
  clear hs hb NC g1 g2
  go_wp2_with fail
  go_loopw [6, 7] (fun lv iv wr => ∃ (i : Nat) (lst : Int) (st : JSt), lv = .int .i64 lst ∧ iv = .int .i64 (i : Int) ∧ i ≤ n ∧ 0 ≤ lst ∧ lst ≤ 1000000000 ∧ Hid (Solo (JX JA g st) (fun k => k < w1.heap.size) wr) ∧ Hid (Lone lst st) ∧ Hid (Below w1.heap.size w1 wr)) (fun _ iv _ => n - (intOf iv).toNat)
  case atStart => exact ⟨0, 0, [], rfl, rfl, Nat.zero_le _, Int.le_refl _, by decide, S2, Lib.hid (lone_nil 0), B2⟩
  case round =>
    obtain ⟨i, lst, st, rfl, rfl, hi, l0, l1, HS, HL, HW⟩ := hrel
    clear S2 B2
    generalize wr = wo at *
    by_cases lt : i < n
    · obtain ⟨r, hr⟩ : ∃ r, rs[i]? = some r := ⟨_, List.getElem?_eq_getElem (by rw [LN.out]; exact lt)⟩
      have BW := Lib.hid (B1.out.trans (HW.out.mono B1.out.size))
      obtain ⟨ok, b, o, rfl, hlt, hat⟩ := ops_at HH.out BW.out hr
      obtain ⟨s1, s2, s3, s4⟩ := FE.out r (List.mem_of_getElem? hr)
      have c0 : wo.cell? ⟨b, o + i * 13, none⟩ = some (.int .i64 r.x0) := hat 0 _ rfl
      have C0 := Lib.hid (show wo.drew.cell? ⟨b, o + i * 13, none⟩ = some (.int .i64 r.x0) from c0)
      have RP := Lib.hid (Part.run_part wo.drew b (o + i * 13 + 2) 32 [.int .i64 r.x2, .int .i64 r.x3, .int .i64 r.x4, .int .i64 r.x5, .bool r.x6, .bool r.x7, .int .i64 r.x8, .string r.x9, .string r.x10, .string r.x11, .slice r.xA12 r.xn12 r.xc12] _ Tryd.underlying32 rfl (by kernel_rfl) (fun j v hv => (hat.sub 2 11) j v hv))
      have PC := Lib.hid (S.solo_put r.x0 (pkO r) (HS.out.up (S.obj g st) (below_drewN (Below.refl wo.heap.size wo) 1)) (HG.out.keep ((below_drewN BW.out 1))) (show HB < w1.heap.size by have := HB0.out; have := B1.out.size; omega) (show Holds wo.drew w.heap.size r.xA12 r.xn12 r.xc12 r.xl12 from (ok.2.1.below (below_drewN BW.out 1))) (show w.heap.size ≤ wo.heap.size from BW.out.size) (fun b' o' hn e => by
        obtain ⟨b2, o2, e2, h2, _⟩ := ok.2.1.2.2.2.2 hn
        rw [e] at e2
        injection e2 with e2
        injection e2 with e2
        subst e2
        exact Nat.lt_of_lt_of_le h2 B1.out.size) (by show r.x9.size ≤ 10000; omega) (by show r.x10.size ≤ 10000; omega) (by show r.x11.size ≤ 10000; omega) (by omega) (by omega) (by omega))
      obtain ⟨m, hm⟩ : ∃ m, max lst r.x0 = m := ⟨_, rfl⟩
      have ML := Lib.hid (show lst ≤ m ∧ r.x0 ≤ m ∧ m ≤ 1000000000 by omega)
      have f1 : decide (i < n) = true := decide_eq_true lt
      have f2 : IntKind.i64.wrap ((i : Int) + 1) = ((i + 1 : Nat) : Int) := by rw [IntWalk.i64_in _ (by omega)]; omega
      unfold val pkO at PC
      clear hat ok hr s1 s2 s3 s4
      go_wp2_with fail
      refine wp_region_free [0, 1, 2, 3, 4, 5, 6, 7, 8, 9, 10] 11 [] (fun w1 w2 => w1 = w2) (fun k' w' v => match k' with
        | 0 => v = .pointer (some ⟨g, 0, none⟩)
        | 1 => v = .slice (some ⟨b, o, none⟩) n c
        | 2 => v = .int .i64 (i : Int)
        | 3 => v = .pointer (some ⟨b, o + i * 13, none⟩)
        | 4 => v = .pointer (some ⟨b, o + i * 13, none⟩)
        | 5 => v = .int .i64 r.x0
        | 6 => v = .slice (some ⟨b, o, none⟩) n c
        | 7 => v = .int .i64 (i : Int)
        | 8 => v = .pointer (some ⟨b, o + i * 13, none⟩)
        | 9 => v = .pointer (some ⟨b, o + i * 13 + 2, none⟩)
        | _ => v = .agg #[.int .i64 r.x2, .int .i64 r.x3, .int .i64 r.x4, .int .i64 r.x5, .bool r.x6, .bool r.x7, .int .i64 r.x8, .string r.x9, .string r.x10, .string r.x11, .slice r.xA12 r.xn12 r.xc12]) (by kernel_rfl) (by kernel_rfl) rfl (fun _ _ _ h k => h.trans k) (fun k' w1 w2 v h => match k' with
        | 0 => fun x => x
        | 1 => fun x => x
        | 2 => fun x => x
        | 3 => fun x => x
        | 4 => fun x => x
        | 5 => fun x => x
        | 6 => fun x => x
        | 7 => fun x => x
        | 8 => fun x => x
        | 9 => fun x => x
        | _ + 10 => fun x => x) (fun _ _ _ _ _ h => h) ?_ _ (by rfl) ?_
      · refine obs_cons (by rfl) (fun vals w' hgr hdep K hK => ?_) (obs_cons (by rfl) (fun vals w' hgr hdep K hK => ?_) (obs_cons (by rfl) (fun vals w' hgr hdep K hK => ?_) (obs_cons (by rfl) (fun vals w' hgr hdep K hK => ?_) (obs_cons (by rfl) (fun vals w' hgr hdep K hK => ?_) (obs_cons (by rfl) (fun vals w' hgr hdep K hK => ?_) (obs_cons (by rfl) (fun vals w' hgr hdep K hK => ?_) (obs_cons (by rfl) (fun vals w' hgr hdep K hK => ?_) (obs_cons (by rfl) (fun vals w' hgr hdep K hK => ?_) (obs_cons (by rfl) (fun vals w' hgr hdep K hK => ?_) (obs_cons (by rfl) (fun vals w' hgr hdep K hK => ?_) (obs_nil)))))))))))
        · exact wp_move (.tmp 5) rfl _ (at_out _ (by kernel_rfl) rfl) (hK _ _ rfl rfl)
        · exact wp_move (.tmp 0) rfl _ (at_out _ (by kernel_rfl) rfl) (hK _ _ rfl rfl)
        · exact wp_move (.tmp 7) rfl _ (at_out _ (by kernel_rfl) rfl) (hK _ _ rfl rfl)
        · exact Part.st_elem_at (.tmp 44) (.tmp 45) rfl Tryd.underlying22 (by kernel_rfl) b o n c i ((at_dst 1 (by kernel_rfl)).trans (hdep 1 (by simp) (by kernel_rfl))) ((at_dst 2 (by kernel_rfl)).trans (hdep 2 (by simp) (by kernel_rfl))) lt (hK _ _ rfl rfl)
        · exact wp_field (.tmp 46) rfl _ (.pointer (some ⟨b, o + i * 13, none⟩)) ((at_dst 3 (by kernel_rfl)).trans (hdep 3 (by simp) (by kernel_rfl))) (by kernel_rfl) (hK _ _ rfl rfl)
        · exact wp_load1 (.tmp 47) rfl ⟨b, o + i * 13, none⟩ ((at_dst 4 (by kernel_rfl)).trans (hdep 4 (by simp) (by kernel_rfl))) Tryd.underlying3 rfl _ (by rw [← hgr]; exact C0.out) (hK _ _ rfl rfl)
        · exact wp_move (.tmp 0) rfl _ (at_out _ (by kernel_rfl) rfl) (hK _ _ rfl rfl)
        · exact wp_move (.tmp 7) rfl _ (at_out _ (by kernel_rfl) rfl) (hK _ _ rfl rfl)
        · exact Part.st_elem_at (.tmp 49) (.tmp 50) rfl Tryd.underlying22 (by kernel_rfl) b o n c i ((at_dst 6 (by kernel_rfl)).trans (hdep 6 (by simp) (by kernel_rfl))) ((at_dst 7 (by kernel_rfl)).trans (hdep 7 (by simp) (by kernel_rfl))) lt (hK _ _ rfl rfl)
        · exact wp_field (.tmp 51) rfl _ (.pointer (some ⟨b, o + i * 13 + 2, none⟩)) ((at_dst 8 (by kernel_rfl)).trans (hdep 8 (by simp) (by kernel_rfl))) (by kernel_rfl) (hK _ _ rfl rfl)
        · exact Part.st_load_part 32 (.tmp 52) rfl b (o + i * 13 + 2) [.int .i64 r.x2, .int .i64 r.x3, .int .i64 r.x4, .int .i64 r.x5, .bool r.x6, .bool r.x7, .int .i64 r.x8, .string r.x9, .string r.x10, .string r.x11, .slice r.xA12 r.xn12 r.xc12] ((at_dst 9 (by kernel_rfl)).trans (hdep 9 (by simp) (by kernel_rfl))) (by rw [← hgr]; exact RP.out) (hK _ _ rfl rfl)
      · intro vals w' hgr hG
        subst hgr
        refine wp_call 14 [.tmp 43, .tmp 48, .tmp 53] _ rfl ent_put [.pointer (some ⟨g, 0, none⟩), .int .i64 r.x0, .agg #[.int .i64 r.x2, .int .i64 r.x3, .int .i64 r.x4, .int .i64 r.x5, .bool r.x6, .bool r.x7, .int .i64 r.x8, .string r.x9, .string r.x10, .string r.x11, .slice r.xA12 r.xn12 r.xc12]] (list3 ((at_dst 0 (by kernel_rfl)).trans (hG 0 (by simp))) ((at_dst 5 (by kernel_rfl)).trans (hG 5 (by simp))) ((at_dst 10 (by kernel_rfl)).trans (hG 10 (by simp)))) (fun v w'' => Solo (JX JA g (putJ r.x0 (pkO r, r.xl12) st).2) (fun k => k < w1.heap.size) w'' ∧ Keep (fun k => k < w1.heap.size) wo.drew w'') (PC.out.mono fun e w'' ⟨⟨A6, c6, h1, _⟩, h2, h3⟩ => ⟨_, h1, h2, h3⟩) (fun v w3 ⟨h1, h2⟩ => wpAnyH_done (by kernel_rfl) ?_ _)
        have S3 := Lib.hid h1
        have B3 := Lib.hid ((below_drewN HW.out 1).trans (h2.below HW.out.size fun k z => z))
        have L3 : Hid (Lone m (putJ r.x0 (pkO r, r.xl12) st).2) := Lib.hid (lone_put (S.solo_good HS.out) (lone_up HL.out ML.out.1) ML.out.2.1)
        generalize (putJ r.x0 (pkO r, r.xl12) st).2 = st3 at *
        clear h1 h2 PC hG RP C0 c0
        simp only [fill, dstAt, List.getElem?_cons_zero, List.getElem?_cons_succ, Option.bind_some, Act.put, List.setIfInBounds_toArray, List.set_cons_zero, List.set_cons_succ]
        generalize vals 0 = y0, vals 1 = y1, vals 2 = y2, vals 3 = y3, vals 4 = y4, vals 5 = y5, vals 6 = y6, vals 7 = y7, vals 8 = y8, vals 9 = y9, vals 10 = y10 at *
        have KB := (S.solo_good S3.out).few
        have WC := Lib.hid (S.solo_wait S3.out)
        obtain ⟨k, hk⟩ : ∃ k, st3.length = k := ⟨_, rfl⟩
        rw [hk] at WC KB
        have HK := Lib.hid hk
        have q1 : decide ((16 : Int) < (k : Int)) = false := decide_eq_false (by omega)
        have q1' : decide (16 < k) = false := decide_eq_false (by omega)
        have q2 : decide ((k : Int) < 0) = false := decide_eq_false (by omega)
        clear hk
        go_wp2_with fail
        refine WC.out.mono ?_
        rintro e w4 ⟨rfl, hb⟩
        have S4 := Lib.hid (S3.out.up (S.obj g _) hb)
        have B4 := Lib.hid (B3.out.trans (hb.mono B3.out.size))
        have WD := Lib.hid (S.solo_wait S4.out)
        rw [HK.out] at WD
        clear hb WC S3 B3
        go_wp2_with fail
        refine WD.out.mono ?_
        rintro e w5 ⟨rfl, hb⟩
        have S5 := Lib.hid (S4.out.up (S.obj g _) hb)
        have B5 := Lib.hid (B4.out.trans (hb.mono B4.out.size))
        clear hb WD S4 B4
        go_wp2_with fail
        go_roundw
        case rel => exact ⟨i + 1, m, st3, rfl, by go_num, by omega, by have := ML.out; omega, ML.out.2.2, S5, L3, B5⟩
        case measure => simp [intOf]; omega
    · obtain rfl : i = n := by omega
      have f1 : decide (i < i) = false := decide_eq_false (by omega)
      obtain ⟨tk, htk⟩ : ∃ tk, lst + x = tk := ⟨_, rfl⟩
      have f3 : IntKind.i64.wrap (lst + x) = tk := by rw [IntWalk.i64_in _ (by have := XX.out; omega)]; exact htk
      have TC := Lib.hid (S.solo_tick tk HS.out (by have := XX.out; omega) (by have := XX.out; omega))
      have GJ := S.solo_good HS.out
      have OUT := Lib.hid (tick_out (now := tk) GJ)
      have KB4 := tick_few (now := tk) GJ HL.out
      have L4 := Lib.hid (lone_tick (now := tk) HL.out)
      obtain ⟨N4, hN4⟩ : ∃ N4, (tickJ tk st).1.length = N4 := ⟨_, rfl⟩
      rw [hN4] at KB4
      have HN4 := Lib.hid hN4
      have KB4 := Lib.hid KB4
      have LB := Lib.hid (And.intro l0 l1)
      have TK := Lib.hid htk
      clear htk GJ hN4 HS lt
      go_wp2_with fail
      refine TC.out.mono ?_
      rintro e w4 ⟨⟨v, rfl, hp⟩, hs, hk⟩
      have P4 := Lib.hid hp
      obtain ⟨A4, c4, rfl, -⟩ := hp
      have BX := Lib.hid (HW.out.trans (hk.below HW.out.size fun k z => z))
      have SW := Lib.hid hs
      have HL4 := HN4.out
      rw [HL4]
      have q3 : decide (16 < N4) = false := decide_eq_false (by have := KB4.out; omega)
      have q3' : decide ((16 : Int) < (N4 : Int)) = false := decide_eq_false (by have := KB4.out; omega)
      clear hs hk TC HW f3 HL4
      by_cases x60 : 60 ≤ x
      · have q4 : decide (60 ≤ x) = true := decide_eq_true x60
        have WC := Lib.hid (S.solo_wait SW.out)
        rw [tick_all HL.out (by have := TK.out; omega)] at WC
        clear x60
        go_wp2_with fail
        refine WC.out.mono ?_
        rintro e w5 ⟨rfl, hb⟩
        have P5 := Lib.hid (P4.out.below hb)
        have SW5 := Lib.hid (SW.out.up (S.obj g _) hb)
        have BX5 := Lib.hid (BX.out.trans (hb.mono BX.out.size))
        clear hb WC P4 SW BX
        rename Hid (PcsAt w5 _ _) => P4
        rename Hid (Solo _ _ w5) => SW
        rename Hid (Below w1.heap.size w1 w5) => BX
        go_wp2_with fail
        go_loopw [9] (fun iv wr => ∃ k : Nat, iv = .int .i64 (k : Int) ∧ k ≤ N4 ∧ Hid (w5 = wr)) (fun iv _ => N4 - (intOf iv).toNat)
        case atStart => exact ⟨0, rfl, Nat.zero_le _, Lib.hid rfl⟩
        case round =>
          obtain ⟨k, rfl, hk, HWr⟩ := hrel
          obtain rfl := HWr.out
          by_cases kl : k < N4
          · obtain ⟨y, hy⟩ : ∃ y, (tickJ tk st).1[k]? = some y := ⟨_, List.getElem?_eq_getElem (by rw [HN4.out]; exact kl)⟩
            obtain ⟨A8, c8, e2, hat⟩ := P4.out
            obtain ⟨b3, o3, A7, c7, e3, hlt, hcl, -⟩ := hat k y hy
            injection e2 with e4 e5 e6
            subst e4
            subst e3
            obtain ⟨yo, ym⟩ := OUT.out y (List.mem_of_getElem? hy)
            have d6 : w5.cell? ⟨b3, o3 + k * 11 + 6, none⟩ = some (.int .i64 0) := by have := hcl 6 _ rfl; rw [yo] at this; exact this
            have d5 : w5.cell? ⟨b3, o3 + k * 11 + 5, none⟩ = some (.bool true) := by have := hcl 5 _ rfl; rw [ym] at this; exact this
            have q1 : decide (k < N4) = true := decide_eq_true kl
            have q2 : IntKind.i64.wrap ((k : Int) + 1) = ((k + 1 : Nat) : Int) := by rw [IntWalk.i64_in _ (by have := KB4.out; omega)]; omega
            clear hcl hat hy yo ym hlt e5 e6
            go_wp2_with fail
            go_roundw
            case rel => exact ⟨k + 1, by go_num, by omega, Lib.hid (by trivial)⟩
            case measure => simp [intOf]; omega
          · obtain rfl : k = N4 := by omega
            have q1 : decide (k < k) = false := decide_eq_false (by omega)
            obtain ⟨t60, h60⟩ : ∃ t60, lst + 60 = t60 := ⟨_, rfl⟩
            have f6 : IntKind.i64.wrap (lst + 60) = t60 := by rw [IntWalk.i64_in _ (by have := LB.out; omega)]; exact h60
            have TD := Lib.hid (S.solo_tick t60 SW.out (by have := LB.out; omega) (by have := LB.out; omega))
            rw [tick_all L4.out (by omega)] at TD
            clear h60 kl
            go_wp2_with fail
            refine TD.out.mono ?_
            rintro e w6 ⟨⟨v6, rfl, -⟩, hs, hk⟩
            have S6 := Lib.hid hs
            have B6 := Lib.hid (BX.out.trans (hk.below BX.out.size fun k z => z))
            clear hs hk TD SW BX f6 q1
            go_wp2_with fail
            refine (piece_any 8 false xyzS w6 (by decide)).mono ?_
            rintro e w7 ⟨⟨A5, c5, rfl, ho⟩, hb⟩
            have PC := Lib.hid (put_new S (HG.out.keep B1.out) B6.out S6.out hb ho lst (pcP 8 false) (by decide) (by decide) (by decide) (by decide) (by have := LB.out; omega) (by have := LB.out; omega))
            rw [tk_one] at PC
            obtain ⟨t1, ht1⟩ : ∃ t, [(lst, [(pcP 8 false, nums xyzS)])] = t := ⟨_, rfl⟩
            rw [ht1] at PC
            have T1 := Lib.hid ht1
            clear ho hb S6 B6 ht1
            unfold val pcP at PC
            unfold val pcP
            go_wp2_with fail
            refine PC.out.mono ?_
            rintro e w8 ⟨⟨A6, c6, rfl, -⟩, hs, hb⟩
            have bz := (Below.refl w8.heap.size w8).alloc (Nat.le_refl _) (.cells #[.int .i64 0, .int .i64 0, .int .i64 0, .int .i64 0, .bool false, .bool false, .int .i64 0, .string ⟨#[]⟩, .string ⟨#[]⟩, .string ⟨#[]⟩, .slice A6 0 c6] 32)
            have S8 := Lib.hid (hs.up (S.obj g _) bz)
            have B8 := Lib.hid (hb.trans (bz.mono hb.size))
            clear hs hb bz PC
            unfold ansP ansB val Pkt.zero
            dsimp only
            go_wp2_with fail
            generalize w8.alloc (.cells #[.int .i64 0, .int .i64 0, .int .i64 0, .int .i64 0, .bool false, .bool false, .int .i64 0, .string ⟨#[]⟩, .string ⟨#[]⟩, .string ⟨#[]⟩, .slice A6 0 c6] 32) = w9 at *
            refine (piece_any 0 true numS w9 (by decide)).mono ?_
            rintro e w10 ⟨⟨A8, c8, rfl, ho⟩, hb⟩
            have PC := Lib.hid (put_new S (HG.out.keep B1.out) B8.out S8.out hb ho lst (pcP 0 true) (by decide) (by decide) (by decide) (by decide) (by have := LB.out; omega) (by have := LB.out; omega))
            rw [← T1.out, tk_two] at PC
            clear ho hb S8 B8 T1
            unfold val pcP at PC
            unfold val pcP
            go_wp2_with fail
            refine PC.out.mono ?_
            rintro e w11 ⟨⟨A9, c9, he, hh⟩, hs, hb⟩
            obtain rfl : e = .returned (.tuple #[.agg #[.int .i64 0, .int .i64 7, .int .i64 0, .int .i64 0, .bool false, .bool false, .int .i64 0, .string ⟨#[97, 98, 99, 100]⟩, .string ⟨#[101, 102, 103, 104]⟩, .string ⟨#[]⟩, .slice A9 11 c9], .bool true, .int .i64 0]) := he
            have hh : Holds w11 w11.heap.size A9 11 c9 (nums numS ++ nums xyzS) := hh
            have bz := (Below.refl w11.heap.size w11).alloc (Nat.le_refl _) (.cells #[.int .i64 0, .int .i64 7, .int .i64 0, .int .i64 0, .bool false, .bool false, .int .i64 0, .string ⟨#[97, 98, 99, 100]⟩, .string ⟨#[101, 102, 103, 104]⟩, .string ⟨#[]⟩, .slice A9 11 c9] 32)
            have K12 := Lib.hid (Blk.new w11 32 #[.int .i64 0, .int .i64 7, .int .i64 0, .int .i64 0, .bool false, .bool false, .int .i64 0, .string ⟨#[97, 98, 99, 100]⟩, .string ⟨#[101, 102, 103, 104]⟩, .string ⟨#[]⟩, .slice A9 11 c9])
            have B12 := Lib.hid (hb.trans (bz.mono hb.size))
            have H12 := Lib.hid ((hh.below bz).more bz.size)
            clear hs hb bz PC hh
            go_wp2_with fail
            generalize w11.alloc (.cells #[.int .i64 0, .int .i64 7, .int .i64 0, .int .i64 0, .bool false, .bool false, .int .i64 0, .string ⟨#[97, 98, 99, 100]⟩, .string ⟨#[101, 102, 103, 104]⟩, .string ⟨#[]⟩, .slice A9 11 c9] 32) = w12 at *
            refine (awake_any S w12 (HG.out.keep (B1.out.trans (B12.out.mono B1.out.size)))).mono ?_
            rintro e w13 ⟨rfl, hb⟩
            have B13 := Lib.hid (B1.out.trans ((B12.out.trans (hb.mono B12.out.size)).mono B1.out.size))
            have d10 : w13.cell? ⟨w11.heap.size, 10, none⟩ = some (.slice A9 11 c9) := keep_cell (K12.out.cell 10) hb
            have cv := run_string_bytes (H12.out.below hb)
            have ES : strOfNums (nums numS ++ nums xyzS) = ⟨#[49, 50, 51, 52, 53, 54, 55, 56, 120, 121, 122]⟩ := ex_str
            have cv2 : (convert 30 9 (.slice A9 11 c9)).run Tryd.prog w13 = .ok (.string ⟨#[49, 50, 51, 52, 53, 54, 55, 56, 120, 121, 122]⟩) w13 := by rw [← ES]; exact cv
            clear cv ES K12 H12 hb B12
            go_wp2_with fail
            go_ret
            exact ⟨rfl, B13.out⟩
      · have q4 : decide (60 ≤ x) = false := decide_eq_false x60
        clear x60
        go_wp2_with fail
        go_loopw [9] (fun iv wr => ∃ k : Nat, iv = .int .i64 (k : Int) ∧ k ≤ N4 ∧ Hid (w4 = wr)) (fun iv _ => N4 - (intOf iv).toNat)
        case atStart => exact ⟨0, rfl, Nat.zero_le _, Lib.hid rfl⟩
        case round =>
          obtain ⟨k, rfl, hk, HWr⟩ := hrel
          obtain rfl := HWr.out
          by_cases kl : k < N4
          · obtain ⟨y, hy⟩ : ∃ y, (tickJ tk st).1[k]? = some y := ⟨_, List.getElem?_eq_getElem (by rw [HN4.out]; exact kl)⟩
            obtain ⟨A8, c8, e2, hat⟩ := P4.out
            obtain ⟨b3, o3, A7, c7, e3, hlt, hcl, -⟩ := hat k y hy
            injection e2 with e4 e5 e6
            subst e4
            subst e3
            obtain ⟨yo, ym⟩ := OUT.out y (List.mem_of_getElem? hy)
            have d6 : w4.cell? ⟨b3, o3 + k * 11 + 6, none⟩ = some (.int .i64 0) := by have := hcl 6 _ rfl; rw [yo] at this; exact this
            have d5 : w4.cell? ⟨b3, o3 + k * 11 + 5, none⟩ = some (.bool true) := by have := hcl 5 _ rfl; rw [ym] at this; exact this
            have q1 : decide (k < N4) = true := decide_eq_true kl
            have q2 : IntKind.i64.wrap ((k : Int) + 1) = ((k + 1 : Nat) : Int) := by rw [IntWalk.i64_in _ (by have := KB4.out; omega)]; omega
            clear hcl hat hy yo ym hlt e5 e6
            go_wp2_with fail
            go_roundw
            case rel => exact ⟨k + 1, by go_num, by omega, Lib.hid (by trivial)⟩
            case measure => simp [intOf]; omega
          · obtain rfl : k = N4 := by omega
            have q1 : decide (k < k) = false := decide_eq_false (by omega)
            obtain ⟨t60, h60⟩ : ∃ t60, lst + 60 = t60 := ⟨_, rfl⟩
            have f6 : IntKind.i64.wrap (lst + 60) = t60 := by rw [IntWalk.i64_in _ (by have := LB.out; omega)]; exact h60
            have TD := Lib.hid (S.solo_tick t60 SW.out (by have := LB.out; omega) (by have := LB.out; omega))
            rw [tick_all L4.out (by omega)] at TD
            clear h60 kl
            go_wp2_with fail
            refine TD.out.mono ?_
            rintro e w6 ⟨⟨v6, rfl, -⟩, hs, hk⟩
            have S6 := Lib.hid hs
            have B6 := Lib.hid (BX.out.trans (hk.below BX.out.size fun k z => z))
            clear hs hk TD SW BX f6 q1
            go_wp2_with fail
            refine (piece_any 8 false xyzS w6 (by decide)).mono ?_
            rintro e w7 ⟨⟨A5, c5, rfl, ho⟩, hb⟩
            have PC := Lib.hid (put_new S (HG.out.keep B1.out) B6.out S6.out hb ho lst (pcP 8 false) (by decide) (by decide) (by decide) (by decide) (by have := LB.out; omega) (by have := LB.out; omega))
            rw [tk_one] at PC
            obtain ⟨t1, ht1⟩ : ∃ t, [(lst, [(pcP 8 false, nums xyzS)])] = t := ⟨_, rfl⟩
            rw [ht1] at PC
            have T1 := Lib.hid ht1
            clear ho hb S6 B6 ht1
            unfold val pcP at PC
            unfold val pcP
            go_wp2_with fail
            refine PC.out.mono ?_
            rintro e w8 ⟨⟨A6, c6, rfl, -⟩, hs, hb⟩
            have bz := (Below.refl w8.heap.size w8).alloc (Nat.le_refl _) (.cells #[.int .i64 0, .int .i64 0, .int .i64 0, .int .i64 0, .bool false, .bool false, .int .i64 0, .string ⟨#[]⟩, .string ⟨#[]⟩, .string ⟨#[]⟩, .slice A6 0 c6] 32)
            have S8 := Lib.hid (hs.up (S.obj g _) bz)
            have B8 := Lib.hid (hb.trans (bz.mono hb.size))
            clear hs hb bz PC
            unfold ansP ansB val Pkt.zero
            dsimp only
            go_wp2_with fail
            generalize w8.alloc (.cells #[.int .i64 0, .int .i64 0, .int .i64 0, .int .i64 0, .bool false, .bool false, .int .i64 0, .string ⟨#[]⟩, .string ⟨#[]⟩, .string ⟨#[]⟩, .slice A6 0 c6] 32) = w9 at *
            refine (piece_any 0 true numS w9 (by decide)).mono ?_
            rintro e w10 ⟨⟨A8, c8, rfl, ho⟩, hb⟩
            have PC := Lib.hid (put_new S (HG.out.keep B1.out) B8.out S8.out hb ho lst (pcP 0 true) (by decide) (by decide) (by decide) (by decide) (by have := LB.out; omega) (by have := LB.out; omega))
            rw [← T1.out, tk_two] at PC
            clear ho hb S8 B8 T1
            unfold val pcP at PC
            unfold val pcP
            go_wp2_with fail
            refine PC.out.mono ?_
            rintro e w11 ⟨⟨A9, c9, he, hh⟩, hs, hb⟩
            obtain rfl : e = .returned (.tuple #[.agg #[.int .i64 0, .int .i64 7, .int .i64 0, .int .i64 0, .bool false, .bool false, .int .i64 0, .string ⟨#[97, 98, 99, 100]⟩, .string ⟨#[101, 102, 103, 104]⟩, .string ⟨#[]⟩, .slice A9 11 c9], .bool true, .int .i64 0]) := he
            have hh : Holds w11 w11.heap.size A9 11 c9 (nums numS ++ nums xyzS) := hh
            have bz := (Below.refl w11.heap.size w11).alloc (Nat.le_refl _) (.cells #[.int .i64 0, .int .i64 7, .int .i64 0, .int .i64 0, .bool false, .bool false, .int .i64 0, .string ⟨#[97, 98, 99, 100]⟩, .string ⟨#[101, 102, 103, 104]⟩, .string ⟨#[]⟩, .slice A9 11 c9] 32)
            have K12 := Lib.hid (Blk.new w11 32 #[.int .i64 0, .int .i64 7, .int .i64 0, .int .i64 0, .bool false, .bool false, .int .i64 0, .string ⟨#[97, 98, 99, 100]⟩, .string ⟨#[101, 102, 103, 104]⟩, .string ⟨#[]⟩, .slice A9 11 c9])
            have B12 := Lib.hid (hb.trans (bz.mono hb.size))
            have H12 := Lib.hid ((hh.below bz).more bz.size)
            clear hs hb bz PC hh
            go_wp2_with fail
            generalize w11.alloc (.cells #[.int .i64 0, .int .i64 7, .int .i64 0, .int .i64 0, .bool false, .bool false, .int .i64 0, .string ⟨#[97, 98, 99, 100]⟩, .string ⟨#[101, 102, 103, 104]⟩, .string ⟨#[]⟩, .slice A9 11 c9] 32) = w12 at *
            refine (awake_any S w12 (HG.out.keep (B1.out.trans (B12.out.mono B1.out.size)))).mono ?_
            rintro e w13 ⟨rfl, hb⟩
            have B13 := Lib.hid (B1.out.trans ((B12.out.trans (hb.mono B12.out.size)).mono B1.out.size))
            have d10 : w13.cell? ⟨w11.heap.size, 10, none⟩ = some (.slice A9 11 c9) := keep_cell (K12.out.cell 10) hb
            have cv := run_string_bytes (H12.out.below hb)
            have ES : strOfNums (nums numS ++ nums xyzS) = ⟨#[49, 50, 51, 52, 53, 54, 55, 56, 120, 121, 122]⟩ := ex_str
            have cv2 : (convert 30 9 (.slice A9 11 c9)).run Tryd.prog w13 = .ok (.string ⟨#[49, 50, 51, 52, 53, 54, 55, 56, 120, 121, 122]⟩) w13 := by rw [← ES]; exact cv
            clear cv ES K12 H12 hb B12
            go_wp2_with fail
            go_ret
            exact ⟨rfl, B13.out⟩
end Go.Proofs.YtnpggkpcadefjaaDoor.LawTicks20

