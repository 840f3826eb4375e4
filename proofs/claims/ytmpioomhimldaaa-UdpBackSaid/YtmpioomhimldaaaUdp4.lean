/- The contract of Parse of the code: any bytes, any addresses. -/
import Derived.Test.YtmpioomhimldaaaUdp3
set_option linter.unusedVariables false
namespace Go.Proofs.Ytmpioomhimldaaa.Udp
open Go.RowKit Go.Sort Go.Proofs.Ytmpioomhimldaaa.Sums Go.Proofs.Ytmpioomhimldaaa.Words Go.Proofs.Ytmpioomhimldaaa.Mem Go.Proofs.Ytmpioomhimldaaa.Dat Go.Proofs.Ytmpioomhimldaaa.Blk Go.Proofs.Ytmpioomhimldaaa.Bits Go.Proofs.Ytmpioomhimldaaa.InetSum Go.Proofs.Ytmpioomhimldaaa.Steps Go.Proofs.Ytmpioomhimldaaa.Free Go.Proofs.Ytmpioomhimldaaa.Cut Go.Proofs.Ytmpioomhimldaaa.Udp

def aggB : TypeDesc → Bool
  | .struct _ => true
  | .array _ _ => true
  | _ => false
theorem results_pair {fn : Func} {p q : Tmp} {ty : TypeId} (h : fn.results = #[.cell p ty, .tmp q]) (tmps : Array Value) (w : World) (g : Nat) (t : TypeId) (cs : Array Value) (fr : Nat × Nat) (d : TypeDesc) (v : Value)
    (hp : tmps.getD p undef = .pointer (some ⟨g, 0, none⟩)) (hq : tmps.getD q undef = v) (hg : w.heap[g]? = some (.cells cs t fr))
    (hu : Try.prog.underlying ty = some d) (hd : aggB d = true) (hi : (Try.prog.info? ty).map (·.size) = some cs.size) :
    (results fn tmps).run Try.prog w = .ok (.tuple #[.agg cs, v]) w := by
  have hp' : tmps[p]?.getD undef = .pointer (some ⟨g, 0, none⟩) := by simpa using hp
  have hq' : tmps[q]?.getD undef = v := by simpa using hq
  have e := run_loadVar_row (P := Try.prog) w g t ty cs fr d hg hu (by cases d <;> simp_all [aggB]) hi
  simp [results, h, hp', hq', asAddr, e]
theorem setRow_bel {w W : World} {g B : Nat} (h : Below B w W) (hg : B ≤ g) (cs : Array Value) : Below B w (W.setRow g cs) :=
  ⟨h.os, h.tape, h.output, by simpa [World.setRow] using h.size, fun k hk => (setRow_other W g k cs (by omega)).trans (h.block k hk)⟩
theorem grown_row (w : World) (g : Nat) (cs : Array Value) : w.grownBy (w.setRow g cs) (some g) := ⟨rfl, rfl, rfl, by simp [World.setRow], fun k _ hk => setRow_other w g k cs (fun e => hk (by rw [e]))⟩
theorem owns_ne {w : World} {base n k : Nat} {v : Value} {l : List Int} (h : Owns w base v n l) (hk : k < base) : v.ownBlock = none ∨ v.ownBlock ≠ some k := by
  refine .inr fun q => ?_
  have := (h.lt k q).1
  omega
theorem own_other {w : World} {base n q : Nat} {v : Value} {l : List Int} {t : TypeId} {cs : Array Value} (h : Owns w base v n l) (hq : Blk w q t cs) (ht : t ≠ 5) : v.ownBlock ≠ some q := by
  rcases h.2.2 with ⟨rfl, _⟩ | ⟨g, cap, cur, fz, rfl, _, hg, _⟩
  · simp [Value.ownBlock]
  · intro e
    have : g = q := by simpa [Value.ownBlock] using e
    subst this
    unfold Blk at hq
    rw [hg] at hq
    injection hq with e
    injection e with _ e _
    exact ht e.symm
theorem blk_setRow {w : World} {g k : Nat} {t : TypeId} {cs ds : Array Value} (h : Blk w k t cs) (hk : k ≠ g) : Blk (w.setRow g ds) k t cs := (setRow_other w g k ds hk).trans h
theorem oneD (s d : ByteArray) (A : Option Addr) (n c : Nat) : (#[.string s, .string d, .slice A n c] : Array Value).all (·.oneCell') = true := by simp [Value.oneCell']
theorem oneU (a b : Int) (A : Option Addr) (n c : Nat) : (#[.int .i64 a, .int .i64 b, .slice A n c] : Array Value).all (·.oneCell') = true := by simp [Value.oneCell']
theorem buildU (a b : Int) (A : Option Addr) (n c : Nat) (w : World) : (Instr.build 24 [(0, Value.int .i64 a), (1, .int .i64 b), (2, .slice A n c)].toArray).run Try.prog w = .ok (.agg #[.int .i64 a, .int .i64 b, .slice A n c]) w := by kernel_rfl
theorem ent_from : Enters Try.prog 24 := enters_of Try.func24 (by kernel_rfl) rfl
theorem ent_to : Enters Try.prog 25 := enters_of Try.func25 (by kernel_rfl) rfl
theorem ent_clone : Enters Try.prog 26 := enters_of Try.func26 (by kernel_rfl) rfl

/-- What Parse gives. -/
def Gp (l : List Int) (s d : ByteArray) (w : World) (e : Ending) (w' : World) : Prop :=
  ((perr l s d = 0 ∧ ∃ A' n' c', e = .returned (.tuple #[.agg #[.int .i64 (w16 l 0), .int .i64 (w16 l 2), .slice A' n' c'], .int .i64 0]) ∧ Owns w' w.heap.size (.slice A' n' c') n' (l.drop 8)) ∨
   (perr l s d ≠ 0 ∧ e = .returned (.tuple #[.agg #[.int .i64 0, .int .i64 0, .slice none 0 0], .int .i64 (perr l s d)]))) ∧ Below w.heap.size w w'

set_option maxHeartbeats 4000000 in
set_option maxRecDepth 100000 in
theorem parse_any (s d : ByteArray) (A : Option Addr) (n c : Nat) (l : List Int) (w : World) (B : Nat) (h : Holds w B A n c l) (hB : B ≤ w.heap.size) (hn : n ≤ 1048576) :
    Calls Try.prog 14 #[.slice A n c, .string s, .string d] w (Gp l s d w) := by
  have HL := Lib.hid h.1
  have hnc := h.2.1
  have B0 := Lib.hid ((Below.refl w.heap.size w).alloc (Nat.le_refl _) (.cells #[.int .i64 0, .int .i64 0, .slice none 0 0] 24))
  have R0 := Lib.hid (Blk.new w 24 #[.int .i64 0, .int .i64 0, .slice none 0 0])
  have sz0 : (w.alloc (.cells #[.int .i64 0, .int .i64 0, .slice none 0 0] 24)).heap.size = w.heap.size + 1 := by simp
  have B1 := Lib.hid (B0.out.alloc B0.out.size (.cells #[.string ⟨#[]⟩, .string ⟨#[]⟩, .slice none 0 0] 46))
  have R1 := Lib.hid (R0.out.alloc (.cells #[.string ⟨#[]⟩, .string ⟨#[]⟩, .slice none 0 0] 46))
  have D1 := Blk.new (w.alloc (.cells #[.int .i64 0, .int .i64 0, .slice none 0 0] 24)) 46 #[.string ⟨#[]⟩, .string ⟨#[]⟩, .slice none 0 0]
  rw [sz0] at D1
  have D2 := Lib.hid D1
  have B3 := Lib.hid (setRow_bel B1.out (g := w.heap.size + 1) (by omega) #[.string s, .string d, .slice A n c])
  have R3 := Lib.hid (blk_setRow (ds := #[.string s, .string d, .slice A n c]) R1.out (g := w.heap.size + 1) (by omega))
  have D3 : Hid (Blk (((w.alloc (.cells #[.int .i64 0, .int .i64 0, .slice none 0 0] 24)).alloc (.cells #[.string ⟨#[]⟩, .string ⟨#[]⟩, .slice none 0 0] 46)).setRow (w.heap.size + 1) #[.string s, .string d, .slice A n c]) (w.heap.size + 1) 46 #[.string s, .string d, .slice A n c]) := Lib.hid (setRow_heap _ _ _ _ _ _ D2.out)
  have H3 := Lib.hid (h.below (B3.out.mono hB))
  clear D1 sz0 h
  go_enter Try.func14, Try.ntmps14
  go_wp2_with (first
    | (refine wpList_store_row rfl 46 (.tmp 8) (.tmp 13) rfl (w.heap.size + 1) #[.string s, .string d, .slice A n c] rfl rfl 46 _ D2.out (by kernel_rfl) rfl (oneD _ _ _ _ _) ?_)
    | (refine Loads.wpList_load_w rfl 46 (.tmp 8) rfl (w.heap.size + 1) rfl 46 #[.string s, .string d, .slice A n c] (0, 0) _ D3.out (Try.underlying46) rfl (by kernel_rfl) ?_))
  generalize ((w.alloc (.cells #[.int .i64 0, .int .i64 0, .slice none 0 0] 24)).alloc (.cells #[.string ⟨#[]⟩, .string ⟨#[]⟩, .slice none 0 0] 46)).setRow (w.heap.size + 1) #[.string s, .string d, .slice A n c] = w3 at *
  have hs3 := B3.out.size
  refine (examine_any s d A n c l w3 B H3.out (by omega) hn).mono ?_
  rintro e w4 ⟨rfl, hb⟩
  have B4 := Lib.hid (B3.out.trans (hb.mono B3.out.size))
  have R4 := Lib.hid (R3.out.below hb R3.out.lt)
  have D4 := Lib.hid (D3.out.below hb D3.out.lt)
  have H4 := Lib.hid (H3.out.below (hb.mono (by omega)))
  have PE : Hid (Gp l s d w = Gp l s d w) := Lib.hid rfl
  clear hb B0 R0 B1 R1 D2 B3 R3 D3 H3
  have hs4 := B4.out.size
  obtain ⟨pe, hpe⟩ : ∃ pe, pe = perr l s d := ⟨_, rfl⟩
  have PH := Lib.hid hpe
  rw [← hpe]
  clear hpe
  by_cases q : pe = 0
  · subst q
    have pz := perr_zero PH.out.symm
    have h8 : 8 ≤ n := by have := pz.2.1; rw [HL.out] at this; exact this
    clear pz
    obtain ⟨b, p, rfl, _⟩ := H4.out.2.2.2.2 (by omega)
    go_wp2_with fail
    have HW : Hid (∀ w', Below w4.drew.heap.size w4.drew w' → Holds w' B (some ⟨b, p, none⟩) n c l) := Lib.hid fun w' hw => H4.out.below ((((below_drewN (Below.refl w4.heap.size w4) 1).trans hw)).mono (by omega))
    have hBw : B ≤ w4.drew.heap.size := by show B ≤ w4.heap.size; omega
    have hsw : w.heap.size ≤ w4.drew.heap.size := B4.out.size
    refine wp_region_free [0, 1, 2, 3, 4, 5, 6] 7 [8, 9] (fun w1 w2 => Below w1.heap.size w1 w2) (fun k' w' v => match k' with
      | 0 => v = .agg #[.string s, .string d, .slice (some ⟨b, p, none⟩) n c]
      | 1 => v = .int .i64 (w16 l 0)
      | 2 => v = .agg #[.string s, .string d, .slice (some ⟨b, p, none⟩) n c]
      | 3 => v = .int .i64 (w16 l 2)
      | 4 => v = .slice (some ⟨b, p, none⟩) n c
      | 5 => v = .slice (some (adr b p c 8)) (n - 8) (c - 8)
      | _ => ∃ A' c', v = .slice A' (n - 8) c' ∧ Owns w' w.heap.size v (n - 8) (l.drop 8)) (by kernel_rfl) (by kernel_rfl) (Below.refl _ _) (fun _ _ _ h k => h.trans (k.mono h.size)) (fun k w1 w2 v h => match k with
      | 0 => fun x => x
      | 1 => fun x => x
      | 2 => fun x => x
      | 3 => fun x => x
      | 4 => fun x => x
      | 5 => fun x => x
      | _ + 6 => fun ⟨A', c', e, o⟩ => ⟨A', c', e, Owns.below o h (Nat.le_refl _)⟩) (fun _ _ _ _ _ h => h) ?_ _ (by rfl) ?_
    · refine obs_cons (by rfl) (fun vals w' hgr hdep K hK => ?_) (obs_cons (by rfl) (fun vals w' hgr hdep K hK => ?_) (obs_cons (by rfl) (fun vals w' hgr hdep K hK => ?_) (obs_cons (by rfl) (fun vals w' hgr hdep K hK => ?_) (obs_cons (by rfl) (fun vals w' hgr hdep K hK => ?_) (obs_cons (by rfl) (fun vals w' hgr hdep K hK => ?_) (obs_cons (by rfl) (fun vals w' hgr hdep K hK => ?_) obs_nil))))))
      · exact st_load_row 46 (.tmp 8) rfl (w.heap.size + 1) (at_out _ (by kernel_rfl) rfl) 46 #[.string s, .string d, .slice (some ⟨b, p, none⟩) n c] (0, 0) _ (D4.out.drew.below hgr D4.out.lt) Try.underlying46 rfl (by kernel_rfl) (hK _ _ (Below.refl _ _) rfl)
      · exact wp_call 24 [.tmp 20] _ rfl ent_from [.agg #[.string s, .string d, .slice (some ⟨b, p, none⟩) n c]] (congrArg (fun z => [z]) ((at_dst 0 (by kernel_rfl)).trans (hdep 0 (by simp) (by kernel_rfl)))) (fun v w'' => v = .int .i64 (w16 l 0) ∧ Below w'.heap.size w' w'') ((from_any s d _ n c l w' B (HW.out _ hgr) (Nat.le_trans hBw hgr.size) h8).mono fun e w'' ⟨h1, h2⟩ => ⟨_, h1, rfl, h2⟩) (fun v w'' ⟨h1, h2⟩ => hK v w'' h2 h1)
      · exact st_load_row 46 (.tmp 8) rfl (w.heap.size + 1) (at_out _ (by kernel_rfl) rfl) 46 #[.string s, .string d, .slice (some ⟨b, p, none⟩) n c] (0, 0) _ (D4.out.drew.below hgr D4.out.lt) Try.underlying46 rfl (by kernel_rfl) (hK _ _ (Below.refl _ _) rfl)
      · exact wp_call 25 [.tmp 22] _ rfl ent_to [.agg #[.string s, .string d, .slice (some ⟨b, p, none⟩) n c]] (congrArg (fun z => [z]) ((at_dst 2 (by kernel_rfl)).trans (hdep 2 (by simp) (by kernel_rfl)))) (fun v w'' => v = .int .i64 (w16 l 2) ∧ Below w'.heap.size w' w'') ((to_any s d _ n c l w' B (HW.out _ hgr) (Nat.le_trans hBw hgr.size) h8).mono fun e w'' ⟨h1, h2⟩ => ⟨_, h1, rfl, h2⟩) (fun v w'' ⟨h1, h2⟩ => hK v w'' h2 h1)
      · exact wp_move (.tmp 0) rfl _ (at_out _ (by kernel_rfl) rfl) (hK _ _ (Below.refl _ _) rfl)
      · exact wp_slice (.tmp 24) rfl _ _ (some (.int .i64 8)) none none ((at_dst 4 (by kernel_rfl)).trans (hdep 4 (by simp) (by kernel_rfl))) rfl rfl rfl (cutA_l b p n c 8 _ (by omega) (by omega)) (hK _ _ (Below.refl _ _) rfl)
      · exact wp_call 26 [.tmp 25] _ rfl ent_clone [.slice (some (adr b p c 8)) (n - 8) (c - 8)] (congrArg (fun z => [z]) ((at_dst 5 (by kernel_rfl)).trans (hdep 5 (by simp) (by kernel_rfl)))) (fun v w'' => (∃ A' c', v = .slice A' (n - 8) c' ∧ Owns w'' w'.heap.size v (n - 8) (l.drop 8)) ∧ Below w'.heap.size w' w'') ((clone_any _ _ _ _ w' B (cutA_rest (HW.out _ hgr) (by omega)) (Nat.le_trans hBw hgr.size) (by omega)).mono fun e w'' ⟨A', c', h1, h2, h3⟩ => ⟨_, h1, ⟨A', c', rfl, h2⟩, h3⟩) (fun v w'' ⟨⟨A', c', h1, h2⟩, h3⟩ => hK v w'' h3 ⟨A', c', h1, h2.mono (Nat.le_trans hsw hgr.size)⟩)
    · intro vals w' hgr hG
      obtain ⟨A', c', ec, oc⟩ : ∃ A' c', vals 6 = .slice A' (n - 8) c' ∧ Owns w' w.heap.size (vals 6) (n - 8) (l.drop 8) := hG 6 (by simp)
      have e1 : vals 1 = .int .i64 (w16 l 0) := hG 1 (by simp)
      have e3 : vals 3 = .int .i64 (w16 l 2) := hG 3 (by simp)
      rw [ec] at oc
      refine st_build ([(0, 21, 1), (1, 23, 3), (2, 26, 6)].map fun q => (q.1, Operand.tmp q.2.1)) rfl ([(0, 21, 1), (1, 23, 3), (2, 26, 6)].map fun q => (q.1, vals q.2.2)) (map_fill [(0, 21, 1), (1, 23, 3), (2, 26, 6)] (by kernel_rfl)) (.agg #[.int .i64 (w16 l 0), .int .i64 (w16 l 2), .slice A' (n - 8) c']) ?_ ?_
      · simp only [List.map, e1, e3, ec]
        exact buildU _ _ _ _ _ _
      · have R9 := R4.out.drew.below hgr R4.out.lt
        refine wpAnyH_next 8 _ rfl rfl (by kernel_rfl) (st_store_row 24 (.tmp 6) (.tmp 27) rfl w.heap.size _ (put_tmps_ne (by rfl) (at_out _ (by kernel_rfl) rfl)) (put_tmps_eq (fill_size _ _ _) (by kernel_rfl)) 24 _ R9 (by kernel_rfl) rfl (oneU _ _ _ _ _) ⟨trivial, wpAnyH_next 9 _ rfl rfl (by kernel_rfl) (st_assign (.const (.int .i64 0)) (.int .i64 0) rfl rfl ⟨trivial, wpAnyH_done (by kernel_rfl) ?_ _⟩)⟩)
        have BB : Below w.heap.size w (w'.setRow w.heap.size #[.int .i64 (w16 l 0), .int .i64 (w16 l 2), .slice A' (n - 8) c']) := setRow_bel ((below_drewN B4.out 1).trans (hgr.mono hsw)) (Nat.le_refl _) _
        have RR := setRow_heap w' w.heap.size _ #[.int .i64 (w16 l 0), .int .i64 (w16 l 2), .slice A' (n - 8) c'] _ _ R9
        have OO : Owns (w'.setRow w.heap.size #[.int .i64 (w16 l 0), .int .i64 (w16 l 2), .slice A' (n - 8) c']) w.heap.size (.slice A' (n - 8) c') (n - 8) (l.drop 8) := oc.kept (row := some w.heap.size) (grown_row _ _ _) (.inr (own_other oc R9 (by decide)))
        generalize hF : Act.put _ _ _ = F
        have h2 : F.eval (.tmp 6) = .pointer (some ⟨w.heap.size, 0, none⟩) := by
          rw [← hF]
          exact put_tmps_ne (d := 7) (by rfl) (put_none (put_tmps_ne (d := 27) (by rfl) (at_out _ (by kernel_rfl) rfl)))
        have h3 : F.eval (.tmp 7) = .int .i64 0 := by
          rw [← hF]
          exact put_tmps_eq (d := 7) (put_size (put_size (fill_size _ _ _))) (by kernel_rfl)
        have h0 : F.defers = [] := by
          rw [← hF]
          exact put_defs (put_defs (put_defs (fill_defs _ _ _)))
        clear hF hG oc R9
        generalize w'.setRow w.heap.size _ = w9 at *
        go_wp2_with fail
        exact bodyPost_ret (results_pair rfl _ _ w.heap.size 24 _ (0, 0) _ _ h2 h3 RR Try.underlying24 rfl (by kernel_rfl)) h0 ⟨.inl ⟨PH.out.symm, A', n - 8, c', rfl, OO⟩, BB⟩
  · have q1 : (pe != 0) = true := by simpa using q
    have Q := Lib.hid q
    clear q
    go_wp2_with (refine wpList_store_row rfl 24 (.tmp 6) (.tmp 18) rfl w.heap.size #[.int .i64 0, .int .i64 0, .slice none 0 0] rfl rfl 24 _ R4.out (by kernel_rfl) rfl (oneU _ _ _ _ _) ?_)
    exact bodyPost_ret (results_pair rfl _ _ w.heap.size 24 _ (0, 0) _ _ rfl rfl (setRow_heap _ _ _ _ _ _ R4.out) Try.underlying24 rfl (by kernel_rfl)) rfl ⟨.inr ⟨by rw [← PH.out]; exact Q.out, by rw [← PH.out]; rfl⟩, setRow_bel B4.out (Nat.le_refl _) _⟩
end Go.Proofs.Ytmpioomhimldaaa.Udp
