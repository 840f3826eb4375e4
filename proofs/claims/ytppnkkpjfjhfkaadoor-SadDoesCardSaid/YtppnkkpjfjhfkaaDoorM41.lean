/- One call of both, whichever; an empty object. -/
import Derived.Test.YtppnkkpjfjhfkaaDoorM39
import Derived.Test.YtppnkkpjfjhfkaaDoorM14
import Derived.Test.YtppnkkpjfjhfkaaDoorM27
import Derived.Test.YtppnkkpjfjhfkaaDoorM40
set_option linter.unusedVariables false
namespace Go.Proofs.YtppnkkpjfjhfkaaDoor.Does17
open Go.RowKit Go.Proofs.YtppnkkpjfjhfkaaDoor.Mem Go.Proofs.YtppnkkpjfjhfkaaDoor.Blk Go.Proofs.YtppnkkpjfjhfkaaDoor.ArgT Go.Proofs.YtppnkkpjfjhfkaaDoor.Part Go.Proofs.YtppnkkpjfjhfkaaDoor.Longs Go.Proofs.YtppnkkpjfjhfkaaDoor.SadM Go.Proofs.YtppnkkpjfjhfkaaDoor.SadR3 Go.Proofs.YtppnkkpjfjhfkaaDoor.SadF Go.Proofs.YtppnkkpjfjhfkaaDoor.SadL Go.Proofs.YtppnkkpjfjhfkaaDoor.RowN Go.Proofs.YtppnkkpjfjhfkaaDoor.RowA Go.Proofs.YtppnkkpjfjhfkaaDoor.SadP Go.Proofs.YtppnkkpjfjhfkaaDoor.Two17 Go.Proofs.YtppnkkpjfjhfkaaDoor.Few17 Go.Proofs.YtppnkkpjfjhfkaaDoor.Step17 Go.Proofs.YtppnkkpjfjhfkaaDoor.Step17r Go.Proofs.YtppnkkpjfjhfkaaDoor.Step17w Go.Proofs.YtppnkkpjfjhfkaaDoor.CadM Go.Proofs.YtppnkkpjfjhfkaaDoor.Cad11

theorem list_F (F : Nat → Prop) (gs : Nat) (es : List Ent) (w : World) (h : SadF F w gs es) (hn : es.length ≤ 1000000) :
    Calls Tryd.prog 13 #[.pointer (some ⟨gs, 0, none⟩)] w fun er w' => ∃ A c, er = .returned (.slice A es.length c) ∧ Lives w' A es.length c (es.map (·.life)) ∧ (∀ k, own A k → w.heap.size ≤ k) ∧ Below w.heap.size w w' := by
  obtain ⟨vl, ls, h1, _⟩ := h
  exact list_ref 0 gs vl ls es w h1 hn
theorem fresh {F : Nat → Prop} {w : World} {g : Nat} (h : Blk w g 29 #[.slice none 0 0]) (hF : ¬ F g) : SadF F w g [] :=
  ⟨.slice none 0 0, [], ⟨h, ⟨rfl, .inl ⟨rfl, rfl⟩⟩, rfl, fun i l e h1 => by simp at h1, ⟨fun _ => (0, 0), rfl, fun k hk => by simp [Value.ownBlock] at hk, fun l hl => by simp at hl⟩, by simp, Nat.zero_le _, fun l hl => by simp at hl⟩, ⟨hF, fun k hk => by simp [Value.ownBlock] at hk, fun l hl => by simp at hl⟩⟩
/-- One call of both, whichever. -/
theorem step_any (w0 : World) (C0 : Nat → Nat) (gs gx k : Nat) (es : List Ent) (o : Op17R) (w : World) (T : Two CadF SadF w0 C0 gs gx w es es) (G : SadP.Good k es) (hk : k ≤ 1000) (fit : fitsOp o) (n1 : -9223372036854775808 ≤ o.x4) (q0 : 0 ≤ o.x7 ∧ o.x7 ≤ 18446744073709551615) :
    Calls Tryd.prog 10 #[.pointer (some ⟨gs, 0, none⟩), .pointer (some ⟨gx, 0, none⟩), .agg (opCs o)] w fun er w' => er = .returned (.bool true) ∧ ∃ es', SadP.Good (k + 1) es' ∧ Two CadF SadF w0 C0 gs gx w' es' es' := by
  have wrap : ∀ es', SadP.Good (k + 1) es' → Calls Tryd.prog 10 #[.pointer (some ⟨gs, 0, none⟩), .pointer (some ⟨gx, 0, none⟩), .agg (opCs o)] w (fun er w' => er = .returned (.bool true) ∧ Two CadF SadF w0 C0 gs gx w' es' es') → Calls Tryd.prog 10 #[.pointer (some ⟨gs, 0, none⟩), .pointer (some ⟨gx, 0, none⟩), .agg (opCs o)] w (fun er w' => er = .returned (.bool true) ∧ ∃ es', SadP.Good (k + 1) es' ∧ Two CadF SadF w0 C0 gs gx w' es' es') := by
    intro es' g h
    refine h.mono ?_
    rintro er w' ⟨h1, h2⟩
    exact ⟨h1, es', g, h2⟩
  have no : ∀ m : Int, ¬ o.x0 = m → (o.x0 == m) = false := fun m h => by rw [beq_eq_false_iff_ne]; exact h
  have ya : ∀ m : Int, o.x0 = m → (o.x0 == m) = true := fun m h => by rw [beq_iff_eq]; exact h
  by_cases a0 : o.x0 = 0
  · exact wrap _ (G.add _ fit.2.2.2 _) (step_add w0 C0 gs gx k es o w T cadF_obj sadF_obj G hk fit n1 q0 (ya _ a0))
  by_cases a1 : o.x0 = 1
  · exact wrap _ (G.remove _ _) (step_remove w0 C0 gs gx k es o w T cadF_obj sadF_obj G hk fit n1 q0 (no _ a0) (ya _ a1))
  by_cases a2 : o.x0 = 2
  · exact wrap _ G.up (step_age w0 C0 gs gx k es o w T cadF_obj sadF_obj G fit (no _ a0) (no _ a1) (ya _ a2))
  by_cases a3 : o.x0 = 3
  · exact wrap _ G.up (step_pick w0 C0 gs gx k es o w T cadF_obj sadF_obj G fit (no _ a0) (no _ a1) (no _ a2) (ya _ a3))
  by_cases a4 : o.x0 = 4
  · exact wrap _ (G.send _ _ _ fit.2.1) (step_send w0 C0 gs gx k es o w T cadF_obj sadF_obj G hk fit n1 (no _ a0) (no _ a1) (no _ a2) (no _ a3) (ya _ a4))
  by_cases a5 : o.x0 = 5
  · exact wrap _ G.up (step_look w0 C0 gs gx k es o w T cadF_obj sadF_obj G hk fit n1 (no _ a0) (no _ a1) (no _ a2) (no _ a3) (no _ a4) (ya _ a5))
  exact wrap _ (G.take _ _ _ _ fit.2.1) (step_take w0 C0 gs gx k es o w T cadF_obj sadF_obj G hk fit n1 q0 (no _ a0) (no _ a1) (no _ a2) (no _ a3) (no _ a4) (no _ a5))
end Go.Proofs.YtppnkkpjfjhfkaaDoor.Does17

/- The loop of SadDoes, over two objects of the document's (practice). -/
set_option linter.unusedVariables false
namespace Go.Proofs.YtppnkkpjfjhfkaaDoor.Does17b
open Go.RowKit Go.Proofs.YtppnkkpjfjhfkaaDoor.Mem Go.Proofs.YtppnkkpjfjhfkaaDoor.Blk Go.Proofs.YtppnkkpjfjhfkaaDoor.ArgT Go.Proofs.YtppnkkpjfjhfkaaDoor.Part Go.Proofs.YtppnkkpjfjhfkaaDoor.Longs Go.Proofs.YtppnkkpjfjhfkaaDoor.SadM Go.Proofs.YtppnkkpjfjhfkaaDoor.SadR3 Go.Proofs.YtppnkkpjfjhfkaaDoor.SadF Go.Proofs.YtppnkkpjfjhfkaaDoor.SadL Go.Proofs.YtppnkkpjfjhfkaaDoor.RowN Go.Proofs.YtppnkkpjfjhfkaaDoor.RowA Go.Proofs.YtppnkkpjfjhfkaaDoor.SadP Go.Proofs.YtppnkkpjfjhfkaaDoor.Two17 Go.Proofs.YtppnkkpjfjhfkaaDoor.Few17 Go.Proofs.YtppnkkpjfjhfkaaDoor.Does17 Go.Proofs.YtppnkkpjfjhfkaaDoor.CadM Go.Proofs.YtppnkkpjfjhfkaaDoor.Cad11 Go.Proofs.YtppnkkpjfjhfkaaDoor.Errno

theorem two_bel {w0 w : World} {gs gx : Nat} {e e' : List Ent} (h : Two CadF SadF w0 (fun _ => 0) gs gx w e e') : Below w0.heap.size w0 w := by
  obtain ⟨C, _, _, _, k, _⟩ := h
  exact k.below (Nat.le_refl _) fun k hk => ⟨hk, rfl⟩
/-- Two lists, one behind the other, and whether they are the same. -/
theorem lists {w0 w : World} {C0 : Nat → Nat} {gs gx : Nat} {es : List Ent} (T : Two CadF SadF w0 C0 gs gx w es es) (hn : es.length ≤ 32) : Calls Tryd.prog 12 #[.pointer (some ⟨gs, 0, none⟩)] w fun er w' => ∃ A c, er = .returned (.slice A es.length c) ∧ Lives w' A es.length c (es.map (·.life)) ∧ Two CadF SadF w0 C0 gs gx w' es es := by
  have T' := T
  obtain ⟨C, hC, a, b, k, hd⟩ := T'
  refine (clist_F _ gs es w a (by omega)).mono ?_
  rintro er w' ⟨A, c, h1, h2, h3, h4⟩
  exact ⟨A, c, h1, h2, T.below cadF_obj sadF_obj h4⟩
theorem lists2 {w0 w : World} {C0 : Nat → Nat} {gs gx : Nat} {es : List Ent} (T : Two CadF SadF w0 C0 gs gx w es es) (hn : es.length ≤ 32) : Calls Tryd.prog 13 #[.pointer (some ⟨gx, 0, none⟩)] w fun er w' => ∃ A c, er = .returned (.slice A es.length c) ∧ Lives w' A es.length c (es.map (·.life)) ∧ Two CadF SadF w0 C0 gs gx w' es es ∧ Below w.heap.size w w' := by
  have T' := T
  obtain ⟨C, hC, a, b, k, hd⟩ := T'
  refine (list_F _ gx es w b (by omega)).mono ?_
  rintro er w' ⟨A, c, h1, h2, h3, h4⟩
  exact ⟨A, c, h1, h2, T.below cadF_obj sadF_obj h4, h4⟩
theorem two_new (w : World) (hg : Handle w) : Two CadF SadF w (fun _ => 0) w.heap.size (w.heap.size + 1) ((w.alloc (.cells #[.slice none 0 0] 60)).alloc (.cells #[.slice none 0 0] 29)) [] [] := by
  have b1 : Blk ((w.alloc (.cells #[.slice none 0 0] 60)).alloc (.cells #[.slice none 0 0] 29)) w.heap.size 60 #[.slice none 0 0] := Blk.alloc (Blk.new w _ _) _
  have b2 : Blk ((w.alloc (.cells #[.slice none 0 0] 60)).alloc (.cells #[.slice none 0 0] 29)) (w.heap.size + 1) 29 #[.slice none 0 0] := by
    have h := Blk.new (w.alloc (.cells #[.slice none 0 0] 60)) 29 #[.slice none 0 0]
    simpa using h
  refine ⟨fun k => if k = w.heap.size then 1 else if k = w.heap.size + 1 then 2 else 0, fun k hk => ?_, cfresh b1 fun z => ?_, fresh b2 fun z => ?_, Keep.of (((Below.refl w.heap.size w).alloc (Nat.le_refl _) _).alloc (by simp) _), ⟨rfl, hg⟩⟩
  · dsimp only
    rw [if_neg (by omega), if_neg (by omega)]
  · have := z.2
    dsimp only at this
    exact this (if_pos rfl)
  · have := z.2
    dsimp only at this
    rw [if_neg (by omega), if_pos rfl] at this
    exact this rfl

set_option maxRecDepth 100000 in
set_option maxHeartbeats 4000000 in
theorem does_any (A : Option Addr) (n c : Nat) (rs : List Op17R) (W : World) (h : Op17Rows W A n rs) (hg : Handle W) :
    Calls Tryd.prog 3 #[.slice A n c] W fun e w' => e = .returned (.bool true) ∧ Below W.heap.size W w' := by
  have FW := Lib.hid (few_any A n c rs W h)
  have H := Lib.hid h
  have HG := Lib.hid hg
  clear h hg
  go_enter Tryd.func3, Tryd.ntmps3
  go_wp2_with fail
  refine FW.out.mono ?_
  rintro er w1 ⟨fb, rfl, hfb, hb⟩
  clear FW
  cases fb with
  | false =>
    have HB := Lib.hid hb
    clear hb hfb
    go_wp2_with fail
    go_ret
    exact ⟨rfl, HB.out⟩
  | true =>
    obtain ⟨n150, fits⟩ := hfb rfl
    have HF := Lib.hid fits
    have HB := Lib.hid hb
    have TN := Lib.hid (two_new w1 (HG.out.keep hb))
    clear hb hfb fits
    go_wp2_with fail
    refine (new_c w1).mono ?_
    rintro er w2 ⟨rfl, rfl⟩
    go_wp2_with fail
    generalize (w1.alloc (.cells #[.slice none 0 0] 60)).alloc (.cells #[.slice none 0 0] 29) = w2 at *
    go_loopw [5] (fun iv wr => ∃ i : Nat, iv = .int .i64 (i : Int) ∧ i ≤ n ∧ Hid (∃ es, SadP.Good i es ∧ Two CadF SadF w1 (fun _ => 0) w1.heap.size (w1.heap.size + 1) wr es es)) (fun iv _ => n - (intOf iv).toNat)
    case atStart => exact ⟨0, rfl, by omega, Lib.hid ⟨[], SadP.Good.nil 0, TN.out⟩⟩
    case round =>
      obtain ⟨i, rfl, hi, HT⟩ := hrel
      by_cases hlt : i < n
      · obtain ⟨es, G, T⟩ := HT.out
        obtain ⟨b, o, rfl, hbl, hall⟩ := H.out.2 (by omega)
        have hr : rs[i]? = some (rs[i]'(by rw [H.out.1]; exact hlt)) := List.getElem?_eq_getElem _
        generalize rs[i]'(by rw [H.out.1]; exact hlt) = r at hr
        obtain ⟨ok, cl⟩ := hall i r hr
        have BB := HB.out.trans ((two_bel T).mono HB.out.size)
        have RP : (loadVar 36 ⟨b, o + i * 20, none⟩).run Tryd.prog wr = .ok (.agg (opCs r)) wr := run_part wr b (o + i * 20) 36 r.cells _ Tryd.underlying36 rfl (by kernel_rfl) ((show At W b (o + i * 20) r.cells from cl).below BB hbl)
        have J := Blk.new wr 36 #[.int .i64 0, .int .i64 0, .int .i64 0, .int .i64 0, .int .i64 0, .int .i64 0, .bool false, .int .u64 0, .int .i64 0, .string ⟨#[]⟩, .string ⟨#[]⟩, .string ⟨#[]⟩, .bool false, .int .i64 0, .int .i64 0, .bool false, .int .i64 0, .int .i64 0, .int .i64 0, .int .i64 0]
        have NK := Lib.hid (setRow_blk J (opCs r))
        have T3 := T.below cadF_obj sadF_obj (setRow_bel ((Below.refl wr.heap.size wr).alloc (Nat.le_refl _) (.cells #[.int .i64 0, .int .i64 0, .int .i64 0, .int .i64 0, .int .i64 0, .int .i64 0, .bool false, .int .u64 0, .int .i64 0, .string ⟨#[]⟩, .string ⟨#[]⟩, .string ⟨#[]⟩, .bool false, .int .i64 0, .int .i64 0, .bool false, .int .i64 0, .int .i64 0, .int .i64 0, .int .i64 0] 36)) (Nat.le_refl _) (opCs r))
        have CS := Lib.hid (step_any _ _ _ _ i es r _ T3 G (by omega) (HF.out i r hr) ok.1.1 ok.2.1)
        have one := Lib.hid (one_op r)
        clear hall cl hr ok BB T T3 G HT
        go_wp2_with (first
          | (refine wpList_load_part rfl 36 (.tmp 23) rfl b (o + i * 20) (opCs r).toList rfl RP ?_)
          | (refine wpList_store_row rfl 36 (.tmp 6) (.tmp 24) rfl wr.heap.size (opCs r) rfl rfl 36 _ J (by kernel_rfl) rfl one.out ?_; clear RP J)
          | (refine Loads.wpList_load_w rfl 36 (.tmp 6) rfl wr.heap.size rfl 36 (opCs r) (0, 0) _ (NK.out) Tryd.underlying36 rfl (by kernel_rfl) ?_))
        refine CS.out.mono ?_
        rintro er w3 ⟨rfl, es', G, T⟩
        have LS := Lib.hid (lists T G.few)
        have GG := Lib.hid G
        clear CS NK one G T
        go_wp2_with fail
        refine LS.out.mono ?_
        rintro er w4 ⟨A1, c1, rfl, L1, T⟩
        have LX := Lib.hid (lists2 T GG.out.few)
        have L1H := Lib.hid L1
        clear LS L1 T
        go_wp2_with fail
        refine LX.out.mono ?_
        rintro er w5 ⟨A2, c2, rfl, L2, T, hb⟩
        have ok : ∀ q ∈ es'.map (·.life), q.ok w5 := fun q hq => by
          obtain ⟨e, he, rfl⟩ := List.mem_map.1 hq
          exact mayL_ok (GG.out.all e he).2.2.2.2.2 w5
        have SA := Lib.hid (Same17.same_lives A1 es'.length c1 _ A2 es'.length c2 _ w5 (Lives.rows ⟨L1H.out.1, L1H.out.2.below hb⟩ ok) (Lives.rows L2 ok) (by have := GG.out.few; omega) (by have := GG.out.few; omega))
        have TH := Lib.hid T
        clear LX L2 T hb ok L1H
        go_wp2_with fail
        refine SA.out.mono ?_
        rintro er w6 ⟨eq, rfl, he, hb⟩
        have q : eq = true := by first | exact he.2 trivial | exact he.2 rfl
        subst q
        have TN6 := Lib.hid (TH.out.below cadF_obj sadF_obj hb)
        clear SA he hb TH
        go_wp2_with fail
        go_roundw
        case rel => exact ⟨i + 1, by go_num, by omega, Lib.hid ⟨es', GG.out, TN6.out⟩⟩
        case measure => simp [intOf]; omega
      · have e : i = n := by omega
        subst e
        obtain ⟨es, _, T⟩ := HT.out
        have BB := Lib.hid (HB.out.trans ((two_bel T).mono HB.out.size))
        clear T HT
        go_wp2_with fail
        refine (Ob17.awake_any _ (HG.out.keep BB.out)).mono ?_
        rintro er w7 ⟨rfl, hb⟩
        have BN := Lib.hid (BB.out.trans (hb.mono BB.out.size))
        clear hb
        go_wp2_with fail
        go_ret
        exact ⟨rfl, BN.out⟩
end Go.Proofs.YtppnkkpjfjhfkaaDoor.Does17b

