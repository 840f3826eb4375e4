/- The code's Put, walked. -/
import Derived.Test.YtnpggkpcadefjaaDoorM07
set_option linter.unusedVariables false
set_option maxRecDepth 100000
namespace Go.Proofs.YtnpggkpcadefjaaDoor.Jc14
open Go.RowKit Go.Proofs.YtnpggkpcadefjaaDoor.Sums Go.Proofs.YtnpggkpcadefjaaDoor.Mem Go.Proofs.YtnpggkpcadefjaaDoor.Blk Go.Proofs.YtnpggkpcadefjaaDoor.Pkt Go.Proofs.YtnpggkpcadefjaaDoor.Check Go.Proofs.YtnpggkpcadefjaaDoor.JoiM Go.Proofs.YtnpggkpcadefjaaDoor.JoiC Go.Proofs.YtnpggkpcadefjaaDoor.RowN Go.Proofs.YtnpggkpcadefjaaDoor.RowA Go.Proofs.YtnpggkpcadefjaaDoor.SplP Go.Proofs.YtnpggkpcadefjaaDoor.Spl1 Go.Proofs.YtnpggkpcadefjaaDoor.Spl5 Go.Proofs.YtnpggkpcadefjaaDoor.JcP Go.Proofs.YtnpggkpcadefjaaDoor.MapK Go.Proofs.YtnpggkpcadefjaaDoor.MapL Go.Proofs.YtnpggkpcadefjaaDoor.JoiC2 Go.Proofs.YtnpggkpcadefjaaDoor.Jc1 Go.Proofs.YtnpggkpcadefjaaDoor.Jc2 Go.Proofs.YtnpggkpcadefjaaDoor.Jc3 Go.Proofs.YtnpggkpcadefjaaDoor.Cat Go.Proofs.YtnpggkpcadefjaaDoor.Jc6 Go.Proofs.YtnpggkpcadefjaaDoor.Jc7 Go.Proofs.YtnpggkpcadefjaaDoor.Jc11 Go.Proofs.YtnpggkpcadefjaaDoor.Jc12 Go.Proofs.YtnpggkpcadefjaaDoor.Jc13 Go.Proofs.YtnpggkpcadefjaaDoor.Errno Go.Proofs.YtnpggkpcadefjaaDoor.JoiP Go.Proofs.YtnpggkpcadefjaaDoor.Obj

theorem finish_c (F : Nat → Prop) (g : Nat) (cs : List CEnt) (m : Nm) (w : World) (h : CAt F w g cs) (hg : Handle w) (hH : F HB) (hF : ∀ k, F k → k < w.heap.size) (hex : ∃ i e, atC cs m = some i ∧ cs[i]? = some e ∧ e.2.2 ≠ []) :
    Calls Tryd.prog 28 #[.pointer (some ⟨g, 0, none⟩), nk m] w fun er w' => PutR w' (finC m cs).1 er ∧ CAt F w' g (finC m cs).2 ∧ Keep F w w' := by
  obtain ⟨gm, OA, oc, T, ms, hc, rfl⟩ := h
  obtain ⟨i, ec, ha, hi, -⟩ := hex
  have hx := ha
  rw [at_ce] at hx
  rw [List.getElem?_map] at hi
  obtain ⟨e, hie, rfl⟩ := Option.map_eq_some_iff.1 hi
  have hci : (ms.map ME.ce)[i]? = some e.ce := by rw [List.getElem?_map]; exact hi
  have hi := hie
  have hps : e.ce.2.2 = e.zs.map (·.1) := rfl
  unfold finC
  rw [ha]
  simp only [hci, hps]
  have EO := hc.ok e (List.mem_of_getElem? hi)
  cases hw : wholeC (e.zs.map (·.1)) with
  | false =>
    rw [if_neg (by decide)]
    exact (fin_no F g gm OA oc T ms m i e w hc hx hi hw).mono fun er w' ⟨h1, h2⟩ => ⟨by rw [h1]; exact put_zero _ _, ⟨gm, OA, oc, T, ms, hc.below h2, rfl⟩, Keep.of h2⟩
  | true =>
    rw [if_pos rfl]
    obtain ⟨q, dl, hq⟩ : ∃ q dl, packC (e.zs.map (·.1)) = (q, dl) := ⟨_, _, rfl⟩
    have dle : dl.length ≤ 200000 := by
      have := data_le hw fun x hx => EO.each x hx
      cases e1 : e.zs.map (·.1) with
      | nil =>
        rw [e1] at hq
        have : dl = [] := by injection hq with _ h2; exact h2.symm
        rw [this]
        simp
      | cons y t =>
        rw [e1] at hq this
        have e2 : dl = dataC (y :: t) := by injection hq with _ h2; exact h2.symm
        rw [e2]
        exact this
    rw [hq]
    dsimp only
    by_cases k : q.chk dl.length = 0
    · rw [if_neg (fun z => z k)]
      exact (fin_yes F g gm OA oc T ms m i e w hc hx hi hw hg hH q dl hq dle 0 k rfl hF).mono fun er w' ⟨h1, h2, h3⟩ => ⟨h1, ⟨gm, OA, oc, T, _, h2, JoiC2.erase_map _ _ _⟩, h3⟩
    · rw [if_pos k]
      exact (fin_long F g gm OA oc T ms m i e w hc hx hi hw hg hH q dl hq dle _ rfl k hF).mono fun er w' ⟨h1, h2, h3⟩ => ⟨h1, ⟨gm, OA, oc, T, _, h2, JoiC2.erase_map _ _ _⟩, h3⟩
theorem cat_widen {F : Nat → Prop} {w V : World} {g : Nat} {cs : List CEnt} (h : CAt F w g cs) (hb : Below w.heap.size w V) : CAt (fun k => F k ∨ (w.heap.size ≤ k ∧ k < V.heap.size)) V g cs :=
  (cat_obj g cs).keep ((cat_obj g cs).mono h fun k hk z => z.elim id fun z => absurd z.1 (by omega)) fun k hk _ => hb.block k hk
theorem holds_row {w : World} {g B n c : Nat} {A : Option Addr} {l : List Int} {X : Array Value} (hg : Blk w g PT #[.int .i64 0, .int .i64 0, .int .i64 0, .int .i64 0, .bool false, .bool false, .int .i64 0, .string ⟨#[]⟩, .string ⟨#[]⟩, .string ⟨#[]⟩, .slice none 0 0]) (h : Holds w B A n c l) : Holds (w.setRow g X) B A n c l :=
  ⟨h.1, h.2.1, h.2.2.1, h.2.2.2.1, fun hn => by
    obtain ⟨b, o, e, hb, hc⟩ := h.2.2.2.2 hn
    refine ⟨b, o, e, hb, fun j z hz => ?_⟩
    have hj := hc j z hz
    have ne : b ≠ g := fun q => by
      subst q
      rw [hg.cell] at hj
      have hm := Array.mem_of_getElem? hj
      simp at hm
    exact (World.cell?_of_block (w := w) (setRow_other w g b X ne)).trans hj⟩
theorem put_nil (now : Int) (p : Pkt) (D : Value) (w : World) : Calls Tryd.prog 14 #[.pointer none, .int .i64 now, val p D] w fun e w' => e = .returned (.tuple #[val Pkt.zero (.slice none 0 0), .bool false, .int .i64 3]) ∧ Below w.heap.size w w' := by
  have B0 := Lib.hid (((Below.refl w.heap.size w).alloc (Nat.le_refl _) (.cells #[.int .i64 p.tos, .int .i64 p.id, .int .i64 p.ttl, .int .i64 p.proto, .bool p.df, .bool p.mf, .int .i64 p.off, .string p.src, .string p.dst, .string p.opt, D] 32)).alloc (by simp) (.cells #[.int .i64 0, .int .i64 0, .int .i64 0, .int .i64 0, .bool false, .bool false, .int .i64 0, .string ⟨#[]⟩, .string ⟨#[]⟩, .string ⟨#[]⟩, .slice none 0 0] 32))
  have J1 : Hid (Blk ((w.alloc (.cells #[.int .i64 p.tos, .int .i64 p.id, .int .i64 p.ttl, .int .i64 p.proto, .bool p.df, .bool p.mf, .int .i64 p.off, .string p.src, .string p.dst, .string p.opt, D] 32)).alloc (.cells #[.int .i64 0, .int .i64 0, .int .i64 0, .int .i64 0, .bool false, .bool false, .int .i64 0, .string ⟨#[]⟩, .string ⟨#[]⟩, .string ⟨#[]⟩, .slice none 0 0] 32)) (w.heap.size + 1) 32 #[.int .i64 0, .int .i64 0, .int .i64 0, .int .i64 0, .bool false, .bool false, .int .i64 0, .string ⟨#[]⟩, .string ⟨#[]⟩, .string ⟨#[]⟩, .slice none 0 0]) := Lib.hid (by
    have := Blk.new (w.alloc (.cells #[.int .i64 p.tos, .int .i64 p.id, .int .i64 p.ttl, .int .i64 p.proto, .bool p.df, .bool p.mf, .int .i64 p.off, .string p.src, .string p.dst, .string p.opt, D] 32)) 32 #[.int .i64 0, .int .i64 0, .int .i64 0, .int .i64 0, .bool false, .bool false, .int .i64 0, .string ⟨#[]⟩, .string ⟨#[]⟩, .string ⟨#[]⟩, .slice none 0 0]
    simpa using this)
  have oneZ : Hid ((#[.int .i64 0, .int .i64 0, .int .i64 0, .int .i64 0, .bool false, .bool false, .int .i64 0, .string ⟨#[]⟩, .string ⟨#[]⟩, .string ⟨#[]⟩, .slice none 0 0] : Array Value).all (·.oneCell') = true) := Lib.hid (by simp [Value.oneCell'])
  unfold val Pkt.zero
  go_enter Tryd.func14, Tryd.ntmps14
  go_wp2_with (refine Store.at_store 32 (.tmp 6) (.tmp 13) ?_ ?_; exact rfl; refine wpList_store_row rfl 32 (.tmp 6) (.tmp 13) rfl (w.heap.size + 1) #[.int .i64 0, .int .i64 0, .int .i64 0, .int .i64 0, .bool false, .bool false, .int .i64 0, .string ⟨#[]⟩, .string ⟨#[]⟩, .string ⟨#[]⟩, .slice none 0 0] rfl rfl 32 _ (J1.out) (by kernel_rfl) rfl (oneZ.out) ?_)
  exact bodyPost_ret (results_triple rfl _ _ (w.heap.size + 1) 32 #[.int .i64 0, .int .i64 0, .int .i64 0, .int .i64 0, .bool false, .bool false, .int .i64 0, .string ⟨#[]⟩, .string ⟨#[]⟩, .string ⟨#[]⟩, .slice none 0 0] (0, 0) _ _ _ rfl rfl rfl (setRow_heap _ _ _ _ _ _ J1.out) Tryd.underlying32 rfl (by kernel_rfl)) rfl ⟨rfl, Com.setRow_bel B0.out (by omega) _⟩
set_option maxHeartbeats 4000000 in
theorem put_1 (g : Nat) (now : Int) (p : Pkt) (A : Option Addr) (n c : Nat) (w : World) (k : Int) (CK : ∀ V, Below w.heap.size w V → Calls Tryd.prog 24 #[val p (.slice A n c)] V fun e w' => e = .returned (.int .i64 k) ∧ Below V.heap.size V w') (hk : k ≠ 0) :
    Calls Tryd.prog 14 #[.pointer (some ⟨g, 0, none⟩), .int .i64 now, val p (.slice A n c)] w fun er w' => er = .returned (.tuple #[.agg #[.int .i64 0, .int .i64 0, .int .i64 0, .int .i64 0, .bool false, .bool false, .int .i64 0, .string ⟨#[]⟩, .string ⟨#[]⟩, .string ⟨#[]⟩, .slice none 0 0], .bool false, .int .i64 k]) ∧ Below w.heap.size w w' := by
  have CK := Lib.hid CK
  have CM := Lib.hid (fun W => compl_c p (.slice A n c) W)
  have g1 : (k != 0) = true := by simpa using hk
  clear hk
  have B0 := Lib.hid (((Below.refl w.heap.size w).alloc (Nat.le_refl _) (.cells #[.int .i64 p.tos, .int .i64 p.id, .int .i64 p.ttl, .int .i64 p.proto, .bool p.df, .bool p.mf, .int .i64 p.off, .string p.src, .string p.dst, .string p.opt, .slice A n c] 32)).alloc (by simp) (.cells #[.int .i64 0, .int .i64 0, .int .i64 0, .int .i64 0, .bool false, .bool false, .int .i64 0, .string ⟨#[]⟩, .string ⟨#[]⟩, .string ⟨#[]⟩, .slice none 0 0] 32))
  have K1 : Hid (Blk ((w.alloc (.cells #[.int .i64 p.tos, .int .i64 p.id, .int .i64 p.ttl, .int .i64 p.proto, .bool p.df, .bool p.mf, .int .i64 p.off, .string p.src, .string p.dst, .string p.opt, .slice A n c] 32)).alloc (.cells #[.int .i64 0, .int .i64 0, .int .i64 0, .int .i64 0, .bool false, .bool false, .int .i64 0, .string ⟨#[]⟩, .string ⟨#[]⟩, .string ⟨#[]⟩, .slice none 0 0] 32)) w.heap.size 32 #[.int .i64 p.tos, .int .i64 p.id, .int .i64 p.ttl, .int .i64 p.proto, .bool p.df, .bool p.mf, .int .i64 p.off, .string p.src, .string p.dst, .string p.opt, .slice A n c]) := Lib.hid (Blk.alloc (Blk.new w 32 #[.int .i64 p.tos, .int .i64 p.id, .int .i64 p.ttl, .int .i64 p.proto, .bool p.df, .bool p.mf, .int .i64 p.off, .string p.src, .string p.dst, .string p.opt, .slice A n c]) _)
  have J1 : Hid (Blk ((w.alloc (.cells #[.int .i64 p.tos, .int .i64 p.id, .int .i64 p.ttl, .int .i64 p.proto, .bool p.df, .bool p.mf, .int .i64 p.off, .string p.src, .string p.dst, .string p.opt, .slice A n c] 32)).alloc (.cells #[.int .i64 0, .int .i64 0, .int .i64 0, .int .i64 0, .bool false, .bool false, .int .i64 0, .string ⟨#[]⟩, .string ⟨#[]⟩, .string ⟨#[]⟩, .slice none 0 0] 32)) (w.heap.size + 1) 32 #[.int .i64 0, .int .i64 0, .int .i64 0, .int .i64 0, .bool false, .bool false, .int .i64 0, .string ⟨#[]⟩, .string ⟨#[]⟩, .string ⟨#[]⟩, .slice none 0 0]) := Lib.hid (by
    have := Blk.new (w.alloc (.cells #[.int .i64 p.tos, .int .i64 p.id, .int .i64 p.ttl, .int .i64 p.proto, .bool p.df, .bool p.mf, .int .i64 p.off, .string p.src, .string p.dst, .string p.opt, .slice A n c] 32)) 32 #[.int .i64 0, .int .i64 0, .int .i64 0, .int .i64 0, .bool false, .bool false, .int .i64 0, .string ⟨#[]⟩, .string ⟨#[]⟩, .string ⟨#[]⟩, .slice none 0 0]
    simpa using this)
  have oneZ : Hid ((#[.int .i64 0, .int .i64 0, .int .i64 0, .int .i64 0, .bool false, .bool false, .int .i64 0, .string ⟨#[]⟩, .string ⟨#[]⟩, .string ⟨#[]⟩, .slice none 0 0] : Array Value).all (·.oneCell') = true) := Lib.hid (by simp [Value.oneCell'])
  unfold val at CK CM
  unfold val
  go_enter Tryd.func14, Tryd.ntmps14
  go_wp2_with (refine Store.at_load 32 (.tmp 5) ?_ ?_; exact rfl; refine Loads.wpList_load_w rfl 32 (.tmp 5) rfl w.heap.size rfl 32 #[.int .i64 p.tos, .int .i64 p.id, .int .i64 p.ttl, .int .i64 p.proto, .bool p.df, .bool p.mf, .int .i64 p.off, .string p.src, .string p.dst, .string p.opt, .slice A n c] (0, 0) _ (K1.out) Tryd.underlying32 rfl (by kernel_rfl) ?_)
  refine (CK.out _ B0.out).mono ?_
  rintro e w2 ⟨rfl, hb⟩
  have B2 := Lib.hid (B0.out.trans (hb.mono B0.out.size))
  have K2 := Lib.hid (K1.out.below hb K1.out.lt)
  have J2 := Lib.hid (J1.out.below hb J1.out.lt)
  clear hb CK K1 J1 B0
  go_wp2_with (refine Store.at_store 32 (.tmp 6) (.tmp 18) ?_ ?_; exact rfl; refine wpList_store_row rfl 32 (.tmp 6) (.tmp 18) rfl (w.heap.size + 1) #[.int .i64 0, .int .i64 0, .int .i64 0, .int .i64 0, .bool false, .bool false, .int .i64 0, .string ⟨#[]⟩, .string ⟨#[]⟩, .string ⟨#[]⟩, .slice none 0 0] rfl rfl 32 _ (J2.out) (by kernel_rfl) rfl (oneZ.out) ?_)
  exact bodyPost_ret (results_triple rfl _ _ (w.heap.size + 1) 32 #[.int .i64 0, .int .i64 0, .int .i64 0, .int .i64 0, .bool false, .bool false, .int .i64 0, .string ⟨#[]⟩, .string ⟨#[]⟩, .string ⟨#[]⟩, .slice none 0 0] (0, 0) _ _ _ rfl rfl rfl (setRow_heap _ _ _ _ _ _ J2.out) Tryd.underlying32 rfl (by kernel_rfl)) rfl ⟨rfl, Com.setRow_bel B2.out (by omega) _⟩
set_option maxHeartbeats 4000000 in
theorem put_2 (g : Nat) (now : Int) (p : Pkt) (A : Option Addr) (n c : Nat) (w : World) (k : Int) (CK : ∀ V, Below w.heap.size w V → Calls Tryd.prog 24 #[val p (.slice A n c)] V fun e w' => e = .returned (.int .i64 0) ∧ Below V.heap.size V w') (l : List Int) (hp : Holds w w.heap.size A n c l) (hn : n ≤ 1048576) (hT : Texts p) (hc : p.off = 0 ∧ p.mf = false) :
    Calls Tryd.prog 14 #[.pointer (some ⟨g, 0, none⟩), .int .i64 now, val p (.slice A n c)] w fun er w' => PutR w' (some (p, l), 0) er ∧ Below w.heap.size w w' := by
  have CK := Lib.hid CK
  have CM := Lib.hid (fun W => compl_c p (.slice A n c) W)
  have HP := Lib.hid hp
  have HN := Lib.hid hn
  have HT := Lib.hid hT
  rw [decide_eq_true hc] at CM
  clear hp hn hT hc
  have B0 := Lib.hid (((Below.refl w.heap.size w).alloc (Nat.le_refl _) (.cells #[.int .i64 p.tos, .int .i64 p.id, .int .i64 p.ttl, .int .i64 p.proto, .bool p.df, .bool p.mf, .int .i64 p.off, .string p.src, .string p.dst, .string p.opt, .slice A n c] 32)).alloc (by simp) (.cells #[.int .i64 0, .int .i64 0, .int .i64 0, .int .i64 0, .bool false, .bool false, .int .i64 0, .string ⟨#[]⟩, .string ⟨#[]⟩, .string ⟨#[]⟩, .slice none 0 0] 32))
  have K1 : Hid (Blk ((w.alloc (.cells #[.int .i64 p.tos, .int .i64 p.id, .int .i64 p.ttl, .int .i64 p.proto, .bool p.df, .bool p.mf, .int .i64 p.off, .string p.src, .string p.dst, .string p.opt, .slice A n c] 32)).alloc (.cells #[.int .i64 0, .int .i64 0, .int .i64 0, .int .i64 0, .bool false, .bool false, .int .i64 0, .string ⟨#[]⟩, .string ⟨#[]⟩, .string ⟨#[]⟩, .slice none 0 0] 32)) w.heap.size 32 #[.int .i64 p.tos, .int .i64 p.id, .int .i64 p.ttl, .int .i64 p.proto, .bool p.df, .bool p.mf, .int .i64 p.off, .string p.src, .string p.dst, .string p.opt, .slice A n c]) := Lib.hid (Blk.alloc (Blk.new w 32 #[.int .i64 p.tos, .int .i64 p.id, .int .i64 p.ttl, .int .i64 p.proto, .bool p.df, .bool p.mf, .int .i64 p.off, .string p.src, .string p.dst, .string p.opt, .slice A n c]) _)
  have J1 : Hid (Blk ((w.alloc (.cells #[.int .i64 p.tos, .int .i64 p.id, .int .i64 p.ttl, .int .i64 p.proto, .bool p.df, .bool p.mf, .int .i64 p.off, .string p.src, .string p.dst, .string p.opt, .slice A n c] 32)).alloc (.cells #[.int .i64 0, .int .i64 0, .int .i64 0, .int .i64 0, .bool false, .bool false, .int .i64 0, .string ⟨#[]⟩, .string ⟨#[]⟩, .string ⟨#[]⟩, .slice none 0 0] 32)) (w.heap.size + 1) 32 #[.int .i64 0, .int .i64 0, .int .i64 0, .int .i64 0, .bool false, .bool false, .int .i64 0, .string ⟨#[]⟩, .string ⟨#[]⟩, .string ⟨#[]⟩, .slice none 0 0]) := Lib.hid (by
    have := Blk.new (w.alloc (.cells #[.int .i64 p.tos, .int .i64 p.id, .int .i64 p.ttl, .int .i64 p.proto, .bool p.df, .bool p.mf, .int .i64 p.off, .string p.src, .string p.dst, .string p.opt, .slice A n c] 32)) 32 #[.int .i64 0, .int .i64 0, .int .i64 0, .int .i64 0, .bool false, .bool false, .int .i64 0, .string ⟨#[]⟩, .string ⟨#[]⟩, .string ⟨#[]⟩, .slice none 0 0]
    simpa using this)
  have oneZ : Hid ((#[.int .i64 0, .int .i64 0, .int .i64 0, .int .i64 0, .bool false, .bool false, .int .i64 0, .string ⟨#[]⟩, .string ⟨#[]⟩, .string ⟨#[]⟩, .slice none 0 0] : Array Value).all (·.oneCell') = true) := Lib.hid (by simp [Value.oneCell'])
  unfold val at CK CM
  unfold val
  go_enter Tryd.func14, Tryd.ntmps14
  go_wp2_with (refine Store.at_load 32 (.tmp 5) ?_ ?_; exact rfl; refine Loads.wpList_load_w rfl 32 (.tmp 5) rfl w.heap.size rfl 32 #[.int .i64 p.tos, .int .i64 p.id, .int .i64 p.ttl, .int .i64 p.proto, .bool p.df, .bool p.mf, .int .i64 p.off, .string p.src, .string p.dst, .string p.opt, .slice A n c] (0, 0) _ (K1.out) Tryd.underlying32 rfl (by kernel_rfl) ?_)
  refine (CK.out _ B0.out).mono ?_
  rintro e w2 ⟨rfl, hb⟩
  have B2 := Lib.hid (B0.out.trans (hb.mono B0.out.size))
  have K2 := Lib.hid (K1.out.below hb K1.out.lt)
  have J2 := Lib.hid (J1.out.below hb J1.out.lt)
  clear hb CK K1 J1 B0
  go_wp2_with (refine Store.at_load 32 (.tmp 5) ?_ ?_; exact rfl; refine Loads.wpList_load_w rfl 32 (.tmp 5) rfl w.heap.size rfl 32 #[.int .i64 p.tos, .int .i64 p.id, .int .i64 p.ttl, .int .i64 p.proto, .bool p.df, .bool p.mf, .int .i64 p.off, .string p.src, .string p.dst, .string p.opt, .slice A n c] (0, 0) _ (K2.out) Tryd.underlying32 rfl (by kernel_rfl) ?_)
  refine (CM.out _).mono ?_
  rintro e w3 ⟨rfl, hb⟩
  have B3 := Lib.hid (B2.out.trans (hb.mono B2.out.size))
  have K3 := Lib.hid (K2.out.below hb K2.out.lt)
  have J3 := Lib.hid (J2.out.below hb J2.out.lt)
  clear hb CM K2 J2 B2
  have OC := Lib.hid (own_any p A n c w.heap.size l w3 (HP.out.below B3.out) B3.out.size HN.out HT.out)
  unfold val at OC
  go_wp2_with (refine Store.at_load 32 (.tmp 5) ?_ ?_; exact rfl; refine Loads.wpList_load_w rfl 32 (.tmp 5) rfl w.heap.size rfl 32 #[.int .i64 p.tos, .int .i64 p.id, .int .i64 p.ttl, .int .i64 p.proto, .bool p.df, .bool p.mf, .int .i64 p.off, .string p.src, .string p.dst, .string p.opt, .slice A n c] (0, 0) _ (K3.out) Tryd.underlying32 rfl (by kernel_rfl) ?_)
  refine OC.out.mono ?_
  rintro e w4 ⟨A', c', rfl, ho, hb⟩
  have B4 := Lib.hid (B3.out.trans (hb.mono B3.out.size))
  have J4 := Lib.hid (J3.out.below hb J3.out.lt)
  have O4 := Lib.hid ho
  have one4 : Hid ((#[.int .i64 p.tos, .int .i64 p.id, .int .i64 p.ttl, .int .i64 p.proto, .bool p.df, .bool p.mf, .int .i64 p.off, .string p.src, .string p.dst, .string p.opt, .slice A' n c'] : Array Value).all (·.oneCell') = true) := Lib.hid (by simp [Value.oneCell'])
  have HO := Lib.hid (show Holds (w4.setRow (w.heap.size + 1) #[.int .i64 p.tos, .int .i64 p.id, .int .i64 p.ttl, .int .i64 p.proto, .bool p.df, .bool p.mf, .int .i64 p.off, .string p.src, .string p.dst, .string p.opt, .slice A' n c']) (w4.setRow (w.heap.size + 1) #[.int .i64 p.tos, .int .i64 p.id, .int .i64 p.ttl, .int .i64 p.proto, .bool p.df, .bool p.mf, .int .i64 p.off, .string p.src, .string p.dst, .string p.opt, .slice A' n c']).heap.size A' n c' l from (owns_set O4.out J4.out).holds)
  have LN := HP.out.1
  have HL := Lib.hid LN
  clear hb ho OC K3 J3 B3 O4 LN
  go_wp2_with (refine Store.at_store 32 (.tmp 6) (.tmp 23) ?_ ?_; exact rfl; refine wpList_store_row rfl 32 (.tmp 6) (.tmp 23) rfl (w.heap.size + 1) #[.int .i64 p.tos, .int .i64 p.id, .int .i64 p.ttl, .int .i64 p.proto, .bool p.df, .bool p.mf, .int .i64 p.off, .string p.src, .string p.dst, .string p.opt, .slice A' n c'] rfl rfl 32 _ (J4.out) (by kernel_rfl) rfl (one4.out) ?_)
  exact bodyPost_ret (results_triple rfl _ _ (w.heap.size + 1) 32 #[.int .i64 p.tos, .int .i64 p.id, .int .i64 p.ttl, .int .i64 p.proto, .bool p.df, .bool p.mf, .int .i64 p.off, .string p.src, .string p.dst, .string p.opt, .slice A' n c'] (0, 0) _ _ _ rfl rfl rfl (setRow_heap _ _ _ _ _ _ J4.out) Tryd.underlying32 rfl (by kernel_rfl)) rfl ⟨⟨A', c', by rw [show (ansP (some (p, l), 0)).2.length = n from HL.out]; rfl, by rw [show (ansP (some (p, l), 0)).2.length = n from HL.out]; exact HO.out⟩, Com.setRow_bel B4.out (by omega) _⟩
set_option maxHeartbeats 4000000 in
theorem put_3 (g : Nat) (now : Int) (p : Pkt) (A : Option Addr) (n c : Nat) (w : World) (k : Int) (CK : ∀ V, Below w.heap.size w V → Calls Tryd.prog 24 #[val p (.slice A n c)] V fun e w' => e = .returned (.int .i64 0) ∧ Below V.heap.size V w') (hc : ¬ (p.off = 0 ∧ p.mf = false)) (kc : Int) (KR : World → World → Prop) (KC : ∀ V, Below w.heap.size w V → Calls Tryd.prog 27 #[.pointer (some ⟨g, 0, none⟩), .int .i64 now, val p (.slice A n c)] V fun er w' => er = .returned (.int .i64 kc) ∧ KR V w') (KK : ∀ V w', KR V w' → Keep (fun k => w.heap.size ≤ k ∧ k < V.heap.size) V w') (hk : kc ≠ 0) :
    Calls Tryd.prog 14 #[.pointer (some ⟨g, 0, none⟩), .int .i64 now, val p (.slice A n c)] w fun er w' => er = .returned (.tuple #[.agg #[.int .i64 0, .int .i64 0, .int .i64 0, .int .i64 0, .bool false, .bool false, .int .i64 0, .string ⟨#[]⟩, .string ⟨#[]⟩, .string ⟨#[]⟩, .slice none 0 0], .bool false, .int .i64 kc]) ∧ ∃ V w4, Below w.heap.size w V ∧ w.heap.size + 1 < V.heap.size ∧ KR V w4 ∧ w' = w4.setRow (w.heap.size + 1) #[.int .i64 0, .int .i64 0, .int .i64 0, .int .i64 0, .bool false, .bool false, .int .i64 0, .string ⟨#[]⟩, .string ⟨#[]⟩, .string ⟨#[]⟩, .slice none 0 0] := by
  have CK := Lib.hid CK
  have CM := Lib.hid (fun W => compl_c p (.slice A n c) W)
  rw [decide_eq_false hc] at CM
  have KC := Lib.hid KC
  have KK := Lib.hid KK
  unfold val at KC
  clear hc
  have g2 : (kc != 0) = true := by simpa using hk
  clear hk
  have B0 := Lib.hid (((Below.refl w.heap.size w).alloc (Nat.le_refl _) (.cells #[.int .i64 p.tos, .int .i64 p.id, .int .i64 p.ttl, .int .i64 p.proto, .bool p.df, .bool p.mf, .int .i64 p.off, .string p.src, .string p.dst, .string p.opt, .slice A n c] 32)).alloc (by simp) (.cells #[.int .i64 0, .int .i64 0, .int .i64 0, .int .i64 0, .bool false, .bool false, .int .i64 0, .string ⟨#[]⟩, .string ⟨#[]⟩, .string ⟨#[]⟩, .slice none 0 0] 32))
  have K1 : Hid (Blk ((w.alloc (.cells #[.int .i64 p.tos, .int .i64 p.id, .int .i64 p.ttl, .int .i64 p.proto, .bool p.df, .bool p.mf, .int .i64 p.off, .string p.src, .string p.dst, .string p.opt, .slice A n c] 32)).alloc (.cells #[.int .i64 0, .int .i64 0, .int .i64 0, .int .i64 0, .bool false, .bool false, .int .i64 0, .string ⟨#[]⟩, .string ⟨#[]⟩, .string ⟨#[]⟩, .slice none 0 0] 32)) w.heap.size 32 #[.int .i64 p.tos, .int .i64 p.id, .int .i64 p.ttl, .int .i64 p.proto, .bool p.df, .bool p.mf, .int .i64 p.off, .string p.src, .string p.dst, .string p.opt, .slice A n c]) := Lib.hid (Blk.alloc (Blk.new w 32 #[.int .i64 p.tos, .int .i64 p.id, .int .i64 p.ttl, .int .i64 p.proto, .bool p.df, .bool p.mf, .int .i64 p.off, .string p.src, .string p.dst, .string p.opt, .slice A n c]) _)
  have J1 : Hid (Blk ((w.alloc (.cells #[.int .i64 p.tos, .int .i64 p.id, .int .i64 p.ttl, .int .i64 p.proto, .bool p.df, .bool p.mf, .int .i64 p.off, .string p.src, .string p.dst, .string p.opt, .slice A n c] 32)).alloc (.cells #[.int .i64 0, .int .i64 0, .int .i64 0, .int .i64 0, .bool false, .bool false, .int .i64 0, .string ⟨#[]⟩, .string ⟨#[]⟩, .string ⟨#[]⟩, .slice none 0 0] 32)) (w.heap.size + 1) 32 #[.int .i64 0, .int .i64 0, .int .i64 0, .int .i64 0, .bool false, .bool false, .int .i64 0, .string ⟨#[]⟩, .string ⟨#[]⟩, .string ⟨#[]⟩, .slice none 0 0]) := Lib.hid (by
    have := Blk.new (w.alloc (.cells #[.int .i64 p.tos, .int .i64 p.id, .int .i64 p.ttl, .int .i64 p.proto, .bool p.df, .bool p.mf, .int .i64 p.off, .string p.src, .string p.dst, .string p.opt, .slice A n c] 32)) 32 #[.int .i64 0, .int .i64 0, .int .i64 0, .int .i64 0, .bool false, .bool false, .int .i64 0, .string ⟨#[]⟩, .string ⟨#[]⟩, .string ⟨#[]⟩, .slice none 0 0]
    simpa using this)
  have oneZ : Hid ((#[.int .i64 0, .int .i64 0, .int .i64 0, .int .i64 0, .bool false, .bool false, .int .i64 0, .string ⟨#[]⟩, .string ⟨#[]⟩, .string ⟨#[]⟩, .slice none 0 0] : Array Value).all (·.oneCell') = true) := Lib.hid (by simp [Value.oneCell'])
  unfold val at CK CM
  unfold val
  go_enter Tryd.func14, Tryd.ntmps14
  go_wp2_with (refine Store.at_load 32 (.tmp 5) ?_ ?_; exact rfl; refine Loads.wpList_load_w rfl 32 (.tmp 5) rfl w.heap.size rfl 32 #[.int .i64 p.tos, .int .i64 p.id, .int .i64 p.ttl, .int .i64 p.proto, .bool p.df, .bool p.mf, .int .i64 p.off, .string p.src, .string p.dst, .string p.opt, .slice A n c] (0, 0) _ (K1.out) Tryd.underlying32 rfl (by kernel_rfl) ?_)
  refine (CK.out _ B0.out).mono ?_
  rintro e w2 ⟨rfl, hb⟩
  have B2 := Lib.hid (B0.out.trans (hb.mono B0.out.size))
  have K2 := Lib.hid (K1.out.below hb K1.out.lt)
  have J2 := Lib.hid (J1.out.below hb J1.out.lt)
  clear hb CK K1 J1 B0
  go_wp2_with (refine Store.at_load 32 (.tmp 5) ?_ ?_; exact rfl; refine Loads.wpList_load_w rfl 32 (.tmp 5) rfl w.heap.size rfl 32 #[.int .i64 p.tos, .int .i64 p.id, .int .i64 p.ttl, .int .i64 p.proto, .bool p.df, .bool p.mf, .int .i64 p.off, .string p.src, .string p.dst, .string p.opt, .slice A n c] (0, 0) _ (K2.out) Tryd.underlying32 rfl (by kernel_rfl) ?_)
  refine (CM.out _).mono ?_
  rintro e w3 ⟨rfl, hb⟩
  have B3 := Lib.hid (B2.out.trans (hb.mono B2.out.size))
  have K3 := Lib.hid (K2.out.below hb K2.out.lt)
  have J3 := Lib.hid (J2.out.below hb J2.out.lt)
  clear hb CM K2 J2 B2
  go_wp2_with (refine Store.at_load 32 (.tmp 5) ?_ ?_; exact rfl; refine Loads.wpList_load_w rfl 32 (.tmp 5) rfl w.heap.size rfl 32 #[.int .i64 p.tos, .int .i64 p.id, .int .i64 p.ttl, .int .i64 p.proto, .bool p.df, .bool p.mf, .int .i64 p.off, .string p.src, .string p.dst, .string p.opt, .slice A n c] (0, 0) _ (K3.out) Tryd.underlying32 rfl (by kernel_rfl) ?_)
  refine (KC.out w3 B3.out).mono ?_
  rintro e w4 ⟨rfl, hr⟩
  have kk := KK.out w3 w4 hr
  have K4 := Lib.hid (show Blk w4 w.heap.size PT #[.int .i64 p.tos, .int .i64 p.id, .int .i64 p.ttl, .int .i64 p.proto, .bool p.df, .bool p.mf, .int .i64 p.off, .string p.src, .string p.dst, .string p.opt, .slice A n c] from (kk.block _ ⟨Nat.le_refl _, K3.out.lt⟩ K3.out.lt).trans K3.out)
  have J4 := Lib.hid (show Blk w4 (w.heap.size + 1) PT #[.int .i64 0, .int .i64 0, .int .i64 0, .int .i64 0, .bool false, .bool false, .int .i64 0, .string ⟨#[]⟩, .string ⟨#[]⟩, .string ⟨#[]⟩, .slice none 0 0] from (kk.block _ ⟨by omega, J3.out.lt⟩ J3.out.lt).trans J3.out)
  have HR := Lib.hid hr
  clear kk hr KC KK
  go_wp2_with (refine Store.at_store 32 (.tmp 6) (.tmp 30) ?_ ?_; exact rfl; refine wpList_store_row rfl 32 (.tmp 6) (.tmp 30) rfl (w.heap.size + 1) #[.int .i64 0, .int .i64 0, .int .i64 0, .int .i64 0, .bool false, .bool false, .int .i64 0, .string ⟨#[]⟩, .string ⟨#[]⟩, .string ⟨#[]⟩, .slice none 0 0] rfl rfl 32 _ (J4.out) (by kernel_rfl) rfl (oneZ.out) ?_)
  exact bodyPost_ret (results_triple rfl _ _ (w.heap.size + 1) 32 #[.int .i64 0, .int .i64 0, .int .i64 0, .int .i64 0, .bool false, .bool false, .int .i64 0, .string ⟨#[]⟩, .string ⟨#[]⟩, .string ⟨#[]⟩, .slice none 0 0] (0, 0) _ _ _ rfl rfl rfl (setRow_heap _ _ _ _ _ _ J4.out) Tryd.underlying32 rfl (by kernel_rfl)) rfl ⟨rfl, w3, w4, B3.out, J3.out.lt, HR.out, rfl⟩
set_option maxHeartbeats 4000000 in
theorem put_4 (g : Nat) (now : Int) (p : Pkt) (A : Option Addr) (n c : Nat) (w : World) (k : Int) (CK : ∀ V, Below w.heap.size w V → Calls Tryd.prog 24 #[val p (.slice A n c)] V fun e w' => e = .returned (.int .i64 0) ∧ Below V.heap.size V w') (hc : ¬ (p.off = 0 ∧ p.mf = false)) (kc : Int) (KR : World → World → Prop) (KC : ∀ V, Below w.heap.size w V → Calls Tryd.prog 27 #[.pointer (some ⟨g, 0, none⟩), .int .i64 now, val p (.slice A n c)] V fun er w' => er = .returned (.int .i64 kc) ∧ KR V w') (KK : ∀ V w', KR V w' → Keep (fun k => w.heap.size ≤ k ∧ k < V.heap.size) V w') (hk : kc = 0) (r : Option Frag × Int) (m : Nm) (hm : nmOf p = m) (FR : World → World → World → World → Prop) (FC : ∀ V w4 w5, Below w.heap.size w V → KR V w4 → Below w4.heap.size w4 w5 → Calls Tryd.prog 28 #[.pointer (some ⟨g, 0, none⟩), nk m] w5 fun er w6 => PutR w6 r er ∧ FR V w4 w5 w6) (FK : ∀ V w4 w5 w6, FR V w4 w5 w6 → Keep (fun k => w.heap.size ≤ k ∧ k < V.heap.size) w5 w6) :
    Calls Tryd.prog 14 #[.pointer (some ⟨g, 0, none⟩), .int .i64 now, val p (.slice A n c)] w fun er w' => PutR w' r er ∧ ∃ V w4 w5 w6 X, Below w.heap.size w V ∧ w.heap.size + 1 < V.heap.size ∧ KR V w4 ∧ Below w4.heap.size w4 w5 ∧ FR V w4 w5 w6 ∧ w' = w6.setRow (w.heap.size + 1) X := by
  have CK := Lib.hid CK
  have CM := Lib.hid (fun W => compl_c p (.slice A n c) W)
  rw [decide_eq_false hc] at CM
  have KC := Lib.hid KC
  have KK := Lib.hid KK
  unfold val at KC
  clear hc
  have g2 : ((0 : Int) != 0) = false := rfl
  subst hk
  have NC := Lib.hid (fun W => name_c p (.slice A n c) W)
  rw [hm] at NC
  have FC := Lib.hid FC
  have FK := Lib.hid FK
  unfold nk at NC FC
  unfold val at NC
  clear hm
  have B0 := Lib.hid (((Below.refl w.heap.size w).alloc (Nat.le_refl _) (.cells #[.int .i64 p.tos, .int .i64 p.id, .int .i64 p.ttl, .int .i64 p.proto, .bool p.df, .bool p.mf, .int .i64 p.off, .string p.src, .string p.dst, .string p.opt, .slice A n c] 32)).alloc (by simp) (.cells #[.int .i64 0, .int .i64 0, .int .i64 0, .int .i64 0, .bool false, .bool false, .int .i64 0, .string ⟨#[]⟩, .string ⟨#[]⟩, .string ⟨#[]⟩, .slice none 0 0] 32))
  have K1 : Hid (Blk ((w.alloc (.cells #[.int .i64 p.tos, .int .i64 p.id, .int .i64 p.ttl, .int .i64 p.proto, .bool p.df, .bool p.mf, .int .i64 p.off, .string p.src, .string p.dst, .string p.opt, .slice A n c] 32)).alloc (.cells #[.int .i64 0, .int .i64 0, .int .i64 0, .int .i64 0, .bool false, .bool false, .int .i64 0, .string ⟨#[]⟩, .string ⟨#[]⟩, .string ⟨#[]⟩, .slice none 0 0] 32)) w.heap.size 32 #[.int .i64 p.tos, .int .i64 p.id, .int .i64 p.ttl, .int .i64 p.proto, .bool p.df, .bool p.mf, .int .i64 p.off, .string p.src, .string p.dst, .string p.opt, .slice A n c]) := Lib.hid (Blk.alloc (Blk.new w 32 #[.int .i64 p.tos, .int .i64 p.id, .int .i64 p.ttl, .int .i64 p.proto, .bool p.df, .bool p.mf, .int .i64 p.off, .string p.src, .string p.dst, .string p.opt, .slice A n c]) _)
  have J1 : Hid (Blk ((w.alloc (.cells #[.int .i64 p.tos, .int .i64 p.id, .int .i64 p.ttl, .int .i64 p.proto, .bool p.df, .bool p.mf, .int .i64 p.off, .string p.src, .string p.dst, .string p.opt, .slice A n c] 32)).alloc (.cells #[.int .i64 0, .int .i64 0, .int .i64 0, .int .i64 0, .bool false, .bool false, .int .i64 0, .string ⟨#[]⟩, .string ⟨#[]⟩, .string ⟨#[]⟩, .slice none 0 0] 32)) (w.heap.size + 1) 32 #[.int .i64 0, .int .i64 0, .int .i64 0, .int .i64 0, .bool false, .bool false, .int .i64 0, .string ⟨#[]⟩, .string ⟨#[]⟩, .string ⟨#[]⟩, .slice none 0 0]) := Lib.hid (by
    have := Blk.new (w.alloc (.cells #[.int .i64 p.tos, .int .i64 p.id, .int .i64 p.ttl, .int .i64 p.proto, .bool p.df, .bool p.mf, .int .i64 p.off, .string p.src, .string p.dst, .string p.opt, .slice A n c] 32)) 32 #[.int .i64 0, .int .i64 0, .int .i64 0, .int .i64 0, .bool false, .bool false, .int .i64 0, .string ⟨#[]⟩, .string ⟨#[]⟩, .string ⟨#[]⟩, .slice none 0 0]
    simpa using this)
  have oneZ : Hid ((#[.int .i64 0, .int .i64 0, .int .i64 0, .int .i64 0, .bool false, .bool false, .int .i64 0, .string ⟨#[]⟩, .string ⟨#[]⟩, .string ⟨#[]⟩, .slice none 0 0] : Array Value).all (·.oneCell') = true) := Lib.hid (by simp [Value.oneCell'])
  unfold val at CK CM
  unfold val
  go_enter Tryd.func14, Tryd.ntmps14
  go_wp2_with (refine Store.at_load 32 (.tmp 5) ?_ ?_; exact rfl; refine Loads.wpList_load_w rfl 32 (.tmp 5) rfl w.heap.size rfl 32 #[.int .i64 p.tos, .int .i64 p.id, .int .i64 p.ttl, .int .i64 p.proto, .bool p.df, .bool p.mf, .int .i64 p.off, .string p.src, .string p.dst, .string p.opt, .slice A n c] (0, 0) _ (K1.out) Tryd.underlying32 rfl (by kernel_rfl) ?_)
  refine (CK.out _ B0.out).mono ?_
  rintro e w2 ⟨rfl, hb⟩
  have B2 := Lib.hid (B0.out.trans (hb.mono B0.out.size))
  have K2 := Lib.hid (K1.out.below hb K1.out.lt)
  have J2 := Lib.hid (J1.out.below hb J1.out.lt)
  clear hb CK K1 J1 B0
  go_wp2_with (refine Store.at_load 32 (.tmp 5) ?_ ?_; exact rfl; refine Loads.wpList_load_w rfl 32 (.tmp 5) rfl w.heap.size rfl 32 #[.int .i64 p.tos, .int .i64 p.id, .int .i64 p.ttl, .int .i64 p.proto, .bool p.df, .bool p.mf, .int .i64 p.off, .string p.src, .string p.dst, .string p.opt, .slice A n c] (0, 0) _ (K2.out) Tryd.underlying32 rfl (by kernel_rfl) ?_)
  refine (CM.out _).mono ?_
  rintro e w3 ⟨rfl, hb⟩
  have B3 := Lib.hid (B2.out.trans (hb.mono B2.out.size))
  have K3 := Lib.hid (K2.out.below hb K2.out.lt)
  have J3 := Lib.hid (J2.out.below hb J2.out.lt)
  clear hb CM K2 J2 B2
  go_wp2_with (refine Store.at_load 32 (.tmp 5) ?_ ?_; exact rfl; refine Loads.wpList_load_w rfl 32 (.tmp 5) rfl w.heap.size rfl 32 #[.int .i64 p.tos, .int .i64 p.id, .int .i64 p.ttl, .int .i64 p.proto, .bool p.df, .bool p.mf, .int .i64 p.off, .string p.src, .string p.dst, .string p.opt, .slice A n c] (0, 0) _ (K3.out) Tryd.underlying32 rfl (by kernel_rfl) ?_)
  refine (KC.out w3 B3.out).mono ?_
  rintro e w4 ⟨rfl, hr⟩
  have kk := KK.out w3 w4 hr
  have K4 := Lib.hid (show Blk w4 w.heap.size PT #[.int .i64 p.tos, .int .i64 p.id, .int .i64 p.ttl, .int .i64 p.proto, .bool p.df, .bool p.mf, .int .i64 p.off, .string p.src, .string p.dst, .string p.opt, .slice A n c] from (kk.block _ ⟨Nat.le_refl _, K3.out.lt⟩ K3.out.lt).trans K3.out)
  have J4 := Lib.hid (show Blk w4 (w.heap.size + 1) PT #[.int .i64 0, .int .i64 0, .int .i64 0, .int .i64 0, .bool false, .bool false, .int .i64 0, .string ⟨#[]⟩, .string ⟨#[]⟩, .string ⟨#[]⟩, .slice none 0 0] from (kk.block _ ⟨by omega, J3.out.lt⟩ J3.out.lt).trans J3.out)
  have HR := Lib.hid hr
  clear kk hr KC KK
  go_wp2_with (refine Store.at_load 32 (.tmp 5) ?_ ?_; exact rfl; refine Loads.wpList_load_w rfl 32 (.tmp 5) rfl w.heap.size rfl 32 #[.int .i64 p.tos, .int .i64 p.id, .int .i64 p.ttl, .int .i64 p.proto, .bool p.df, .bool p.mf, .int .i64 p.off, .string p.src, .string p.dst, .string p.opt, .slice A n c] (0, 0) _ (K4.out) Tryd.underlying32 rfl (by kernel_rfl) ?_)
  refine (NC.out _).mono ?_
  rintro e w5 ⟨rfl, hb⟩
  have B5 := Lib.hid hb
  have J5 := Lib.hid (J4.out.below hb J4.out.lt)
  clear hb NC K4 J4
  go_wp2_with fail
  refine (FC.out w3 w4 w5 B3.out HR.out B5.out).mono ?_
  rintro e w6 ⟨⟨A', c', rfl, hh⟩, hf⟩
  have kk := FK.out w3 w4 w5 w6 hf
  have J6 := Lib.hid (show Blk w6 (w.heap.size + 1) PT #[.int .i64 0, .int .i64 0, .int .i64 0, .int .i64 0, .bool false, .bool false, .int .i64 0, .string ⟨#[]⟩, .string ⟨#[]⟩, .string ⟨#[]⟩, .slice none 0 0] from (kk.block _ ⟨by omega, J3.out.lt⟩ J5.out.lt).trans J5.out)
  have HO := Lib.hid hh
  have HFR := Lib.hid hf
  clear kk hh hf FC FK J5
  obtain ⟨y, hy⟩ : ∃ y, (ansP r).1 = y := ⟨_, rfl⟩
  obtain ⟨dl, hdl⟩ : ∃ dl, (ansP r).2 = dl := ⟨_, rfl⟩
  obtain ⟨bb, hbb⟩ : ∃ bb, ansB r = bb := ⟨_, rfl⟩
  obtain ⟨rk, hrk⟩ : ∃ rk, r.2 = rk := ⟨_, rfl⟩
  have YE := Lib.hid hy
  have DE := Lib.hid hdl
  have BE := Lib.hid hbb
  have KE := Lib.hid hrk
  rw [hy, hdl, hbb, hrk]
  rw [hdl] at HO
  have H6 := Lib.hid (holds_row (X := #[.int .i64 y.tos, .int .i64 y.id, .int .i64 y.ttl, .int .i64 y.proto, .bool y.df, .bool y.mf, .int .i64 y.off, .string y.src, .string y.dst, .string y.opt, .slice A' dl.length c']) J6.out HO.out)
  have one6 : Hid ((#[.int .i64 y.tos, .int .i64 y.id, .int .i64 y.ttl, .int .i64 y.proto, .bool y.df, .bool y.mf, .int .i64 y.off, .string y.src, .string y.dst, .string y.opt, .slice A' dl.length c'] : Array Value).all (·.oneCell') = true) := Lib.hid (by simp [Value.oneCell'])
  clear hy hdl hbb hrk HO
  unfold val
  go_wp2_with (refine Store.at_store 32 (.tmp 6) (.tmp 36) ?_ ?_; exact rfl; refine wpList_store_row rfl 32 (.tmp 6) (.tmp 36) rfl (w.heap.size + 1) #[.int .i64 y.tos, .int .i64 y.id, .int .i64 y.ttl, .int .i64 y.proto, .bool y.df, .bool y.mf, .int .i64 y.off, .string y.src, .string y.dst, .string y.opt, .slice A' dl.length c'] rfl rfl 32 _ (J6.out) (by kernel_rfl) rfl (one6.out) ?_)
  exact bodyPost_ret (results_triple rfl _ _ (w.heap.size + 1) 32 #[.int .i64 y.tos, .int .i64 y.id, .int .i64 y.ttl, .int .i64 y.proto, .bool y.df, .bool y.mf, .int .i64 y.off, .string y.src, .string y.dst, .string y.opt, .slice A' dl.length c'] (0, 0) _ _ _ rfl rfl rfl (setRow_heap _ _ _ _ _ _ J6.out) Tryd.underlying32 rfl (by kernel_rfl)) rfl ⟨⟨A', c', by rw [YE.out, DE.out, BE.out, KE.out]; rfl, by rw [DE.out]; exact H6.out.more (by simp [World.setRow])⟩, w3, w4, w5, w6, _, B3.out, J3.out.lt, HR.out, B5.out, HFR.out, rfl⟩
end Go.Proofs.YtnpggkpcadefjaaDoor.Jc14

/- The code's Tick. -/
set_option linter.unusedVariables false
set_option maxRecDepth 100000
namespace Go.Proofs.YtnpggkpcadefjaaDoor.Jc15
open Go.RowKit Go.Proofs.YtnpggkpcadefjaaDoor.Sums Go.Proofs.YtnpggkpcadefjaaDoor.Mem Go.Proofs.YtnpggkpcadefjaaDoor.Blk Go.Proofs.YtnpggkpcadefjaaDoor.Pkt Go.Proofs.YtnpggkpcadefjaaDoor.Check Go.Proofs.YtnpggkpcadefjaaDoor.JoiM Go.Proofs.YtnpggkpcadefjaaDoor.JoiC Go.Proofs.YtnpggkpcadefjaaDoor.RowN Go.Proofs.YtnpggkpcadefjaaDoor.RowA Go.Proofs.YtnpggkpcadefjaaDoor.SplP Go.Proofs.YtnpggkpcadefjaaDoor.Spl1 Go.Proofs.YtnpggkpcadefjaaDoor.Spl5 Go.Proofs.YtnpggkpcadefjaaDoor.MapK Go.Proofs.YtnpggkpcadefjaaDoor.MapL Go.Proofs.YtnpggkpcadefjaaDoor.Free Go.Proofs.YtnpggkpcadefjaaDoor.Steps Go.Proofs.YtnpggkpcadefjaaDoor.JoiC2 Go.Proofs.YtnpggkpcadefjaaDoor.Jc3 Go.Proofs.YtnpggkpcadefjaaDoor.Cat Go.Proofs.YtnpggkpcadefjaaDoor.Jc4 Go.Proofs.YtnpggkpcadefjaaDoor.Jc6 Go.Proofs.YtnpggkpcadefjaaDoor.Jc7 Go.Proofs.YtnpggkpcadefjaaDoor.Jc8 Go.Proofs.YtnpggkpcadefjaaDoor.Jc9 Go.Proofs.YtnpggkpcadefjaaDoor.Jc11 Go.Proofs.YtnpggkpcadefjaaDoor.Jc12 Go.Proofs.YtnpggkpcadefjaaDoor.Jc13

set_option maxHeartbeats 2000000 in
theorem clone_c (A : Option Addr) (n c : Nat) (cs : List Value) (w : World) (h : RowAt NT 4 w A n c cs) (hn : n ≤ 1000) : Calls Tryd.prog 21 #[.slice A n c] w fun e w' => (∃ A' c', e = .returned (.slice A' n c') ∧ RowAt NT 4 w' A' n c' cs ∧ ∀ k, own A' k → w.heap.size ≤ k) ∧ Below w.heap.size w w' := by
  have qT : ∀ (w : World) (a : Option Addr) (n c n' c' : Nat), (binOp .eql 55 (.slice a n c) (.slice none n' c')).run Tryd.prog w = .ok (.bool a.isNone) w := fun w a n c n' c' => Lib.run_eql_slice_nil w _ _ a n c n' c' Tryd.underlying55
  rcases h.lies with ⟨rfl, hc⟩ | ⟨b, X, rfl, hX, hXc, hXt⟩
  · have n0 : n = 0 := by have := h.le; omega
    subst n0
    have cs0 : cs = [] := List.length_eq_zero_iff.1 (by simpa using h.len)
    subst cs0
    clear h
    go_enter Tryd.func21, Tryd.ntmps21
    go_wp2_with fail
    go_ret
    exact ⟨⟨none, 0, rfl, RowAt.nil _ _ _, fun k o => (by obtain ⟨a, e, _⟩ := o; cases e)⟩, Below.refl _ _⟩
  · obtain ⟨i, hi, hz, hsz, hby⟩ := DelN.info_name
    have E0 : Blk (w.alloc (.cells #[] 60)) w.heap.size NT #[] := Blk.new w _ _
    have B0 : Below w.heap.size w (w.alloc (.cells #[] 60)) := (Below.refl _ _).alloc (Nat.le_refl _) _
    have hb := h.below B0
    obtain ⟨A', c', w', hr, h1, h2, h3⟩ : ∃ A' c' w', (Builtin.append_ #[55, 55] 55 #[.slice (some ⟨w.heap.size, 0, none⟩) 0 0, .slice (some ⟨b, 0, none⟩) n c]).run Tryd.prog (w.alloc (.cells #[] 60)) = .ok (.slice A' n c') w' ∧ RowAt NT 4 w' A' n c' cs ∧ (∀ k, own A' k → w.heap.size ≤ k) ∧ Below w.heap.size w w' := by
      by_cases n0 : n = 0
      · subst n0
        have cs0 : cs = [] := List.length_eq_zero_iff.1 (by simpa using h.len)
        subst cs0
        refine ⟨some ⟨w.heap.size, 0, none⟩, 0, _, run_append_spl Tryd.underlying55 hi E0 0 0 ⟨b, 0, none⟩ 0 c [] (by simp) (fun j v hv => by simp at hv) (fun v hv => by cases hv) (by omega) (by simp) _, ⟨by simp, by omega, by omega, fun v hv => (by cases hv), .inr ⟨w.heap.size, _, rfl, setRow_heap _ _ _ _ _ _ E0, by omega, by simp⟩⟩, fun k o => ?_, Com.setRow_bel B0 (Nat.le_refl _) _⟩
        obtain ⟨a, e, rfl⟩ := o
        cases e
        exact Nat.le_refl _
      · have hsrc : Src Tryd.prog i.size 55 (.slice (some ⟨b, 0, none⟩) n c) n cs (w.alloc (.cells #[] 60)) := Src.ofSlice _ Tryd.underlying55 ⟨b, 0, none⟩ n c cs (by rw [hsz]; exact h.len) (fun j u hj => by
          rw [Addr.add_lit, Nat.zero_add]
          exact hb.cell rfl hj) h.one
        have hold : (Builtin.firstCells i.size 0 (.slice (some ⟨w.heap.size, 0, none⟩) 0 0)).run Tryd.prog (w.alloc (.cells #[] 60)).drew = .ok ([] : List Value).toArray (w.alloc (.cells #[] 60)).drew := by
          rw [hsz]
          exact run_firstCells_some _ 4 0 ⟨w.heap.size, 0, none⟩ 0 0 [] (by simp) (fun j v hj => by simp at hj)
        have g1 := grownCap_ge (w.alloc (.cells #[] 60)) (0 + n) 0 60
        have g2 : grownCap (w.alloc (.cells #[] 60)) (0 + n) 0 60 ≤ 9223372036854775807 := by
          have := grownCap_le_maxLen (w.alloc (.cells #[] 60)) (0 + n) 0 60 (by unfold maxLen; omega)
          unfold maxLen at this
          omega
        have hr := run_append_grow_src (w.alloc (.cells #[] 60)) 55 55 55 60 i DelN.zn Tryd.underlying55 hi hz (some ⟨w.heap.size, 0, none⟩) 0 0 [] hold _ n cs hsrc (by omega) (by omega) (by rw [hby]; exact growslice_fits (by omega) (by omega))
        have fl := h.len
        rw [Nat.zero_add] at hr g1 g2
        rw [show (w.alloc (.cells #[] 60)).heap.size = w.heap.size + 1 by simp] at hr
        have N0 : Blk ((w.alloc (.cells #[] 60)).drew.alloc (.cells (([] ++ cs).toArray ++ Builtin.zeroCells DelN.zn.cells (grownCap (w.alloc (.cells #[] 60)) n 0 60 - n)) 60)) (w.heap.size + 1) NT (([] ++ cs).toArray ++ Builtin.zeroCells DelN.zn.cells (grownCap (w.alloc (.cells #[] 60)) n 0 60 - n)) := by
          have := Blk.new (w.alloc (.cells #[] 60)).drew 60 (([] ++ cs).toArray ++ Builtin.zeroCells DelN.zn.cells (grownCap (w.alloc (.cells #[] 60)) n 0 60 - n))
          simpa using this
        refine ⟨_, _, _, hr, ⟨fl, g1, g2, h.one, .inr ⟨_, _, rfl, N0, ?_, ?_⟩⟩, fun k o => ?_, (below_drewN B0 1).alloc (by simp) _⟩
        · rw [Array.size_append, List.size_toArray, List.nil_append, fl, size_zeroCells, DelN.zn_cells, ← Nat.add_mul]
          exact Nat.mul_le_mul_right 4 (by omega)
        · rw [Array.toList_append, List.nil_append]
          exact List.take_left' fl
        · obtain ⟨a, e, rfl⟩ := o
          cases e
          show w.heap.size ≤ w.heap.size + 1
          omega
    have R := Lib.hid hr
    have H1 := Lib.hid h1
    have H2 := Lib.hid h2
    have H3 := Lib.hid h3
    clear h hX hXc hXt hi hz hsz hby E0 B0 hb hr h1 h2 h3
    go_enter Tryd.func21, Tryd.ntmps21
    go_wp2_with (at_builtin; refine Lib.wpList_append_run (w.alloc (.cells #[] 60)) rfl (.tmp 5) (.tmp 6) 55 55 rfl (.slice (some ⟨w.heap.size, 0, none⟩) 0 0) (.slice (some ⟨b, 0, none⟩) n c) rfl rfl (.slice A' n c') w' R.out ?_)
    go_ret
    exact ⟨⟨A', c', rfl, H1.out, H2.out⟩, H3.out⟩
/-! Which wait still, while Tick goes over the names. -/
def oldC (now : Int) (b : Int) : Bool := decide (b ≤ now - 60)
def msI (now : Int) (ms : List ME) (i : Nat) : List ME := (ms.take i).filter (fun e => !oldC now e.since) ++ ms.drop i
def jI (now : Int) (ms : List ME) (i : Nat) : Nat := ((ms.take i).filter fun e => !oldC now e.since).length
theorem take_snoc {α : Type} (l : List α) (i : Nat) (x : α) (h : l[i]? = some x) : l.take (i + 1) = l.take i ++ [x] := by
  rw [List.take_add_one, h]
  rfl
theorem msI_keep {now : Int} {ms : List ME} {i : Nat} {e : ME} (h : ms[i]? = some e) (ho : oldC now e.since = false) : msI now ms (i + 1) = msI now ms i := by
  unfold msI
  rw [take_snoc _ _ _ h, List.filter_append, Jc7.drop_cons ms i e h, List.append_assoc]
  simp [ho]
theorem msI_at {now : Int} {ms : List ME} {i : Nat} {e : ME} (h : ms[i]? = some e) : (msI now ms i)[jI now ms i]? = some e := by
  unfold msI jI
  rw [List.getElem?_append_right (Nat.le_refl _), Nat.sub_self, List.getElem?_drop, Nat.add_zero]
  exact h
theorem msI_drop {now : Int} {ms : List ME} {i : Nat} {e : ME} (h : ms[i]? = some e) (ho : oldC now e.since = true) : msI now ms (i + 1) = (msI now ms i).eraseIdx (jI now ms i) := by
  unfold msI jI
  rw [take_snoc _ _ _ h, List.filter_append, Jc7.drop_cons ms i e h, List.eraseIdx_append_of_length_le (Nat.le_refl _), Nat.sub_self]
  simp [ho]
theorem msI_find {now : Int} {ms : List ME} (nn : (ms.map (·.nm)).Nodup) {i : Nat} {e : ME} (h : ms[i]? = some e) : (msI now ms i).findIdx? (fun x => decide (x.nm = e.nm)) = some (jI now ms i) := by
  have ha := msI_at (now := now) h
  obtain ⟨lt, ea⟩ := List.getElem?_eq_some_iff.1 ha
  refine List.findIdx?_eq_some_iff_getElem.2 ⟨lt, by rw [ea]; simp, fun j hj => ?_⟩
  have hjl : j < ((ms.take i).filter fun e => !oldC now e.since).length := hj
  have ej : (msI now ms i)[j]'(by omega) = ((ms.take i).filter fun e => !oldC now e.since)[j] := List.getElem_append_left hjl
  rw [ej]
  have hm := (List.mem_filter.1 (List.getElem_mem hjl)).1
  obtain ⟨k, hk⟩ := List.mem_iff_getElem?.1 hm
  rw [List.getElem?_take] at hk
  split at hk
  · rename_i ki
    simp only [decide_eq_true_eq]
    intro z
    obtain ⟨lk, ek⟩ := List.getElem?_eq_some_iff.1 hk
    obtain ⟨li, ei⟩ := List.getElem?_eq_some_iff.1 h
    have P := List.pairwise_iff_getElem.1 nn k i (by simpa using lk) (by simpa using li) ki
    rw [List.getElem_map, List.getElem_map, ek, ei] at P
    exact P z
  · cases hk
def hdC (l : List Frag) : List Frag := match l with
  | y :: _ => if y.1.off = 0 then [y] else []
  | [] => []
def firstI (now : Int) (ms : List ME) (i : Nat) : List Frag := (ms.take i).flatMap fun e => if oldC now e.since = true then hdC (e.zs.map (·.1)) else []
theorem firstI_succ {now : Int} {ms : List ME} {i : Nat} {e : ME} (h : ms[i]? = some e) : firstI now ms (i + 1) = firstI now ms i ++ (if oldC now e.since = true then hdC (e.zs.map (·.1)) else []) := by
  unfold firstI
  rw [take_snoc _ _ _ h, List.flatMap_append, List.flatMap_singleton]
theorem firstI_len {now : Int} {ms : List ME} : ∀ i, (firstI now ms i).length ≤ i := by
  intro i
  induction i with
  | zero => simp [firstI]
  | succ i ih =>
    cases h : ms[i]? with
    | none =>
      have : ms.take (i + 1) = ms.take i := by
        have hl := List.getElem?_eq_none_iff.1 h
        rw [List.take_of_length_le (by omega), List.take_of_length_le hl]
      have e : firstI now ms (i + 1) = firstI now ms i := by unfold firstI; rw [this]
      rw [e]
      omega
    | some e =>
      rw [firstI_succ h, List.length_append]
      have : (if oldC now e.since = true then hdC (e.zs.map (·.1)) else []).length ≤ 1 := by
        split
        · unfold hdC
          split
          · split <;> simp
          · simp
        · simp
      omega
theorem keep_two {P : Nat → Prop} {w w7 w8 : World} (h : Keep P w w7) (h1 : w8.os = w7.os) (h2 : w8.tape = w7.tape) (h3 : w8.output = w7.output) (h4 : w7.heap.size ≤ w8.heap.size) (hb : ∀ k, P k → k < w.heap.size → w8.heap[k]? = w7.heap[k]?) : Keep P w w8 :=
  ⟨h1.trans h.os, h2.trans h.tape, h3.trans h.output, Nat.le_trans h.size h4, fun k p lt => (hb k p lt).trans (h.block k p lt)⟩
/-- The first pieces that Tick has gathered. -/
structure FAt (base : Nat) (w : World) (A : Option Addr) (c : Nat) (zs : List Pc) : Prop where
  row : RowAt PT 11 w A zs.length c (flat zs)
  own : ∀ k, RowN.own A k → base ≤ k
  dat : ∀ z ∈ zs, Owns w 0 z.2 z.1.2.length z.1.2
theorem FAt.stay {base : Nat} {w w' : World} {A : Option Addr} {c : Nat} {zs : List Pc} (h : FAt base w A c zs) (hk : ∀ (k : Nat) (X : Array Value) (t : TypeId) (fz : Nat × Nat), w.heap[k]? = some (.cells X t fz) → (t = PT ∨ t = BT) → w'.heap[k]? = w.heap[k]?) : FAt base w' A c zs := by
  refine ⟨h.row.keep fun k o _ => ?_, h.own, fun z hz => owns_stay (h.dat z hz) fun k X fz _ hX => hk k X BT fz hX (.inr rfl)⟩
  obtain ⟨X, hX⟩ := h.row.type o
  exact hk k X PT _ hX (.inl rfl)
theorem FAt.below {base : Nat} {w w' : World} {A : Option Addr} {c : Nat} {zs : List Pc} (h : FAt base w A c zs) (hb : Below w.heap.size w w') : FAt base w' A c zs := h.stay fun k X t fz hX _ => hb.block k (Array.getElem?_eq_some_iff.1 hX).1
set_option maxHeartbeats 8000000 in
theorem tick_c (F : Nat → Prop) (g gm : Nat) (OA : Option Addr) (oc : Nat) (T : Nat → Nat) (ms : List ME) (now : Int) (w : World) (h : CatM F w g gm OA oc T ms) (nn : (ms.map (·.nm)).Nodup) (hnow : -1099511627776 ≤ now ∧ now ≤ 1099511627776) :
    Calls Tryd.prog 11 #[.pointer (some ⟨g, 0, none⟩), .int .i64 now] w fun er w' => (∃ FA fc zs, er = .returned (.slice FA zs.length fc) ∧ FAt w.heap.size w' FA fc zs ∧ zs.map (·.1) = firstI now ms ms.length) ∧ CatM F w' g gm OA oc T (msI now ms ms.length) ∧ Keep (fun k => k ≠ g ∧ k ≠ gm ∧ ¬ own OA k) w w' := by
  obtain ⟨n, hn⟩ : ∃ n, ms.length = n := ⟨_, rfl⟩
  have MN := Lib.hid hn
  have NN := Lib.hid nn
  have NOW := Lib.hid hnow
  have HC := Lib.hid h
  have N16 : Hid (n ≤ 16) := Lib.hid (by have := h.few; omega)
  have c1 := h.blk.cell 1
  have CL := Lib.hid (clone_c OA n oc (nmFlat (ms.map (·.nm))) w (by rw [← hn]; exact h.ord) (by have := h.few; omega))
  rw [hn] at c1 ⊢
  have c1' : w.cell? ⟨g, 1, none⟩ = some (.slice OA n oc) := c1
  clear h nn hnow hn c1
  go_enter Tryd.func11, Tryd.ntmps11
  go_wp2_with fail
  refine CL.out.mono ?_
  rintro e1 w1 ⟨⟨CA, cc, rfl, hr, hco⟩, hb⟩
  have C1 := Lib.hid (show CatM F w1 g gm OA oc T (msI now ms 0) from by
    have : msI now ms 0 = ms := by simp [msI]
    rw [this]
    exact HC.out.below hb)
  have R1 := Lib.hid hr
  have CO := Lib.hid hco
  have K1 := Lib.hid (Keep.of (F := fun k => k ≠ g ∧ k ≠ gm ∧ ¬ own OA k) hb)
  clear hr hco hb CL c1'
  go_wp2_with fail
  go_loopw [5, 17] (fun fv iv wr => ∃ i : Nat, iv = .int .i64 (i : Int) ∧ i ≤ n ∧ Hid (CatM F wr g gm OA oc T (msI now ms i)) ∧ Hid (RowAt NT 4 wr CA n cc (nmFlat (ms.map (·.nm)))) ∧ Hid (∃ FA fc zs, FAt w.heap.size wr FA fc zs ∧ zs.map (·.1) = firstI now ms i ∧ fv = .slice FA zs.length fc) ∧ Hid (Keep (fun k => k ≠ g ∧ k ≠ gm ∧ ¬ own OA k) w wr)) (fun _ iv _ => n - (intOf iv).toNat)
  case atStart => exact ⟨0, rfl, by omega, C1, R1, Lib.hid ⟨none, 0, [], ⟨RowAt.nil _ _ _, fun k o => (by obtain ⟨a, e, _⟩ := o; cases e), fun z hz => (by cases hz)⟩, rfl, rfl⟩, K1⟩
  case round =>
    obtain ⟨i, rfl, hi, HM, HR, HF, HK⟩ := hrel
    clear C1 R1 K1
    obtain ⟨FA, fc, fz, hf1, hf2, hf3⟩ := HF.out
    by_cases lt : i < n
    · obtain ⟨e, he⟩ : ∃ e, ms[i]? = some e := ⟨_, List.getElem?_eq_getElem (by rw [MN.out]; exact lt)⟩
      have HI := Lib.hid he
      have IL := Lib.hid (show i ≤ 16 by have := N16.out; omega)
      obtain ⟨z, hz⟩ : ∃ z, e.nm = z := ⟨_, rfl⟩
      have NME := Lib.hid hz
      have FZE := Lib.hid hf2
      have hrow := HR.out
      have hll : (ms.map (·.nm)).length = n := by rw [List.length_map]; exact MN.out
      rw [← hll] at hrow
      obtain ⟨nbk, hCA, hnl, hat⟩ := row_nm hrow (k := i) (z := z) (by rw [List.getElem?_map, he, ← hz]; rfl)
      subst hCA
      have RP := Lib.hid (Part.run_part wr nbk (i * 4) NT [.string z.src, .string z.dst, .int .i64 z.proto, .int .i64 z.id] _ Tryd.underlying60 rfl (by kernel_rfl) hat)
      have S0 := Blk.new wr 60 #[.string ⟨#[]⟩, .string ⟨#[]⟩, .int .i64 0, .int .i64 0]
      have RS := Lib.hid (run_storeVar_row (P := Tryd.prog) (wr.alloc (.cells #[.string ⟨#[]⟩, .string ⟨#[]⟩, .int .i64 0, .int .i64 0] 60)) wr.heap.size 60 60 #[.string ⟨#[]⟩, .string ⟨#[]⟩, .int .i64 0, .int .i64 0] #[.string z.src, .string z.dst, .int .i64 z.proto, .int .i64 z.id] S0 (by kernel_rfl) rfl (by simp [Value.oneCell']))
      obtain ⟨w4, hw4⟩ : ∃ w4, w4 = (wr.alloc (.cells #[.string ⟨#[]⟩, .string ⟨#[]⟩, .int .i64 0, .int .i64 0] 60)).setRow wr.heap.size #[.string z.src, .string z.dst, .int .i64 z.proto, .int .i64 z.id] := ⟨_, rfl⟩
      rw [← hw4] at RS
      have ba : Below wr.heap.size wr w4 := by rw [hw4]; exact Com.setRow_bel ((Below.refl _ _).alloc (Nat.le_refl _) _) (Nat.le_refl _) _
      obtain ⟨nb, hnb⟩ : ∃ nb, wr.heap.size = nb := ⟨_, rfl⟩
      have NBE := Lib.hid hnb
      have n4 : Blk w4 wr.heap.size NT #[.string z.src, .string z.dst, .int .i64 z.proto, .int .i64 z.id] := by rw [hw4]; exact setRow_heap _ _ _ _ _ _ S0
      rw [hnb] at n4
      have N4 := Lib.hid n4
      have C4 := Lib.hid (HM.out.below ba)
      have R4 := Lib.hid (HR.out.below ba)
      have F4 := Lib.hid (hf1.below ba)
      have K4 := Lib.hid (HK.out.trans (Keep.of ba))
      have XN : Hid (∀ V, Below w4.drew.heap.size w4.drew V → Blk V nb 60 #[.string z.src, .string z.dst, .int .i64 z.proto, .int .i64 z.id]) := Lib.hid fun V hV => Blk.below (show Blk w4.drew nb NT _ from N4.out) hV (Blk.lt N4.out)
      obtain ⟨nN, hnN⟩ : ∃ nN, (msI now ms i).length = nN := ⟨_, rfl⟩
      have XG : Hid (∀ V, Below w4.drew.heap.size w4.drew V → Blk V g 57 #[.map (some gm), .slice OA nN oc]) := Lib.hid fun V hV => by
        rw [← hnN]
        exact C4.out.blk.below (Draw.below_1 hV) C4.out.blk.lt
      have LK : Hid (∀ V, Below w4.drew.heap.size w4.drew V → (Instr.lookup 54 (.map (some gm)) (nk z) false).run Tryd.prog V = .ok (.pointer (some ⟨e.eb, 0, none⟩)) V) := Lib.hid fun V hV => by
        have := run_lookup1 (P := Tryd.prog) (ev := ev) key_law Tryd.underlying54 (C4.out.map.below (Draw.below_1 hV) C4.out.map.lt) (.pointer none) (zero_ptr V) z
        rw [← hz, get_some (msI_find NN.out he) (msI_at he), hz] at this
        exact this
      have f1 : decide (i < n) = true := decide_eq_true lt
      have f2 : IntKind.i64.wrap ((i : Int) + 1) = ((i + 1 : Nat) : Int) := by rw [IntWalk.i64_in _ (by have := IL.out; omega)]; omega
      clear he hz hf1 hf2 hrow hll hnl hat S0 hw4 ba hnb n4 N4 hnN HM HR HK HF
      subst hf3
      go_wp2_with (first | (refine Store.at_load 60 (.tmp 19) ?_ ?_; exact rfl; refine Part.wpList_load_part rfl 60 (.tmp 19) rfl nbk (i * 4) [.string z.src, .string z.dst, .int .i64 z.proto, .int .i64 z.id] rfl (RP.out) ?_) | (refine Store.at_store 60 (.tmp 7) (.tmp 20) ?_ ?_; exact rfl; refine JcP.wpList_store_run rfl 60 (.tmp 7) (.tmp 20) rfl ⟨wr.heap.size, 0, none⟩ (.agg #[.string z.src, .string z.dst, .int .i64 z.proto, .int .i64 z.id]) rfl rfl RS.out ?_))
      rw [NBE.out]
      clear RP RS
      refine wp_region_free [0, 1, 2, 3, 4, 5] 6 [] (fun w1 w2 => Below w1.heap.size w1 w2) (fun k' w' v => match k' with
          | 0 => v = .pointer (some ⟨g, 0, none⟩)
          | 1 => v = .pointer (some ⟨g, 0, none⟩)
          | 2 => v = .pointer (some ⟨g, 0, none⟩)
          | 3 => v = .map (some gm)
          | 4 => v = .agg #[.string z.src, .string z.dst, .int .i64 z.proto, .int .i64 z.id]
          | _ => v = .pointer (some ⟨e.eb, 0, none⟩)) (by kernel_rfl) (by kernel_rfl) (Below.refl _ _) (fun _ _ _ h k => h.trans (k.mono h.size)) (fun k' w1 w2 v h => match k' with
          | 0 => fun x => x
          | 1 => fun x => x
          | 2 => fun x => x
          | 3 => fun x => x
          | 4 => fun x => x
          | _ + 5 => fun x => x) (fun _ _ _ _ _ h => h) ?_ _ (by rfl) ?_
      · refine obs_cons (by rfl) (fun vals w' hgr hdep K hK => ?_) (obs_cons (by rfl) (fun vals w' hgr hdep K hK => ?_) (obs_cons (by rfl) (fun vals w' hgr hdep K hK => ?_) (obs_cons (by rfl) (fun vals w' hgr hdep K hK => ?_) (obs_cons (by rfl) (fun vals w' hgr hdep K hK => ?_) (obs_cons (by rfl) (fun vals w' hgr hdep K hK => ?_) (obs_nil))))))
        · exact wp_move (.tmp 0) rfl _ (at_out _ (by kernel_rfl) rfl) (hK _ _ (Below.refl _ _) rfl)
        · exact MapS.st_nil (.tmp 21) rfl _ ((at_dst 0 (by kernel_rfl)).trans (hdep 0 (by simp) (by kernel_rfl))) (hK _ _ (Below.refl _ _) rfl)
        · exact wp_field (.tmp 22) rfl _ _ ((at_dst 1 (by kernel_rfl)).trans (hdep 1 (by simp) (by kernel_rfl))) (by kernel_rfl) (hK _ _ (Below.refl _ _) rfl)
        · exact wp_load1 (.tmp 23) rfl ⟨g, 0, none⟩ ((at_dst 2 (by kernel_rfl)).trans (hdep 2 (by simp) (by kernel_rfl))) Tryd.underlying54 rfl _ ((XG.out w' hgr).cell 0) (hK _ _ (Below.refl _ _) rfl)
        · exact st_load_row 60 (.tmp 7) rfl nb (at_out _ (by kernel_rfl) rfl) 60 #[.string z.src, .string z.dst, .int .i64 z.proto, .int .i64 z.id] (0, 0) _ (XN.out w' hgr) Tryd.underlying60 rfl (by kernel_rfl) (hK _ _ (Below.refl _ _) rfl)
        · exact MapL.st_lookup1 54 (.tmp 24) (.tmp 25) rfl (.map (some gm)) (nk z) (.pointer (some ⟨e.eb, 0, none⟩)) ((at_dst 3 (by kernel_rfl)).trans (hdep 3 (by simp) (by kernel_rfl))) ((at_dst 4 (by kernel_rfl)).trans (hdep 4 (by simp) (by kernel_rfl))) (LK.out w' hgr) (hK _ _ (Below.refl _ _) rfl)
      · intro vals w' hgr hG
        refine st_assign (.tmp 26) _ rfl ((at_dst 5 (by kernel_rfl)).trans (hG 5 (by simp))) (wpAnyH_done (by kernel_rfl) ?_ _)
        have bw := (Draw.below_1 hgr)
        have N5 := Lib.hid (XN.out w' hgr)
        have C5 := Lib.hid (C4.out.below bw)
        have R5 := Lib.hid (R4.out.below bw)
        have F5 := Lib.hid (F4.out.below bw)
        have K5 := Lib.hid (K4.out.trans (Keep.of bw))
        clear hG hgr bw XG XN LK C4 R4 F4 K4
        simp only [fill, dstAt, List.getElem?_cons_zero, List.getElem?_cons_succ, Option.bind_some, Act.put, List.setIfInBounds_toArray, List.set_cons_zero, List.set_cons_succ]
        generalize vals 0 = y0, vals 1 = y1, vals 2 = y2, vals 3 = y3, vals 4 = y4, vals 5 = y5 at *
        generalize w' = w5 at *
        have E5 := C5.out.at_ (msI_at HI.out)
        have LC := Lib.hid (late_c e.eb e.since now (.slice e.PA e.zs.length e.pc) w5 E5.blk NOW.out.1 NOW.out.2)
        obtain ⟨u, hu⟩ : ∃ u, oldC now e.since = u := ⟨_, rfl⟩
        have HU := Lib.hid hu
        rw [show decide (e.since ≤ now - 60) = u from hu] at LC
        clear E5 hu
        go_wp2_with fail
        refine LC.out.mono ?_
        rintro e6 w6 ⟨rfl, hw⟩
        subst hw
        clear LC
        cases u
        · have C6 := Lib.hid (by have := C5.out; rw [← msI_keep HI.out HU.out] at this; exact this)
          have F6 : Hid (∃ FA1 fc1 zs, FAt w.heap.size w5 FA1 fc1 zs ∧ zs.map (·.1) = firstI now ms (i + 1) ∧ (.slice FA fz.length fc : Value) = .slice FA1 zs.length fc1) := Lib.hid ⟨FA, fc, fz, F5.out, by rw [firstI_succ HI.out, HU.out, FZE.out]; simp, rfl⟩
          clear C5 F5
          go_wp2_with fail
          go_roundw
          case rel => exact ⟨i + 1, by go_num, by omega, C6, R5, F6, K5⟩
          case measure => simp [intOf]; omega
        · have DC := Lib.hid (drop_c F g gm OA oc T (msI now ms i) e.nm (jI now ms i) w5 C5.out (msI_find NN.out HI.out))
          rw [NME.out] at DC
          unfold nk at DC
          go_wp2_with (refine Store.at_load 60 (.tmp 7) ?_ ?_; exact rfl; refine Loads.wpList_load_w rfl 60 (.tmp 7) rfl nb rfl 60 #[.string z.src, .string z.dst, .int .i64 z.proto, .int .i64 z.id] (0, 0) _ (N5.out) Tryd.underlying60 rfl (by kernel_rfl) ?_)
          refine DC.out.mono ?_
          rintro e7 w7 ⟨rfl, h1, h2⟩
          have E7 := (C5.out.at_ (msI_at HI.out)).stay (w' := w7) fun k hf hK => h2.block k (C5.out.kin hK) (by
            obtain ⟨X, t, fz, hX, _⟩ := hK
            exact (Array.getElem?_eq_some_iff.1 hX).1)
          have C7 := Lib.hid (show CatM F w7 g gm OA oc T (msI now ms (i + 1)) from by rw [msI_drop HI.out HU.out]; exact h1)
          have kf : ∀ (k : Nat) (X : Array Value) (t : TypeId) (fz : Nat × Nat), w5.heap[k]? = some (.cells X t fz) → (t = PT ∨ t = BT) → w7.heap[k]? = w5.heap[k]? := fun k X t fz hX ht => h2.block k (C5.out.kin ⟨X, t, fz, hX, .inr ht⟩) (Array.getElem?_eq_some_iff.1 hX).1
          have f7 := F5.out.stay kf
          have R7 := Lib.hid (R5.out.keep fun k o lt => h2.block k ⟨fun y => by have := CO.out k o; have := HC.out.blk.lt; omega, fun y => by have := CO.out k o; have := HC.out.map.lt; omega, fun y => by have := CO.out k o; have := HC.out.ord.lt y; omega⟩ lt)
          have K7 := Lib.hid (K5.out.trans h2)
          have EO := HC.out.ok e (List.mem_of_getElem? HI.out)
          have z0 : 0 < e.zs.length := by
            rcases Nat.eq_zero_or_pos e.zs.length with y | y
            · exact absurd (by simp [ME.ce, List.eq_nil_of_length_eq_zero y]) EO.some
            · exact y
          obtain ⟨zp, hzp⟩ : ∃ zp, e.zs[0]? = some zp := ⟨_, List.getElem?_eq_getElem z0⟩
          obtain ⟨pb, A', c', hPA, hpl, hat, hd, -⟩ := (Jc4.RAt.pr E7.row).at_ hzp
          have od := (E7.row.dat zp (List.mem_of_getElem? hzp)).1
          have hdc : hdC (e.zs.map (·.1)) = if zp.1.1.off = 0 then [zp.1] else [] := by
            cases hl : e.zs with
            | nil => rw [hl] at hzp; simp at hzp
            | cons y t =>
              rw [hl] at hzp
              simp at hzp
              subst hzp
              rfl
          obtain ⟨⟨q, lq⟩, dq⟩ := zp
          dsimp only at hd hat od hdc
          subst hd
          have hat0 : Part.At w7 pb 0 [.int .i64 q.tos, .int .i64 q.id, .int .i64 q.ttl, .int .i64 q.proto, .bool q.df, .bool q.mf, .int .i64 q.off, .string q.src, .string q.dst, .string q.opt, .slice A' lq.length c'] := by rw [Nat.zero_mul] at hat; exact hat
          have c1 : w7.cell? ⟨e.eb, 1, none⟩ = some (.slice (some ⟨pb, 0, none⟩) e.zs.length e.pc) := by have := E7.blk.cell 1; rw [hPA] at this; exact this
          have c6 : w7.cell? ⟨pb, 6, none⟩ = some (.int .i64 q.off) := hat0 6 _ rfl
          obtain ⟨pn, hpn⟩ : ∃ pn, e.zs.length = pn := ⟨_, rfl⟩
          rw [hpn] at c1 z0
          have f0 : decide (0 < pn) = true := decide_eq_true z0
          by_cases qo : q.off = 0
          · have g6 : (q.off == 0) = true := by simp [qo]
            have RP := Lib.hid (Part.run_part w7 pb 0 PT [.int .i64 q.tos, .int .i64 q.id, .int .i64 q.ttl, .int .i64 q.proto, .bool q.df, .bool q.mf, .int .i64 q.off, .string q.src, .string q.dst, .string q.opt, .slice A' lq.length c'] _ Tryd.underlying32 rfl (by kernel_rfl) hat0)
            obtain ⟨inf, zv, i1, i2, i3, i4, i5⟩ := ip_info
            have b8 : Below w7.heap.size w7 (w7.alloc (.cells #[.int .i64 q.tos, .int .i64 q.id, .int .i64 q.ttl, .int .i64 q.proto, .bool q.df, .bool q.mf, .int .i64 q.off, .string q.src, .string q.dst, .string q.opt, .slice A' lq.length c'] PT)) := (Below.refl _ _).alloc (Nat.le_refl _) _
            obtain ⟨A2, c2, w8, a1, a2, a3, a4⟩ := RowB.append_row (sl := 36) Tryd.underlying36 i1 i2 i4 i3 i5 (f7.below b8).row (Blk.new w7 PT #[.int .i64 q.tos, .int .i64 q.id, .int .i64 q.ttl, .int .i64 q.proto, .bool q.df, .bool q.mf, .int .i64 q.off, .string q.src, .string q.dst, .string q.opt, .slice A' lq.length c']) (by simp) (by simp [Value.oneCell']) (by have := firstI_len (now := now) (ms := ms) i; have := congrArg List.length FZE.out; rw [List.length_map] at this; have := IL.out; omega)
            have AR := Lib.hid (a1 36)
            have nF : ∀ k, own FA k → w.heap.size ≤ k := f7.own
            have kp : ∀ k, k < w7.heap.size → ¬ own FA k → w8.heap[k]? = w7.heap[k]? := fun k lt no => (a4.block k no (by simp; omega)).trans (b8.block k lt)
            have s8 : w7.heap.size ≤ w8.heap.size := Nat.le_trans b8.size a4.size
            have nk_ : ∀ (k : Nat) (X : Array Value) (t : TypeId) (fz : Nat × Nat), w7.heap[k]? = some (.cells X t fz) → t ≠ PT → ¬ own FA k := fun k X t fz hX ht o => by
              obtain ⟨Y, hY⟩ := f7.row.type o
              exact ht (cells_ty hX hY)
            have F8 : Hid (∃ FA fc zs, FAt w.heap.size w8 FA fc zs ∧ zs.map (·.1) = firstI now ms (i + 1) ∧ (.slice A2 (fz.length + 1) c2 : Value) = .slice FA zs.length fc) := Lib.hid (by
              refine ⟨A2, c2, fz ++ [((q, lq), .slice A' lq.length c')], ⟨?_, fun k o => ?_, fun z hz => ?_⟩, ?_, by rw [List.length_append]; rfl⟩
              · rw [List.length_append, flat_snoc]
                simpa [pcCells] using a2
              · rcases a3 with rfl | ⟨b9, rfl, h9⟩
                · exact nF k o
                · obtain ⟨a, e9, rfl⟩ := o
                  cases e9
                  have := K7.out.size
                  have := b8.size
                  show w.heap.size ≤ b9
                  omega
              · have st : ∀ {v : Value} {n : Nat} {l : List Int}, Owns w7 0 v n l → Owns w8 0 v n l := fun ho => owns_stay ho fun k X fz _ hX => kp k (Array.getElem?_eq_some_iff.1 hX).1 (nk_ k X BT fz hX (by decide))
                rcases List.mem_append.1 hz with hz | hz
                · exact st (f7.dat z hz)
                · obtain rfl := List.mem_singleton.1 hz
                  exact st od
              · rw [List.map_append, FZE.out, firstI_succ HI.out, HU.out, if_pos rfl, hdc, if_pos qo]
                rfl)
            have C8 := Lib.hid (show CatM F w8 g gm OA oc T (msI now ms (i + 1)) from by
              have c := C7.out
              have old : ∀ k, own FA k → w.heap.size ≤ k := nF
              refine ⟨(kp g c.blk.lt (nk_ _ _ _ _ c.blk (by decide))).trans c.blk, c.ng, c.map.same (kp gm c.map.lt fun o => by have := old _ o; have := HC.out.map.lt; omega), c.nm, c.ord.keep fun k o lt => kp k lt fun o' => by have := old _ o'; have := HC.out.ord.lt o; omega, c.no, fun x hx => ?_, c.nd, c.ok, c.few⟩
              have hx0 : x ∈ ms := by
                unfold msI at hx
                rcases List.mem_append.1 hx with hx | hx
                · exact List.mem_of_mem_take (List.mem_filter.1 hx).1
                · exact List.mem_of_mem_drop hx
              have E0 := HC.out.each x hx0
              have E8 := c.each x hx
              refine ⟨(kp _ E8.blk.lt (nk_ _ _ _ _ E8.blk (by decide))).trans E8.blk, E8.nf, ⟨E8.row.row.keep fun k o lt => kp k lt fun o' => by have := old _ o'; have := E0.row.row.lt o; omega, E8.row.own, fun z hz => ⟨owns_stay (E8.row.dat z hz).1 fun k X fz _ hX => kp k (Array.getElem?_eq_some_iff.1 hX).1 (nk_ k X BT fz hX (by decide)), (E8.row.dat z hz).2⟩⟩⟩)
            have R8 := Lib.hid (R7.out.keep (w' := w8) fun k o lt => kp k lt (by
              obtain ⟨Y, hY⟩ := R7.out.type o
              exact nk_ k Y NT _ hY (by decide)))
            have K8 := Lib.hid (show Keep (fun k => k ≠ g ∧ k ≠ gm ∧ ¬ own OA k) w w8 from keep_two K7.out (a4.os.trans b8.os) (a4.tape.trans b8.tape) (a4.output.trans b8.output) s8 fun k _ lt => kp k (Nat.lt_of_lt_of_le lt K7.out.size) fun o => by have := nF k o; omega)
            clear f7 hat hat0 od hdc qo a1 a2 a3 a4 kp nF nk_ s8 b8 E7 h1 h2 kf C5 F5 R5 K5 C7 R7 K7 hPA hzp EO
            go_wp2_with (first | (refine Store.at_load 32 (.tmp 47) ?_ ?_; exact rfl; refine Part.wpList_load_part rfl 32 (.tmp 47) rfl pb (0) [.int .i64 q.tos, .int .i64 q.id, .int .i64 q.ttl, .int .i64 q.proto, .bool q.df, .bool q.mf, .int .i64 q.off, .string q.src, .string q.dst, .string q.opt, .slice A' lq.length c'] rfl (RP.out) ?_) | (at_builtin; refine Lib.wpList_append_run (w7.alloc (.cells #[.int .i64 q.tos, .int .i64 q.id, .int .i64 q.ttl, .int .i64 q.proto, .bool q.df, .bool q.mf, .int .i64 q.off, .string q.src, .string q.dst, .string q.opt, .slice A' lq.length c'] PT)) rfl (.tmp 42) (.tmp 49) 36 36 rfl (.slice FA fz.length fc) (.slice (some ⟨w7.heap.size, 0, none⟩) 1 1) rfl rfl (.slice A2 (fz.length + 1) c2) w8 AR.out ?_))
            go_roundw
            case rel => exact ⟨i + 1, by go_num, by omega, C8, R8, F8, K8⟩
            case measure => simp [intOf]; omega
          · have g6 : (q.off == 0) = false := by simp [qo]
            have F7 : Hid (∃ FA1 fc1 zs, FAt w.heap.size w7 FA1 fc1 zs ∧ zs.map (·.1) = firstI now ms (i + 1) ∧ (.slice FA fz.length fc : Value) = .slice FA1 zs.length fc1) := Lib.hid ⟨FA, fc, fz, f7, by rw [firstI_succ HI.out, HU.out, if_pos rfl, hdc, if_neg qo, FZE.out, List.append_nil], rfl⟩
            clear f7 hat hat0 od hdc qo E7 h1 h2 kf C5 F5 R5 K5 hPA hzp EO
            go_wp2_with fail
            go_roundw
            case rel => exact ⟨i + 1, by go_num, by omega, C7, R7, F7, K7⟩
            case measure => simp [intOf]; omega
    · obtain rfl : i = n := by omega
      have f1 : decide (i < i) = false := decide_eq_false (by omega)
      have FF := Lib.hid (show FAt w.heap.size wr FA fc fz ∧ fz.map (·.1) = firstI now ms i from ⟨hf1, hf2⟩)
      subst hf3
      clear hf1 hf2 HF
      go_wp2_with fail
      go_ret
      exact ⟨⟨FA, fc, fz, rfl, FF.out.1, FF.out.2⟩, HM.out, HK.out⟩
end Go.Proofs.YtnpggkpcadefjaaDoor.Jc15

/- The code's joiner answers as the laws want. -/
set_option linter.unusedVariables false
set_option maxRecDepth 100000
namespace Go.Proofs.YtnpggkpcadefjaaDoor.Jc16
open Go.RowKit Go.Proofs.YtnpggkpcadefjaaDoor.Sums Go.Proofs.YtnpggkpcadefjaaDoor.Mem Go.Proofs.YtnpggkpcadefjaaDoor.Blk Go.Proofs.YtnpggkpcadefjaaDoor.Pkt Go.Proofs.YtnpggkpcadefjaaDoor.Check Go.Proofs.YtnpggkpcadefjaaDoor.JoiM Go.Proofs.YtnpggkpcadefjaaDoor.JoiC Go.Proofs.YtnpggkpcadefjaaDoor.RowN Go.Proofs.YtnpggkpcadefjaaDoor.SplP Go.Proofs.YtnpggkpcadefjaaDoor.Spl5 Go.Proofs.YtnpggkpcadefjaaDoor.JcP Go.Proofs.YtnpggkpcadefjaaDoor.MapK Go.Proofs.YtnpggkpcadefjaaDoor.MapL Go.Proofs.YtnpggkpcadefjaaDoor.JoiC2 Go.Proofs.YtnpggkpcadefjaaDoor.Jc1 Go.Proofs.YtnpggkpcadefjaaDoor.Jc3 Go.Proofs.YtnpggkpcadefjaaDoor.Cat Go.Proofs.YtnpggkpcadefjaaDoor.Jc4 Go.Proofs.YtnpggkpcadefjaaDoor.Jc5 Go.Proofs.YtnpggkpcadefjaaDoor.Jc6 Go.Proofs.YtnpggkpcadefjaaDoor.Jc8 Go.Proofs.YtnpggkpcadefjaaDoor.Jc9 Go.Proofs.YtnpggkpcadefjaaDoor.Jc10 Go.Proofs.YtnpggkpcadefjaaDoor.Jc11 Go.Proofs.YtnpggkpcadefjaaDoor.Jc12 Go.Proofs.YtnpggkpcadefjaaDoor.Jc13 Go.Proofs.YtnpggkpcadefjaaDoor.Jc14 Go.Proofs.YtnpggkpcadefjaaDoor.Jc15 Go.Proofs.YtnpggkpcadefjaaDoor.Errno Go.Proofs.YtnpggkpcadefjaaDoor.JoiP Go.Proofs.YtnpggkpcadefjaaDoor.Obj

/-- The code's joiner, at g: st waits. -/
def JA (F : Nat → Prop) (w : World) (g : Nat) (st : JSt) : Prop := GoodS st ∧ CAt F w g (st.map entC)
theorem ja_obj (g : Nat) (st : JSt) : IsObj fun F w => JA F w g st where
  mono := fun h hG => ⟨h.1, (cat_obj g _).mono h.2 hG⟩
  keep := fun h hk => ⟨h.1, (cat_obj g _).keep h.2 hk⟩
theorem good_empty : GoodS [] := ⟨good_nil, fun e h => (by cases h), by simp⟩
theorem new_c (w : World) : Calls Tryd.prog 9 #[] w fun e w' => (∃ g, e = .returned (.pointer (some ⟨g, 0, none⟩)) ∧ JA (fun k => k < w.heap.size) w' g []) ∧ Below w.heap.size w w' := by
  have E : Hid (JA (fun k => k < w.heap.size) ((w.alloc (.map #[] 0)).alloc (.cells #[.map (some w.heap.size), .slice none 0 0] 57)) (w.heap.size + 1) []) := Lib.hid (by
    refine ⟨good_empty, w.heap.size, none, 0, fun _ => 0, [], ⟨?_, by omega, ?_, by omega, RowAt.nil _ _ _, fun k o => (by obtain ⟨a, e, _⟩ := o; cases e), fun e h => (by cases h), by simp, fun e h => (by cases h), by simp⟩, rfl⟩
    · have := Blk.new (w.alloc (.map #[] 0)) 57 #[.map (some w.heap.size), .slice none 0 0]
      simpa using this
    · exact (new_map w 0).same (Below.heap_alloc _ _ _ (by simp)))
  have B : Hid (Below w.heap.size w ((w.alloc (.map #[] 0)).alloc (.cells #[.map (some w.heap.size), .slice none 0 0] 57))) := Lib.hid (((Below.refl _ _).alloc (Nat.le_refl _) _).alloc (by simp) _)
  have mm : ∀ W, (Instr.makeMap 54 none).run Tryd.prog W = .ok (.map (some W.heap.size)) (W.alloc (.map #[] 0)) := fun W => by kernel_rfl
  go_enter Tryd.func9, Tryd.ntmps9
  go_wp2_with fail
  go_ret
  exact ⟨⟨_, rfl, E.out⟩, B.out⟩
theorem waiting_c (F : Nat → Prop) (g : Nat) (st : JSt) (w : World) (h : JA F w g st) : Calls Tryd.prog 17 #[.pointer (some ⟨g, 0, none⟩)] w fun e w' => e = .returned (.int .i64 (st.length : Int)) ∧ Below w.heap.size w w' := by
  obtain ⟨_, gm, OA, oc, T, ms, hc, he⟩ := h
  have hl : ms.length = st.length := by
    have := congrArg List.length he
    simpa using this
  obtain ⟨n, hn⟩ : ∃ n, st.length = n := ⟨_, rfl⟩
  have c1 := hc.blk.cell 1
  rw [hl, hn] at c1
  have c1' : w.cell? ⟨g, 1, none⟩ = some (.slice OA n oc) := c1
  rw [hn]
  clear hc he hl hn c1
  go_enter Tryd.func17, Tryd.ntmps17
  go_wp2_with fail
  go_ret
  exact ⟨rfl, Below.refl _ _⟩
theorem waiting_nil (w : World) : Calls Tryd.prog 17 #[.pointer none] w fun e w' => e = .returned (.int .i64 0) ∧ Below w.heap.size w w' := by
  go_enter Tryd.func17, Tryd.ntmps17
  go_wp2_with fail
  go_ret
  exact ⟨rfl, Below.refl _ _⟩
theorem tick_nil (now : Int) (w : World) : Calls Tryd.prog 11 #[.pointer none, .int .i64 now] w fun e w' => (∃ A c, e = .returned (.slice A 0 c)) ∧ Below w.heap.size w w' := by
  go_enter Tryd.func11, Tryd.ntmps11
  go_wp2_with fail
  go_ret
  exact ⟨⟨none, 0, rfl⟩, Below.refl _ _⟩
theorem old_is (now : Int) (e : Ent) : oldB now e = oldC now (entC e).2.1 := by
  unfold oldB oldC
  rw [decide_eq_decide]
  show 60 ≤ now - e.1 ↔ e.1 ≤ now - 60
  omega
theorem hd_is {e : Ent} (h : OkL e.2) : hdC (keptF e.2) = e.2.filter fun x => decide (x.1.off = 0) := by
  by_cases q : ∃ y ∈ e.2, y.1.off = 0
  · obtain ⟨y, hy, y0⟩ := q
    obtain ⟨⟨t, h1⟩, _, h3⟩ := head_at h hy y0
    rw [h3, h1]
    show (if y.1.off = 0 then [y] else []) = [y]
    rw [if_pos y0]
  · have no : ∀ y ∈ e.2, y.1.off ≠ 0 := fun y hy z => q ⟨y, hy, z⟩
    rw [(head_no no).2]
    cases hk : keptF e.2 with
    | nil => rfl
    | cons z t =>
      obtain ⟨y, hy, ez⟩ := kept_mem (show z ∈ keptF e.2 by rw [hk]; exact List.mem_cons_self)
      show (if z.1.off = 0 then [z] else []) = []
      rw [if_neg]
      rw [ez, bare_off]
      exact no y hy
theorem tick_ja (F : Nat → Prop) (g : Nat) (st : JSt) (now : Int) (w : World) (h : JA F w g st) (hF : ∀ k, F k → k < w.heap.size) (h5 : -1099511627776 ≤ now) (h6 : now ≤ 1099511627776) :
    Calls Tryd.prog 11 #[.pointer (some ⟨g, 0, none⟩), .int .i64 now] w fun e w' => ((∃ v, e = .returned v ∧ PcsAt w' v (tickJ now st).1) ∧ JA F w' g (tickJ now st).2) ∧ Keep F w w' := by
  obtain ⟨G, gm, OA, oc, T, ms, hc, he⟩ := h
  have nn : (ms.map (·.nm)).Nodup := by
    have e1 : ms.map (·.nm) = (ms.map ME.ce).map (·.1) := by rw [List.map_map]; rfl
    have e2 : (st.map entC).map (·.1) = st.map nmE := by rw [List.map_map]; rfl
    rw [e1, he, e2]
    exact G.names
  refine (tick_c F g gm OA oc T ms now w hc nn ⟨h5, h6⟩).mono fun er w' ⟨⟨FA, fc, zs, h1, h2, h3⟩, h4, h7⟩ => ⟨⟨⟨_, h1, ?_⟩, ⟨⟨good_tick G.good now, fun e he' => G.each e (List.mem_filter.1 he').1, List.Nodup.sublist ((List.filter_sublist).map nmE) G.names⟩, ?_⟩⟩, cat_keep hc (Below.refl _ _) h7⟩
  · have e1 : firstI now ms ms.length = (ms.map ME.ce).flatMap fun c => if oldC now c.2.1 = true then hdC c.2.2 else [] := by
      unfold firstI
      rw [List.take_length, List.flatMap_map]
      rfl
    have e2 : (tickJ now st).1 = (st.map entC).flatMap fun c => if oldC now c.2.1 = true then hdC c.2.2 else [] := by
      unfold tickJ
      rw [List.flatMap_map]
      have : ∀ (s : JSt), (∀ e ∈ s, OkL e.2) → (s.flatMap fun e => if oldB now e = true then e.2.filter (fun x => decide (x.1.off = 0)) else []) = s.flatMap fun e => if oldC now (entC e).2.1 = true then hdC (entC e).2.2 else [] := by
        intro s
        induction s with
        | nil => intro _; rfl
        | cons e s ih =>
          intro hok
          rw [List.flatMap_cons, List.flatMap_cons, ih fun e' h' => hok e' (List.mem_cons_of_mem _ h'), old_is, show (entC e).2.2 = keptF e.2 from rfl, hd_is (hok e List.mem_cons_self)]
      exact this st fun e h' => (G.each e h').ok
    have e3 : zs.map (·.1) = (tickJ now st).1 := by rw [h3, e1, e2, he]
    refine ⟨FA, fc, by rw [← e3, List.length_map], fun k x hx => ?_⟩
    rw [← e3, List.getElem?_map] at hx
    obtain ⟨z, hz, rfl⟩ := Option.map_eq_some_iff.1 hx
    obtain ⟨b, A', c', q1, q2, q3, q4, q5⟩ := PR.at_ (⟨h2.row, h2.dat⟩ : PR w' FA fc zs) hz
    refine ⟨b, 0, A', c', q1, q2, ?_, q5⟩
    rw [Nat.zero_add, ← q4]
    exact q3
  · refine ⟨gm, OA, oc, T, _, h4, ?_⟩
    have e1 : (msI now ms ms.length).map ME.ce = (ms.map ME.ce).filter fun c => !oldC now c.2.1 := by
      unfold msI
      rw [List.take_length, List.drop_length, List.append_nil, List.filter_map]
      rfl
    rw [e1, he]
    show _ = (st.filter fun e => !oldB now e).map entC
    rw [List.filter_map]
    congr 1
    apply List.filter_congr
    intro e _
    rw [old_is]
    rfl
theorem srt_kept {e : Ent} (h : OkL e.2) : Srt (keptF e.2) := by
  unfold Srt keptF
  rw [List.pairwise_map]
  exact (sort_sorted h).imp fun {a b} q => by rw [bare_off, bare_off]; have := q.1; omega
theorem put_ja (F : Nat → Prop) (g : Nat) (st : JSt) (now : Int) (p : Pkt) (A : Option Addr) (n c : Nat) (l : List Int) (B : Nat) (w : World) (hg : Handle w) (hH : F HB) (h : JA F w g st) (hF : ∀ k, F k → k < w.heap.size) (hpB : Holds w B A n c l) (hB : B ≤ w.heap.size) (hA : ∀ b o, 0 < n → A = some ⟨b, o, none⟩ → F b) (s1 : p.src.size ≤ 10000) (s2 : p.dst.size ≤ 10000) (s3 : p.opt.size ≤ 10000) (hn : n ≤ 1048576) (h5 : -1099511627776 ≤ now) (h6 : now ≤ 1099511627776) :
    Calls Tryd.prog 14 #[.pointer (some ⟨g, 0, none⟩), .int .i64 now, val p (.slice A n c)] w fun e w' => (PutR w' (putJ now (p, l) st).1 e ∧ JA F w' g (putJ now (p, l) st).2) ∧ Keep F w w' := by
  obtain ⟨G, C⟩ := h
  have hp := hpB.more hB
  have hl : l.length = n := hp.1
  have CK : ∀ V, Below w.heap.size w V → Calls Tryd.prog 24 #[val p (.slice A n c)] V fun e w' => e = .returned (.int .i64 (chkC p n)) ∧ Below V.heap.size V w' := fun V hV => check_c p A n c V (hg.keep hV) (by omega) hn
  have up : ∀ {w' : World}, Below w.heap.size w w' → JA F w' g st ∧ Keep F w w' := fun hb => ⟨⟨G, (cat_obj g _).keep C fun k hk _ => hb.block k hk⟩, Keep.of hb⟩
  have no : ∀ (k : Int), k ≠ 0 → chkC p n = k → putJ now (p, l) st = ((none, k), st) → Calls Tryd.prog 14 #[.pointer (some ⟨g, 0, none⟩), .int .i64 now, val p (.slice A n c)] w fun e w' => (PutR w' (putJ now (p, l) st).1 e ∧ JA F w' g (putJ now (p, l) st).2) ∧ Keep F w w' := fun k hk0 hk hput => by
    rw [hk] at CK
    rw [hput]
    exact (put_1 g now p A n c w k CK hk0).mono fun er w' ⟨q1, q2⟩ => ⟨⟨by rw [q1]; exact put_zero _ _, (up q2).1⟩, (up q2).2⟩
  by_cases c0 : p.chk n = 0
  case neg =>
    refine no (p.chk n) c0 (if_pos c0) ?_
    unfold putJ
    dsimp only
    rw [hl, if_pos c0]
  obtain ⟨V0, sz⟩ := chk_zero c0
  by_cases q1 : p.off = 0 ∧ p.mf = false
  · have k0 : chkC p n = 0 := by
      unfold chkC
      rw [if_neg (fun z => z c0), if_neg (fun z => by rw [q1.2] at z; cases z.1), if_neg (by rw [q1.1]; omega)]
    rw [k0] at CK
    have hput : putJ now (p, l) st = ((some (p, l), 0), st) := by
      unfold putJ
      dsimp only
      rw [hl, if_neg (fun z => z c0), if_pos q1]
    rw [hput]
    exact (put_2 g now p A n c w 0 CK l hp hn ⟨by unfold Spl1.maxT; omega, by unfold Spl1.maxT; omega, by unfold Spl1.maxT; omega⟩ q1).mono fun er w' ⟨r1, r2⟩ => ⟨⟨r1, (up r2).1⟩, (up r2).2⟩
  by_cases q2 : p.mf = true ∧ (n = 0 ∨ n % 8 ≠ 0)
  · refine no 4 (by decide) (by unfold chkC; rw [if_neg (fun z => z c0), if_pos q2]) ?_
    unfold putJ
    dsimp only
    rw [hl, if_neg (fun z => z c0), if_neg q1, if_pos q2]
  by_cases q3 : 65515 < p.off + (n : Int)
  · refine no 2 (by decide) (by unfold chkC; rw [if_neg (fun z => z c0), if_neg q2, if_pos q3]) ?_
    unfold putJ endF
    dsimp only
    rw [hl, if_neg (fun z => z c0), if_neg q1, if_neg q2, if_pos q3]
  have k0 : chkC p n = 0 := by
    unfold chkC
    rw [if_neg (fun z => z c0), if_neg q2, if_neg q3]
  rw [k0] at CK
  obtain ⟨P1, P2, P3⟩ := put_code (now := now) (x := (p, l)) G hp.2.2.2.1 h5 h6 (by dsimp only; rw [hl]; exact c0) q1 (by dsimp only; rw [hl]; exact q2) (by unfold endF; dsimp only; rw [hl]; exact q3)
  have fx : FOk (p, l) := ⟨V0.o0, by have := V0.o1; dsimp only; omega, by dsimp only; omega, hp.2.2.2.1, s1, s2, s3⟩
  have hs : ∀ e ∈ st.map entC, Srt e.2.2 := fun e he => by
    obtain ⟨e', he', rfl⟩ := List.mem_map.1 he
    exact srt_kept (G.each e' he').ok
  have hsome : ∀ e ∈ st.map entC, e.2.2 ≠ [] := fun e he => by
    obtain ⟨e', he', rfl⟩ := List.mem_map.1 he
    have := (G.good.ent e' he').some
    show keptF e'.2 ≠ []
    intro z
    have hlen := kept_len e'.2
    rw [z] at hlen
    exact this (List.eq_nil_of_length_eq_zero hlen.symm)
  have KC : ∀ V, Below w.heap.size w V → Calls Tryd.prog 27 #[.pointer (some ⟨g, 0, none⟩), .int .i64 now, val p (.slice A n c)] V fun er w' => er = .returned (.int .i64 (keepC now (p, l) (st.map entC)).1) ∧ (CAt (fun k => F k ∨ (w.heap.size ≤ k ∧ k < V.heap.size)) w' g (keepC now (p, l) (st.map entC)).2 ∧ Keep (fun k => F k ∨ (w.heap.size ≤ k ∧ k < V.heap.size)) V w') := fun V hV =>
    keep_c _ g (st.map entC) now p A n c l V (cat_widen C hV) (fun k z => z.elim (fun z => Nat.lt_of_lt_of_le (hF k z) hV.size) (fun z => z.2)) hs ((hp.below hV).more hV.size) (fun b o h0 e => .inl (hA b o h0 e)) fx hn ⟨h5, h6⟩
  have back : ∀ {V w6 : World} {cs : List CEnt} {X : Array Value}, w.heap.size + 1 < V.heap.size → CAt (fun k => F k ∨ (w.heap.size ≤ k ∧ k < V.heap.size)) w6 g cs → CAt F (w6.setRow (w.heap.size + 1) X) g cs := fun lt hc => (cat_obj g _).mono ((cat_obj g _).keep hc fun k _ hk => setRow_other _ _ _ _ fun z => hk (.inr ⟨by omega, by omega⟩)) fun k _ z => .inl z
  have nF : ¬ F (w.heap.size + 1) := fun z => by have := hF _ z; omega
  by_cases kc : (keepC now (p, l) (st.map entC)).1 = 0
  · rw [if_neg (fun z => z kc)] at P1 P2
    rw [P1]
    obtain ⟨i, e, t1, t2, t3⟩ := keep_there kc hsome
    rw [kc] at KC
    refine (put_4 g now p A n c w 0 CK q1 0 (fun V w4 => CAt (fun k => F k ∨ (w.heap.size ≤ k ∧ k < V.heap.size)) w4 g (keepC now (p, l) (st.map entC)).2 ∧ Keep (fun k => F k ∨ (w.heap.size ≤ k ∧ k < V.heap.size)) V w4) KC (fun V w' hr => hr.2.mono fun k z _ => .inr z) rfl (finC (nmOf p) (keepC now (p, l) (st.map entC)).2).1 (nmOf p) rfl (fun V w4 w5 w6 => CAt (fun k => F k ∨ (w.heap.size ≤ k ∧ k < V.heap.size)) w6 g (finC (nmOf p) (keepC now (p, l) (st.map entC)).2).2 ∧ Keep (fun k => F k ∨ (w.heap.size ≤ k ∧ k < V.heap.size)) w5 w6) (fun V w4 w5 hV hr hb => finish_c _ g _ (nmOf p) w5 ((cat_obj g _).keep hr.1 fun k hk _ => hb.block k hk) ((handle_keep (hg.keep hV) hr.2 (.inl hH)).keep hb) (.inl hH) (fun k z => Nat.lt_of_lt_of_le (z.elim (fun z => Nat.lt_of_lt_of_le (hF k z) hV.size) (fun z => z.2)) (Nat.le_trans hr.2.size hb.size)) ⟨i, e, t1, t2, t3⟩) (fun V w4 w5 w6 hr => hr.2.mono fun k z _ => .inr z)).mono fun er w' ⟨r1, V, w4, w5, w6, X, r2, r3, r4, r5, r6, r7⟩ => ?_
    subst r7
    refine ⟨⟨r1, P3, by rw [P2]; exact back r3 r6.1⟩, (((Keep.of r2).trans (r4.2.mono fun k z _ => .inl z)).trans ((Keep.of r5).trans (r6.2.mono fun k z _ => .inl z))).trans (Keep.row _ _ _ nF)⟩
  · rw [if_pos kc] at P1 P2
    rw [P1]
    refine (put_3 g now p A n c w 0 CK q1 _ (fun V w4 => CAt (fun k => F k ∨ (w.heap.size ≤ k ∧ k < V.heap.size)) w4 g (keepC now (p, l) (st.map entC)).2 ∧ Keep (fun k => F k ∨ (w.heap.size ≤ k ∧ k < V.heap.size)) V w4) KC (fun V w' hr => hr.2.mono fun k z _ => .inr z) kc).mono fun er w' ⟨r1, V, w4, r2, r3, r4, r5⟩ => ?_
    subst r5
    refine ⟨⟨by rw [r1]; exact put_zero _ _, P3, by rw [P2]; exact back r3 r4.1⟩, ((Keep.of r2).trans (r4.2.mono fun k z _ => .inl z)).trans (Keep.row _ _ _ nF)⟩
/-- **The code's joiner keeps the contract.** -/
theorem join_spec : JoinSpec JA where
  obj := ja_obj
  good := fun F w g st h => h.1.good
  new := new_c
  put := fun F g st now p A n c l B w hg hH h hF hp hB hA s1 s2 s3 hn h5 h6 => put_ja F g st now p A n c l B w hg hH h hF hp hB hA s1 s2 s3 hn h5 h6
  tick := fun F g st now w h hF h5 h6 => tick_ja F g st now w h hF h5 h6
  waiting := fun F g st w h => waiting_c F g st w h
  put_nil := put_nil
  tick_nil := tick_nil
  waiting_nil := waiting_nil
end Go.Proofs.YtnpggkpcadefjaaDoor.Jc16

