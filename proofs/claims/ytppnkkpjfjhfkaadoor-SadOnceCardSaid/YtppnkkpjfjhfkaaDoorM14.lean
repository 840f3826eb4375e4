/- The document's associations, in blocks that are none of F: what each call leaves. -/
import Derived.Test.YtppnkkpjfjhfkaaDoorM07
import Derived.Test.YtppnkkpjfjhfkaaDoorM08
import Derived.Test.YtppnkkpjfjhfkaaDoorM09
import Derived.Test.YtppnkkpjfjhfkaaDoorM10
import Derived.Test.YtppnkkpjfjhfkaaDoorM11
import Derived.Test.YtppnkkpjfjhfkaaDoorM12
import Derived.Test.YtppnkkpjfjhfkaaDoorM13
set_option linter.unusedVariables false
namespace Go.Proofs.YtppnkkpjfjhfkaaDoor.SadF
open Go.RowKit Go.Proofs.YtppnkkpjfjhfkaaDoor.Sums Go.Proofs.YtppnkkpjfjhfkaaDoor.Mem Go.Proofs.YtppnkkpjfjhfkaaDoor.Blk Go.Proofs.YtppnkkpjfjhfkaaDoor.ArgT Go.Proofs.YtppnkkpjfjhfkaaDoor.Longs Go.Proofs.YtppnkkpjfjhfkaaDoor.WinR Go.Proofs.YtppnkkpjfjhfkaaDoor.SadM Go.Proofs.YtppnkkpjfjhfkaaDoor.SadR2 Go.Proofs.YtppnkkpjfjhfkaaDoor.SadR3 Go.Proofs.YtppnkkpjfjhfkaaDoor.SadR4 Go.Proofs.YtppnkkpjfjhfkaaDoor.SadR5 Go.Proofs.YtppnkkpjfjhfkaaDoor.SadR6 Go.Proofs.YtppnkkpjfjhfkaaDoor.SadR7 Go.Proofs.YtppnkkpjfjhfkaaDoor.SadR8 Go.Proofs.YtppnkkpjfjhfkaaDoor.SadW Go.Proofs.YtppnkkpjfjhfkaaDoor.RowN

/-- None of F is one of its blocks. -/
structure Out (F : Nat → Prop) (gs : Nat) (vl : Value) (ls : List Spot) : Prop where
  s : ¬ F gs
  v : ∀ k, vl.ownBlock = some k → ¬ F k
  l : ∀ l ∈ ls, ¬ F l.g ∧ ¬ F l.gw ∧ ∀ k, l.v.ownBlock = some k → ¬ F k
structure SadF (F : Nat → Prop) (w : World) (gs : Nat) (es : List Ent) : Prop where
  ex : ∃ vl ls, SadAt w 0 gs vl ls es ∧ Out F gs vl ls
section
variable {F G : Nat → Prop} {w w' : World} {gs : Nat} {vl : Value} {ls : List Spot} {es : List Ent}
theorem vl_lt (h : SadAt w 0 gs vl ls es) {k : Nat} (hk : vl.ownBlock = some k) : k < w.heap.size := (World.ownsRow.lt h.own k hk).2
theorem Fr.keep (h : Fr 0 gs vl ls w w') (o : Out F gs vl ls) : Keep F w w' :=
  ⟨h.bel.os, h.bel.tape, h.bel.output, h.bel.size, fun k hf hk => h.rest k hk (fun z => o.s (z ▸ hf)) (fun z => o.v k z.symm hf) fun l hl => ⟨fun z => (o.l l hl).1 (z ▸ hf), fun z => (o.l l hl).2.1 (z ▸ hf), fun z => (o.l l hl).2.2 k z.symm hf⟩⟩
theorem Out.nw {ls' : List Spot} (o : Out F gs vl ls) (hF : ∀ k, F k → k < w.heap.size) (h : Nw w ls ls') : Out F gs vl ls' := ⟨o.s, o.v, fun l' hl' => by
  obtain ⟨l, hl, e1, e2, e3⟩ := h l' hl'
  refine ⟨e1 ▸ (o.l l hl).1, e2 ▸ (o.l l hl).2.1, fun k hk f => ?_⟩
  rcases e3 with q | ⟨k', q1, q2⟩
  · exact (o.l l hl).2.2 k (q ▸ hk) f
  · rw [hk] at q1
    cases q1
    have := hF k f
    omega⟩
theorem SadF.below (h : SadF F w gs es) (hb : Below w.heap.size w w') : SadF F w' gs es := by
  obtain ⟨vl, ls, h1, h2⟩ := h
  exact ⟨vl, ls, h1.up hb, h2⟩
theorem SadF.mono (h : SadF F w gs es) (hg : ∀ k, k < w.heap.size → G k → F k) : SadF G w gs es := by
  obtain ⟨vl, ls, h1, h2⟩ := h
  refine ⟨vl, ls, h1, fun z => h2.s (hg _ (Blk.lt h1.blk) z), fun k hk z => h2.v k hk (hg _ (vl_lt h1 hk) z), fun l hl => ?_⟩
  obtain ⟨a, b, c⟩ := SadAt.lts h1 hl
  exact ⟨fun z => (h2.l l hl).1 (hg _ a z), fun z => (h2.l l hl).2.1 (hg _ b z), fun k hk z => (h2.l l hl).2.2 k hk (hg _ (c k hk) z)⟩
/-- What is made meanwhile is foreign to it. -/
theorem SadF.wide (h : SadF F w gs es) (S T : Nat) (hS : w.heap.size ≤ S) : SadF (fun k => F k ∨ (S ≤ k ∧ k < T)) w gs es := h.mono fun k hk z => z.elim id fun z => absurd z.1 (by omega)
/-- All its blocks are as they were. -/
theorem SadAt.same (h : SadAt w 0 gs vl ls es) (hx : ∀ k, k < w.heap.size → (k = gs ∨ vl.ownBlock = some k ∨ ∃ l ∈ ls, k = l.g ∨ k = l.gw ∨ l.v.ownBlock = some k) → w'.heap[k]? = w.heap[k]?) : SadAt w' 0 gs vl ls es :=
  ⟨(hx gs (Blk.lt h.blk) (.inl rfl)).trans h.blk, own_same h.own fun k hk => hx k (vl_lt h hk) (.inr (.inl hk)), h.len, fun i l e h1 h2 => by
    have hm := List.mem_of_getElem? h1
    obtain ⟨a, b, c⟩ := SadAt.lts h hm
    obtain ⟨c1, c2, c3⟩ := h.ent i l e h1 h2
    exact ⟨(hx l.g a (.inr (.inr ⟨l, hm, .inl rfl⟩))).trans c1, win_same c2 (hx l.gw b (.inr (.inr ⟨l, hm, .inr (.inl rfl)⟩))) fun k hk => hx k (c k hk) (.inr (.inr ⟨l, hm, .inr (.inr hk)⟩)), c3⟩, h.tag, h.nodup, h.ge⟩
/-- Another object's call leaves it. -/
theorem SadF.other (h : SadF F w gs es) (hk : Keep G w w') (hG : ∀ k, ¬ F k → G k) : SadF F w' gs es := by
  obtain ⟨vl, ls, h1, h2⟩ := h
  refine ⟨vl, ls, SadAt.same h1 fun k hl z => hk.block k (hG k ?_) hl, h2⟩
  rcases z with rfl | z | ⟨l, hl', z⟩
  · exact h2.s
  · exact h2.v k z
  · rcases z with rfl | rfl | z
    · exact (h2.l l hl').1
    · exact (h2.l l hl').2.1
    · exact (h2.l l hl').2.2 k z
end
theorem age_F (F : Nat → Prop) (gs : Nat) (es : List Ent) (now spi : Int) (out : Bool) (w : World) (h : SadF F w gs es) (hn : es.length ≤ 1048576) (hc : NowOk now es) :
    Calls Tryd.prog 25 #[.pointer (some ⟨gs, 0, none⟩), .int .i64 now, .int .i64 spi, .bool out] w fun er w' => er = .returned (.tuple #[.int .i64 ((ageS now spi out es).1 : Int), .int .i64 ((ageS now spi out es).2 : Int)]) ∧ Below w.heap.size w w' := by
  obtain ⟨vl, ls, h1, _⟩ := h
  exact age_ref 0 gs vl ls es now spi out w h1 hn hc
theorem pick_F (F : Nat → Prop) (gs : Nat) (es : List Ent) (now rule : Int) (w : World) (h : SadF F w gs es) (hn : es.length ≤ 1048576) (hc : NowOk now es) :
    Calls Tryd.prog 26 #[.pointer (some ⟨gs, 0, none⟩), .int .i64 now, .int .i64 rule] w fun er w' => er = .returned (.tuple #[.int .i64 (pickS now rule es).1, .int .i64 ((pickS now rule es).2 : Int)]) ∧ Below w.heap.size w w' := by
  obtain ⟨vl, ls, h1, _⟩ := h
  exact pick_ref 0 gs vl ls es now rule w h1 hn hc
theorem look_F (F : Nat → Prop) (gs : Nat) (es : List Ent) (now spi low : Int) (w : World) (h : SadF F w gs es) (hn : es.length ≤ 1048576) (hc : NowOk now es) :
    Calls Tryd.prog 28 #[.pointer (some ⟨gs, 0, none⟩), .int .i64 now, .int .i64 spi, .int .i64 low] w fun er w' => er = .returned (.tuple #[.agg (lookS now spi low es).1.cells.toArray, .int .u64 ((lookS now spi low es).2.1 : Int), .int .i64 ((lookS now spi low es).2.2 : Int)]) ∧ Below w.heap.size w w' := by
  obtain ⟨vl, ls, h1, _⟩ := h
  exact look_ref 0 gs vl ls es now spi low w h1 hn hc
theorem take_F (F : Nat → Prop) (gs : Nat) (es : List Ent) (now spi : Int) (seq : Nat) (n : Int) (w : World) (h : SadF F w gs es) (hF : ∀ k, F k → k < w.heap.size) (hn : es.length ≤ 1048576) (hc : NowOk now es) (hr : RoomOk n es) (hq : seq < Q64) :
    Calls Tryd.prog 29 #[.pointer (some ⟨gs, 0, none⟩), .int .i64 now, .int .i64 spi, .int .u64 (seq : Int), .int .i64 n] w fun er w' => er = .returned (.int .i64 ((takeS now spi seq n es).1 : Int)) ∧ SadF F w' gs (takeS now spi seq n es).2 ∧ Keep F w w' := by
  obtain ⟨vl, ls, h1, h2⟩ := h
  refine (take_ref 0 gs vl ls es now spi seq n w h1 hn hc hr hq).mono ?_
  rintro er w' ⟨rfl, hf, ls', hw, hs⟩
  exact ⟨rfl, ⟨vl, ls', hs, h2.nw hF hw⟩, Fr.keep hf h2⟩
theorem send_F (F : Nat → Prop) (gs : Nat) (es : List Ent) (now spi n : Int) (w : World) (h : SadF F w gs es) (hF : ∀ k, F k → k < w.heap.size) (hn : es.length ≤ 1048576) (hc : NowOk now es) (hr : RoomOk n es) :
    Calls Tryd.prog 27 #[.pointer (some ⟨gs, 0, none⟩), .int .i64 now, .int .i64 spi, .int .i64 n] w fun er w' => er = .returned (.tuple #[.agg (sendS now spi n es).1.toArray, .int .u64 ((sendS now spi n es).2.1 : Int), .int .i64 ((sendS now spi n es).2.2.1 : Int)]) ∧ SadF F w' gs (sendS now spi n es).2.2.2 ∧ Keep F w w' := by
  obtain ⟨vl, ls, h1, h2⟩ := h
  refine (send_ref 0 gs vl ls es now spi n w h1 hn hc hr).mono ?_
  rintro er w' ⟨rfl, hf, ls', hw, hs⟩
  exact ⟨rfl, ⟨vl, ls', hs, h2.nw hF hw⟩, Fr.keep hf h2⟩
theorem remove_F (F : Nat → Prop) (gs : Nat) (es : List Ent) (spi : Int) (out : Bool) (w : World) (h : SadF F w gs es) (hF : ∀ k, F k → k < w.heap.size) (hn : es.length ≤ 1048575) :
    Calls Tryd.prog 24 #[.pointer (some ⟨gs, 0, none⟩), .int .i64 spi, .bool out] w fun er w' => er = .returned (.int .i64 ((removeS spi out es).1 : Int)) ∧ SadF F w' gs (removeS spi out es).2 ∧ Keep F w w' := by
  obtain ⟨vl, ls, h1, h2⟩ := h
  refine (remove_ref 0 gs vl ls es spi out w h1 hn).mono ?_
  rintro er w' ⟨rfl, hf, vl', ls', hv, hw, hs⟩
  have o := h2.nw hF hw
  refine ⟨rfl, ⟨vl', ls', hs, ⟨o.s, fun k hk f => ?_, o.l⟩⟩, Fr.keep hf h2⟩
  rcases hv with q | q
  · exact o.v k (q ▸ hk) f
  · have a := q k hk
    have b := hF k f
    omega
end Go.Proofs.YtppnkkpjfjhfkaaDoor.SadF

/- The document's List: the associations' lives, in a row of their own. -/
set_option linter.unusedVariables false
namespace Go.Proofs.YtppnkkpjfjhfkaaDoor.SadL
open Go.RowKit Go.Proofs.YtppnkkpjfjhfkaaDoor.Sums Go.Proofs.YtppnkkpjfjhfkaaDoor.Mem Go.Proofs.YtppnkkpjfjhfkaaDoor.Blk Go.Proofs.YtppnkkpjfjhfkaaDoor.ArgT Go.Proofs.YtppnkkpjfjhfkaaDoor.Longs Go.Proofs.YtppnkkpjfjhfkaaDoor.WinR Go.Proofs.YtppnkkpjfjhfkaaDoor.SadM Go.Proofs.YtppnkkpjfjhfkaaDoor.SadR6 Go.Proofs.YtppnkkpjfjhfkaaDoor.SadR9 Go.Proofs.YtppnkkpjfjhfkaaDoor.SadW Go.Proofs.YtppnkkpjfjhfkaaDoor.SadF Go.Proofs.YtppnkkpjfjhfkaaDoor.RowN Go.Proofs.YtppnkkpjfjhfkaaDoor.RowA

theorem len_life (r : LifeR) : r.cells.length = 12 := rfl
theorem one_life (r : LifeR) : ∀ v ∈ r.cells, v.oneCell' = true := by simp [LifeR.cells, Value.oneCell']
theorem flat_at : ∀ (rs : List LifeR) (i : Nat) (r : LifeR), rs[i]? = some r → ((rs.flatMap LifeR.cells).drop (i * 12)).take 12 = r.cells
  | a :: rs, 0, r, h => by
    obtain rfl : a = r := by simpa using h
    rw [Nat.zero_mul, List.drop_zero, List.flatMap_cons]
    exact List.take_left' (len_life a)
  | a :: rs, i + 1, r, h => by
    rw [List.flatMap_cons, show (i + 1) * 12 = a.cells.length + i * 12 by rw [len_life]; omega, List.drop_length_add_append]
    exact flat_at rs i r (by simpa using h)
/-- Lives that lie in a row of their own. -/
def Lives (w : World) (A : Option Addr) (n c : Nat) (rs : List LifeR) : Prop := rs.length = n ∧ RowX 34 12 w A n c (rs.flatMap LifeR.cells)
theorem Lives.rows {w : World} {A : Option Addr} {n c : Nat} {rs : List LifeR} (h : Lives w A n c rs) (ok : ∀ r ∈ rs, r.ok w) : LifeRows w A n rs := by
  refine ⟨h.1, fun h0 => ?_⟩
  obtain ⟨b, X, rfl, hX, _, _⟩ := h.2.row.some h0
  refine ⟨b, 0, rfl, hX.lt, fun k r hr => ⟨ok r (List.mem_of_getElem? hr), fun j v hj => ?_⟩⟩
  rw [Nat.zero_add]
  refine h.2.row.cell rfl ?_
  rw [← flat_at rs k r hr, List.getElem?_take] at hj
  split at hj
  · rwa [List.getElem?_drop] at hj
  · cases hj

set_option maxRecDepth 100000 in
set_option maxHeartbeats 2000000 in
theorem list_ref (base gs : Nat) (vl : Value) (ls : List Spot) (es : List Ent) (w : World) (h : SadAt w base gs vl ls es) (hn : es.length ≤ 1000000) :
    Calls Tryd.prog 13 #[.pointer (some ⟨gs, 0, none⟩)] w fun er w' => ∃ A c, er = .returned (.slice A es.length c) ∧ Lives w' A es.length c (es.map (·.life)) ∧ (∀ k, own A k → w.heap.size ≤ k) ∧ Below w.heap.size w w' := by
  obtain ⟨A, c, rfl, hA⟩ := h.own.shape
  obtain ⟨n, hn0⟩ : ∃ n, n = es.length := ⟨_, rfl⟩
  have hl : (ls.map (·.g)).length = n := by rw [List.length_map, h.len, hn0]
  rw [hl] at h hA
  rw [← hn0] at hn ⊢
  have H := Lib.hid h
  have HN := Lib.hid hn0
  have c0 : w.cell? ⟨gs, 0, none⟩ = some (.slice A n c) := h.blk.cell 0
  clear h hA hl hn0
  go_enter Tryd.func13, Tryd.ntmps13
  go_wp2_with fail
  go_loopw [3, 4] (fun lv iv wr => ∃ (i : Nat) (A2 : Option Addr) (c2 : Nat), iv = .int .i64 (i : Int) ∧ lv = .slice A2 i c2 ∧ i ≤ n ∧ Hid (RowX 34 12 wr A2 i c2 (((es.map (·.life)).take i).flatMap LifeR.cells) ∧ ∀ k, own A2 k → w.heap.size ≤ k) ∧ Hid (Below w.heap.size w wr)) (fun _ iv _ => n - (intOf iv).toNat)
  case atStart => exact ⟨0, none, 0, rfl, rfl, by omega, Lib.hid ⟨RowX.nil _ _ _, fun k ⟨a, z, _⟩ => by cases z⟩, Lib.hid (Below.refl _ _)⟩
  case round =>
    obtain ⟨i, A2, c2, rfl, rfl, hi, HO, HB⟩ := hrel
    have H2 := H.out.up HB.out
    have c0 : wr.cell? ⟨gs, 0, none⟩ = some (.slice A n c) := H2.blk.cell 0
    by_cases hlt : i < n
    · have he : es[i]? = some (es[i]'(by rw [← HN.out]; exact hlt)) := List.getElem?_eq_getElem _
      have hl : ls[i]? = some (ls[i]'(by rw [H2.len, ← HN.out]; exact hlt)) := List.getElem?_eq_getElem _
      generalize es[i]'(by rw [← HN.out]; exact hlt) = e at he
      generalize ls[i]'(by rw [H2.len, ← HN.out]; exact hlt) = l at hl
      obtain ⟨A', c', hv, hA'⟩ := H2.own.shape
      have hlen : (ls.map (·.g)).length = n := by rw [List.length_map, H2.len, ← HN.out]
      rw [hlen] at hv hA'
      cases hv
      obtain ⟨b, rfl, hc⟩ := hA' (by omega)
      have cp : wr.cell? ⟨b, i, none⟩ = some (.pointer (some ⟨l.g, 0, none⟩)) := hc i l.g (by rw [List.getElem?_map, hl]; rfl)
      have LD := Lib.hid (load_life (H2.ent i l e hl he).1)
      have LK : Hid (((es.map (·.life)).take i).flatMap LifeR.cells ++ e.life.cells = ((es.map (·.life)).take (i + 1)).flatMap LifeR.cells) := Lib.hid (by
        rw [List.take_add_one, List.getElem?_map, he, List.flatMap_append]
        simp)
      generalize l.g = g at *
      clear hc hA' hlen H2 hl he
      generalize e.life = r at *
      obtain ⟨inf, hi1, hz1, hs1, hb1⟩ := info_parts life_info
      have J := Blk.new wr 34 #[.int .i64 r.x0, .string r.x1, .string r.x2, .string r.x3, .bool r.x4, .int .i64 r.x5, .int .i64 r.x6, .bool r.x7, .int .i64 r.x8, .int .i64 r.x9, .int .i64 r.x10, .int .i64 r.x11]
      obtain ⟨A5, c5, w5, hrun, hx5, hA5, hk5, -⟩ := append_row (N := 12) Tryd.underlying39 hi1 hz1 hs1 rfl (by rw [hb1]; decide) (HO.out.1.below ((Below.refl wr.heap.size wr).alloc (Nat.le_refl _) (.cells #[.int .i64 r.x0, .string r.x1, .string r.x2, .string r.x3, .bool r.x4, .int .i64 r.x5, .int .i64 r.x6, .bool r.x7, .int .i64 r.x8, .int .i64 r.x9, .int .i64 r.x10, .int .i64 r.x11] 34))) J rfl (one_life r) (by omega)
      have BW : Hid (Below w.heap.size w w5) := Lib.hid (by
        have hb0 := HB.out.size
        have b1 := HB.out.trans (((Below.refl wr.heap.size wr).alloc (Nat.le_refl _) (.cells #[.int .i64 r.x0, .string r.x1, .string r.x2, .string r.x3, .bool r.x4, .int .i64 r.x5, .int .i64 r.x6, .bool r.x7, .int .i64 r.x8, .int .i64 r.x9, .int .i64 r.x10, .int .i64 r.x11] 34)).mono hb0)
        have b2 := b1.size
        refine ⟨hk5.os.trans b1.os, hk5.tape.trans b1.tape, hk5.output.trans b1.output, Nat.le_trans b2 hk5.size, fun k hk => (hk5.block k (fun z => ?_) (Nat.lt_of_lt_of_le hk b2)).trans (b1.block k hk)⟩
        have := HO.out.2 k z
        omega)
      have OX : Hid (RowX 34 12 w5 A5 (i + 1) c5 (((es.map (·.life)).take (i + 1)).flatMap LifeR.cells) ∧ ∀ k, own A5 k → w.heap.size ≤ k) := Lib.hid ⟨by rw [← LK.out]; exact hx5, fun k hk => by
        rcases hA5 with rfl | ⟨q, rfl, hq⟩
        · exact HO.out.2 k hk
        · obtain ⟨a, ha, hb⟩ := hk
          cases ha
          have hb : q = k := hb
          have := HB.out.size
          simp at hq
          omega⟩
      clear J hx5 hA5 hk5 LK HO HB
      go_wp2_with (first
        | (refine Part.wpList_load_part (by kernel_rfl) 34 (.tmp 23) rfl g 0 [.int .i64 r.x0, .string r.x1, .string r.x2, .string r.x3, .bool r.x4, .int .i64 r.x5, .int .i64 r.x6, .bool r.x7, .int .i64 r.x8, .int .i64 r.x9, .int .i64 r.x10, .int .i64 r.x11] rfl LD.out ?_)
        | (at_builtin; refine Lib.wpList_append_run _ rfl _ _ _ _ rfl _ _ rfl rfl _ _ (hrun _) ?_))
      go_roundw
      case rel => exact ⟨i + 1, A5, c5, by go_num, rfl, by omega, OX, BW⟩
      case measure => simp [intOf]; omega
    · have e : i = n := by omega
      subst e
      have F : Hid ((es.map (·.life)).take i = es.map (·.life)) := Lib.hid (List.take_of_length_le (by rw [List.length_map, ← HN.out]; exact Nat.le_refl _))
      go_wp2_with fail
      go_ret
      exact ⟨A2, c2, rfl, ⟨by rw [List.length_map]; exact HN.out.symm, by rw [← F.out]; exact HO.out.1⟩, HO.out.2, HB.out⟩
end Go.Proofs.YtppnkkpjfjhfkaaDoor.SadL

