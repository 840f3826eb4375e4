/- The contract of header: the head's bytes, with the addresses and the options behind its numbers. -/
import Derived.Test.YtibfdacgdffpiaaDoorHead
import Derived.Test.YtibfdacgdffpiaaDoorSteps
namespace Go.Proofs.YtibfdacgdffpiaaDoor.Head
open Go.RowKit Go.Proofs.YtibfdacgdffpiaaDoor.Sums Go.Proofs.YtibfdacgdffpiaaDoor.Mem Go.Proofs.YtibfdacgdffpiaaDoor.Blk Go.Proofs.YtibfdacgdffpiaaDoor.Bits Go.Proofs.YtibfdacgdffpiaaDoor.Pkt Go.Proofs.YtibfdacgdffpiaaDoor.Check Go.Proofs.YtibfdacgdffpiaaDoor.Lay Go.Proofs.YtibfdacgdffpiaaDoor.Free Go.Proofs.YtibfdacgdffpiaaDoor.Steps

theorem ent_bytes : Enters Tryd.prog 26 := enters_of Tryd.func26 (by kernel_rfl) rfl

theorem own_other {w : World} {base n q : Nat} {v : Value} {l : List Int} {t : TypeId} {cs : Array Value} (h : Owns w base v n l) (hq : Blk w q t cs) (ht : t ≠ 5) : v.ownBlock ≠ some q := by
  rcases h.2.2 with ⟨rfl, _⟩ | ⟨g, cap, cur, fz, rfl, _, hg, _⟩
  · simp [Value.ownBlock]
  · intro e
    have : g = q := by simpa [Value.ownBlock] using e
    subst this
    unfold Blk at hq
    rw [hg] at hq
    injection hq with e
    injection e with _ e _
    exact ht e.symm

theorem field7 (g : Nat) (w : World) : (Instr.fieldAt 24 (.pointer (some ⟨g, 0, none⟩)) 7).run Tryd.prog w = .ok (.pointer (some ⟨g, 7, none⟩)) w := by kernel_rfl

theorem header_any (z0 z1 z2 z3 z4 z5 z6 z7 : Int) (tos id ttl proto off : Int) (df mf : Bool) (src dst opt : ByteArray) (D : Value) (w : World)
    (l0 : 0 ≤ z0) (h0 : z0 ≤ 255) (l1 : 0 ≤ z1) (h1 : z1 ≤ 255) (l2 : 0 ≤ z2) (h2 : z2 ≤ 65535) (l3 : 0 ≤ z3) (h3 : z3 ≤ 65535) (l4 : 0 ≤ z4) (h4 : z4 ≤ 65535) (l5 : 0 ≤ z5) (h5 : z5 ≤ 255) (l6 : 0 ≤ z6) (h6 : z6 ≤ 255) (l7 : 0 ≤ z7) (h7 : z7 ≤ 65535) (hsz : src.size + dst.size + opt.size ≤ 1000) :
    Calls Tryd.prog 18 #[.agg #[.int .i64 z0, .int .i64 z1, .int .i64 z2, .int .i64 z3, .int .i64 z4, .int .i64 z5, .int .i64 z6, .int .i64 z7], .agg #[.int .i64 tos, .int .i64 id, .int .i64 ttl, .int .i64 proto, .bool df, .bool mf, .int .i64 off, .string src, .string dst, .string opt, D]] w fun e w' =>
      ∃ v, e = .returned v ∧ Owns w' w.heap.size v (12 + src.size + dst.size + opt.size) (numsOf z0 z1 z2 z3 z4 z5 z6 z7 ++ nums src ++ nums dst ++ nums opt) ∧ Below w.heap.size w w' := by
  go_enter Tryd.func18, Tryd.ntmps18
  go_wp2_with fail
  have B0 := Lib.hid (show Below w.heap.size w ((w.alloc (.cells #[.int .i64 z0, .int .i64 z1, .int .i64 z2, .int .i64 z3, .int .i64 z4, .int .i64 z5, .int .i64 z6, .int .i64 z7] 43)).alloc (.cells #[.int .i64 tos, .int .i64 id, .int .i64 ttl, .int .i64 proto, .bool df, .bool mf, .int .i64 off, .string src, .string dst, .string opt, D] 24)) from ((Below.refl _ _).alloc (Nat.le_refl _) _).alloc (by simp) _)
  have H0 := Lib.hid ((Blk.new w 43 #[.int .i64 z0, .int .i64 z1, .int .i64 z2, .int .i64 z3, .int .i64 z4, .int .i64 z5, .int .i64 z6, .int .i64 z7]).alloc (.cells #[.int .i64 tos, .int .i64 id, .int .i64 ttl, .int .i64 proto, .bool df, .bool mf, .int .i64 off, .string src, .string dst, .string opt, D] 24))
  have P0 : Hid (Blk ((w.alloc (.cells #[.int .i64 z0, .int .i64 z1, .int .i64 z2, .int .i64 z3, .int .i64 z4, .int .i64 z5, .int .i64 z6, .int .i64 z7] 43)).alloc (.cells #[.int .i64 tos, .int .i64 id, .int .i64 ttl, .int .i64 proto, .bool df, .bool mf, .int .i64 off, .string src, .string dst, .string opt, D] 24)) (w.heap.size + 1) 24 #[.int .i64 tos, .int .i64 id, .int .i64 ttl, .int .i64 proto, .bool df, .bool mf, .int .i64 off, .string src, .string dst, .string opt, D]) :=
    Lib.hid (by simpa using Blk.new (w.alloc (.cells #[.int .i64 z0, .int .i64 z1, .int .i64 z2, .int .i64 z3, .int .i64 z4, .int .i64 z5, .int .i64 z6, .int .i64 z7] 43)) 24 #[.int .i64 tos, .int .i64 id, .int .i64 ttl, .int .i64 proto, .bool df, .bool mf, .int .i64 off, .string src, .string dst, .string opt, D])
  generalize hW0 : (w.alloc (.cells #[.int .i64 z0, .int .i64 z1, .int .i64 z2, .int .i64 z3, .int .i64 z4, .int .i64 z5, .int .i64 z6, .int .i64 z7] 43)).alloc (.cells #[.int .i64 tos, .int .i64 id, .int .i64 ttl, .int .i64 proto, .bool df, .bool mf, .int .i64 off, .string src, .string dst, .string opt, D] 24) = W0 at *
  clear hW0
  have hs0 := B0.out.size
  refine wp_region_free [0, 1, 2] 3 [4] (fun w1 w2 => Below w1.heap.size w1 w2) (fun k w' v => match k with
    | 0 => Owns w' w.heap.size v 12 (numsOf z0 z1 z2 z3 z4 z5 z6 z7)
    | 1 => v = .pointer (some ⟨w.heap.size + 1, 7, none⟩)
    | _ => v = .string src) (by kernel_rfl) (by kernel_rfl) (Below.refl _ _) (fun _ _ _ h k => h.trans (k.mono h.size)) (fun k w1 w2 v h => match k with
    | 0 => fun o => Owns.below o h (Nat.le_refl _)
    | 1 => fun x => x
    | _ + 2 => fun x => x) (fun _ _ _ _ _ h => h) ?_ _ (by rfl) ?_
  · refine obs_cons (by rfl) (fun vals w' hgr hdep K hK => ?_) (obs_cons (by rfl) (fun vals w' hgr hdep K hK => ?_) (obs_cons (by rfl) (fun vals w' hgr hdep K hK => ?_) obs_nil))
    · exact wp_call 26 [.tmp 2] _ rfl ent_bytes [.pointer (some ⟨w.heap.size, 0, none⟩)] rfl _ ((bytes_any w.heap.size z0 z1 z2 z3 z4 z5 z6 z7 w' _ (H0.out.drew.below hgr H0.out.lt) l0 h0 l1 h1 l2 h2 l3 h3 l4 h4 l5 h5 l6 h6 l7 h7).mono fun e w'' ⟨v, he, ho, hb⟩ => ⟨v, he, (⟨ho, hb⟩ : Owns w'' w'.heap.size v 12 (numsOf z0 z1 z2 z3 z4 z5 z6 z7) ∧ Below w'.heap.size w' w'')⟩)
        fun v w'' ⟨ho, hb⟩ => hK v w'' hb (ho.mono (Nat.le_trans hs0 hgr.size))
    · exact wp_field (.tmp 3) rfl (.pointer (some ⟨w.heap.size + 1, 0, none⟩)) (.pointer (some ⟨w.heap.size + 1, 7, none⟩)) rfl (field7 (w.heap.size + 1) w') (hK _ _ (Below.refl _ _) rfl)
    · have h1 : vals 1 = .pointer (some ⟨w.heap.size + 1, 7, none⟩) := hdep 1 (by simp) (by kernel_rfl)
      have hc : w'.cell? ⟨w.heap.size + 1, 7, none⟩ = some (.string src) := ((P0.out.drew.below hgr P0.out.lt).cell 7).trans rfl
      exact wp_load1 (.tmp 7) rfl ⟨w.heap.size + 1, 7, none⟩ h1 Tryd.underlying9 rfl (.string src) hc (hK _ _ (Below.refl _ _) rfl)
  · intro vals w' hgr hG
    have o0 : Owns w' w.heap.size (vals 0) 12 (numsOf z0 z1 z2 z3 z4 z5 z6 z7) := hG 0 (by simp)
    have h2 : vals 2 = .string src := hG 2 (by simp)
    refine wp_append_text (.tmp 6) (.tmp 8) rfl w.heap.size (vals 0) 12 _ rfl o0 src h2 (by omega) (Nat.le_trans hs0 hgr.size) fun v1 w1 o1 g1 => ?_
    refine wpAnyH_assign (u := 4) (.tmp 9) v1 (by rfl) (by rfl) (by rfl) (by kernel_rfl) trivial (by rfl) ?_
    simp only [fill, dstAt, List.getElem?_cons_zero, List.getElem?_cons_succ, Option.bind_some, Act.put, List.setIfInBounds_toArray, List.set_cons_zero, List.set_cons_succ]
    clear hG
    obtain ⟨b1, _⟩ : Below w.heap.size w w1 ∧ True := ⟨((B0.out.drew.trans (hgr.mono hs0))).grown g1 (Nat.le_trans hs0 hgr.size) fun k hk => (o0.lt k hk).1, trivial⟩
    have hp1 : Blk w1 (w.heap.size + 1) 24 #[.int .i64 tos, .int .i64 id, .int .i64 ttl, .int .i64 proto, .bool df, .bool mf, .int .i64 off, .string src, .string dst, .string opt, D] :=
      ((P0.out.drew.below hgr P0.out.lt)).grown g1 (fun e => own_other o0 (P0.out.drew.below hgr P0.out.lt) (by decide) e.symm)
    have c8 : w1.cell? ⟨w.heap.size + 1, 8, none⟩ = some (.string dst) := (hp1.cell 8).trans rfl
    have HP := Lib.hid hp1
    have HB := Lib.hid b1
    have hbs := b1.size
    clear hp1 b1
    go_wp2_with (first
      | (at_builtin
         refine wpList_append_text rfl (.tmp 10) (.tmp 12) rfl w.heap.size v1 _ _ rfl o1 dst rfl (by omega) hbs ?_
         intro v2 w2 o2 g2
         have hp2 := HP.out.grown g2 (fun e => own_other o1 HP.out (by decide) e.symm)
         have c9 : w2.cell? ⟨w.heap.size + 1, 9, none⟩ = some (.string opt) := (hp2.cell 9).trans rfl
         have hbs2 := g2.size)
      | (at_builtin
         refine wpList_append_text rfl (.tmp 14) (.tmp 16) rfl w.heap.size v2 _ _ rfl o2 opt rfl (by omega) (by omega) ?_
         intro v3 w3 o3 g3))
    go_ret
    exact ⟨_, rfl, o3, (HB.out.grown g2 hbs fun k hk => (o1.lt k hk).1).grown g3 (by omega) fun k hk => (o2.lt k hk).1⟩
end Go.Proofs.YtibfdacgdffpiaaDoor.Head
