/- SplitWhole's walk, given Split's contract. -/
import Derived.Test.YtibfdacgdffpiaaDoorLawAgain19
import Derived.Test.YtibfdacgdffpiaaDoorBytesCode
import Derived.Test.YtibfdacgdffpiaaDoorStore
set_option linter.unusedVariables false
namespace Go.Proofs.YtibfdacgdffpiaaDoor.LawWhole19
open Go.RowKit Go.Sort Go.Proofs.YtibfdacgdffpiaaDoor.Sums Go.Proofs.YtibfdacgdffpiaaDoor.Mem Go.Proofs.YtibfdacgdffpiaaDoor.Blk Go.Proofs.YtibfdacgdffpiaaDoor.Pkt Go.Proofs.YtibfdacgdffpiaaDoor.Check Go.Proofs.YtibfdacgdffpiaaDoor.SplD Go.Proofs.YtibfdacgdffpiaaDoor.SplM Go.Proofs.YtibfdacgdffpiaaDoor.SplN Go.Proofs.YtibfdacgdffpiaaDoor.SplP Go.Proofs.YtibfdacgdffpiaaDoor.Errno Go.Proofs.YtibfdacgdffpiaaDoor.Few19 Go.Proofs.YtibfdacgdffpiaaDoor.LawMany19 Go.Proofs.YtibfdacgdffpiaaDoor.Same Go.Proofs.YtibfdacgdffpiaaDoor.LawAgain19 Go.Proofs.YtibfdacgdffpiaaDoor.BytesCode Go.Proofs.YtibfdacgdffpiaaDoor.Part

def pktA (p : Pkt) (D : Value) : Array Value := #[.int .i64 p.tos, .int .i64 p.id, .int .i64 p.ttl, .int .i64 p.proto, .bool p.df, .bool p.mf, .int .i64 p.off, .string p.src, .string p.dst, .string p.opt, D]
theorem one_pkt (p : Pkt) (A : Option Addr) (n c : Nat) : (pktA p (.slice A n c)).all (·.oneCell') = true := by simp [pktA, Value.oneCell']
attribute [local irreducible] wpList wpQuiet
set_option maxRecDepth 100000 in
set_option maxHeartbeats 2500000 in
theorem whole_any (HS : SplitSpec) (AW : AwakeSpec) (p : Pkt) (A : Option Addr) (n c B : Nat) (l : List Int) (x : Int) (w : World) (hg : Handle w) (h : Holds w B A n c l) (hB : B ≤ w.heap.size) (h1 : p.src.size ≤ 140737488355328) (h2 : p.dst.size ≤ 140737488355328) (h3 : p.opt.size ≤ 140737488355328) (h4 : n ≤ 140737488355328) (hx : -9223372036854775808 ≤ x) (hx2 : x ≤ 9223372036854775807) :
    Calls Tryd.prog 3 #[val p (.slice A n c), .int .i64 x] w fun e w' => e = .returned (.bool true) ∧ Below w.heap.size w w' := by
  have B0 := Lib.hid ((Below.refl w.heap.size w).alloc (Nat.le_refl _) (.cells (pcCells p (.slice A n c)).toArray 24))
  have K0 := Lib.hid (Blk.new w 24 (pcCells p (.slice A n c)).toArray)
  have GH : Hid (∀ W, Below w.heap.size w W → Handle W) := Lib.hid fun W hW => hg.keep hW
  have HH : Hid (∀ W, Below w.heap.size w W → Holds W B A n c l) := Lib.hid fun W hW => h.below (hW.mono hB)
  have LN : Hid (l.length = n) := Lib.hid h.1
  obtain ⟨w0, hw0⟩ : ∃ w0, w0 = w.alloc (.cells (pcCells p (.slice A n c)).toArray 24) := ⟨_, rfl⟩
  have W0 := Lib.hid hw0.symm
  rw [← hw0] at B0 K0
  have FC := Lib.hid (few_any p A n c w0 h1 h2 h3 h4)
  have KP : Hid (∀ W, Below w0.heap.size w0 W → (loadVar 24 ⟨w.heap.size, 0, none⟩).run Tryd.prog W = .ok (.agg (pcCells p (.slice A n c)).toArray) W) := Lib.hid fun W hW => blk_pkt (K0.out.below hW K0.out.lt)
  have KB : Hid (∀ W, Below w0.heap.size w0 W → Blk W w.heap.size 24 (pcCells p (.slice A n c)).toArray) := Lib.hid fun W hW => K0.out.below hW K0.out.lt
  have KC : Hid (∀ W, Below w0.heap.size w0 W → W.cell? ⟨w.heap.size, 6, none⟩ = some (.int .i64 p.off)) := Lib.hid fun W hW => (K0.out.below hW K0.out.lt).cell 6
  have RP := KP.out w0 (Below.refl _ _)
  obtain ⟨fb, hfb⟩ : ∃ fb, fewB p n = fb := ⟨_, rfl⟩
  rw [hfb] at FC
  have FB := Lib.hid hfb
  unfold val at FC ⊢
  clear hw0 h hg hfb K0 KC
  go_enter Tryd.func3, Tryd.ntmps3
  go_wp2_with (refine Part.wpList_load_part rfl 24 (.tmp 2) rfl w.heap.size 0 [.int .i64 p.tos, .int .i64 p.id, .int .i64 p.ttl, .int .i64 p.proto, .bool p.df, .bool p.mf, .int .i64 p.off, .string p.src, .string p.dst, .string p.opt, .slice A n c] rfl (by rw [W0.out]; exact RP) ?_)
  have FC' := FC.out
  rw [← W0.out] at FC'
  refine FC'.mono ?_
  rintro e w1 ⟨rfl, hb⟩
  rw [W0.out] at hb
  have C1 := Lib.hid hb
  have B1 := Lib.hid (B0.out.trans (hb.mono B0.out.size))
  clear FC FC' hb RP
  cases fb with
  | false =>
    clear HS AW
    go_wp2_with fail
    go_ret
    exact ⟨rfl, B1.out⟩
  | true =>
  have few : p.src.size + p.dst.size + p.opt.size ≤ 300 ∧ n ≤ 3000 := by
    have := FB.out
    unfold fewB at this
    simpa using this
  have RP := KP.out w1 C1.out
  obtain ⟨⟨e1, ps⟩, hR1⟩ : ∃ R, splitR p l x = R := ⟨_, rfl⟩
  have SC1 := Lib.hid (HS p A n c B l x w1 (GH.out w1 B1.out) (HH.out w1 B1.out) (Nat.le_trans hB B1.out.size) (by omega) (by omega) hx hx2)
  rw [hR1] at SC1
  have HR1 := Lib.hid hR1
  unfold val at SC1
  have lim := Lib.hid few
  clear hR1 few h1 h2 h3 h4
  go_wp2_with (refine Part.wpList_load_part rfl 24 (.tmp 2) rfl w.heap.size 0 [.int .i64 p.tos, .int .i64 p.id, .int .i64 p.ttl, .int .i64 p.proto, .bool p.df, .bool p.mf, .int .i64 p.off, .string p.src, .string p.dst, .string p.opt, .slice A n c] rfl RP ?_)
  refine SC1.out.mono ?_
  rintro e w3 ⟨⟨v, rfl, hp⟩, hb⟩
  have P3 := Lib.hid hp
  obtain ⟨A2, c2, rfl, -⟩ := hp
  have C3 := Lib.hid (C1.out.trans (hb.mono C1.out.size))
  have B3 := Lib.hid (B1.out.trans (hb.mono B1.out.size))
  clear hb SC1 C1 B1 RP HS
  obtain ⟨k, hk⟩ : ∃ k, ps.length = k := ⟨_, rfl⟩
  have HK := Lib.hid hk
  rw [hk]
  clear hk
  by_cases z : e1 = 0
  · subst z
    have R0 : Hid ((splitR p l x).1 = 0) := Lib.hid (by rw [HR1.out])
    have RS : Hid ((splitR p l x).2 = ps) := Lib.hid (by rw [HR1.out])
    have k0 : 0 < k := by
      have := split_some R0.out
      rwa [RS.out, HK.out] at this
    have KL : k ≤ 5000 := by
      obtain ⟨_, _, _, lat, _, _, e, _⟩ := split_zero R0.out
      rw [RS.out] at e
      have := cuts_len (m := x.toNat) (o := p.opt.size) (lat := lat.size) (n := l.length) (l.length + 1) 0
      have e' : ps.length = _ := congrArg List.length e
      rw [List.length_map, HK.out] at e'
      have := LN.out
      have := lim.out.2
      omega
    go_wp2_with fail
    go_loopw [7, 8] (fun av iv wr => ∃ (i b : Nat) (va : Value), av = va ∧ iv = .int .i64 (i : Int) ∧ i ≤ k ∧ b ≤ l.length ∧ Hid (Owns wr w3.heap.size va b (l.take b)) ∧ Hid ((∀ x, ps[i]? = some x → x.1.off = p.off + (b : Int)) ∧ (i = k → b = l.length)) ∧ Hid (Below w3.heap.size w3 wr)) (fun _ iv _ => k - (intOf iv).toNat)
    case atStart => exact ⟨0, 0, _, rfl, rfl, by omega, Nat.zero_le _, Lib.hid (by simpa using Owns.nil w3 w3.heap.size), Lib.hid ⟨fun x hx => by
      obtain ⟨b, _, _, _, _, ho, _, _, _, _, _, _, _, _, _, _, hfirst, _⟩ := split_at R0.out (i := 0) (x := x) (by rw [RS.out]; exact hx)
      rw [ho, (hfirst rfl).1], fun e => by omega⟩, Lib.hid (Below.refl _ _)⟩
    case round =>
      obtain ⟨i, b, va, rfl, rfl, hi, hbl, HO, HI, HW⟩ := hrel
      obtain ⟨Aa, ca, rfl, -⟩ := HO.out.slice
      have HC := Lib.hid (C3.out.trans (HW.out.mono C3.out.size))
      have HB := Lib.hid (B3.out.trans (HW.out.mono B3.out.size))
      by_cases lt : i < k
      · have hz : ps[i]? = some (ps[i]'(by rw [HK.out]; exact lt)) := List.getElem?_eq_getElem _
        generalize ps[i]'(by rw [HK.out]; exact lt) = z at hz
        obtain ⟨b', kz, hbk, zd, zl, zo, zfit, zv, zn, etos, eid, ettl, eproto, edf, esrc, edst, efirst, way⟩ := split_at R0.out (i := i) (x := z) (by rw [RS.out]; exact hz)
        obtain rfl : b' = b := by
          have := HI.out.1 z hz
          omega
        rw [RS.out, HK.out] at way
        have PW := P3.out.below HW.out
        obtain ⟨A8, c8, e2, hat⟩ := PW
        obtain ⟨bb, oo, A7, c7, e3, hbl2, hcl, hol⟩ := hat i z hz
        injection e2 with e4 e5 e6
        subst e4
        subst e3
        rw [zl] at hcl hol
        have RP : (loadVar 24 ⟨bb, oo + i * 11, none⟩).run Tryd.prog wr = .ok (.agg (pcCells z.1 (.slice A7 kz c7)).toArray) wr := run_part wr bb (oo + i * 11) 24 (pcCells z.1 (.slice A7 kz c7)) _ Tryd.underlying24 rfl (by kernel_rfl) hcl
        have J := Blk.new wr 24 #[.int .i64 0, .int .i64 0, .int .i64 0, .int .i64 0, .bool false, .bool false, .int .i64 0, .string ⟨#[]⟩, .string ⟨#[]⟩, .string ⟨#[]⟩, .slice none 0 0]
        have NK := Lib.hid (setRow_blk J (pktA z.1 (.slice A7 kz c7)))
        have BN := Lib.hid (setRow_bel ((Below.refl wr.heap.size wr).alloc (Nat.le_refl _) (.cells #[.int .i64 0, .int .i64 0, .int .i64 0, .int .i64 0, .bool false, .bool false, .int .i64 0, .string ⟨#[]⟩, .string ⟨#[]⟩, .string ⟨#[]⟩, .slice none 0 0] 24)) (Nat.le_refl _) (pktA z.1 (.slice A7 kz c7)))
        have one := Lib.hid (one_pkt z.1 A7 kz c7)
        obtain ⟨w4, hw4⟩ : ∃ w4, w4 = (wr.alloc (.cells #[.int .i64 0, .int .i64 0, .int .i64 0, .int .i64 0, .bool false, .bool false, .int .i64 0, .string ⟨#[]⟩, .string ⟨#[]⟩, .string ⟨#[]⟩, .slice none 0 0] 24)).setRow wr.heap.size (pktA z.1 (.slice A7 kz c7)) := ⟨_, rfl⟩
        have W4 := Lib.hid hw4.symm
        rw [← hw4] at NK BN
        clear hw4
        have HL4 := Lib.hid ((hol.below BN.out).more BN.out.size)
        have O4 := Lib.hid (HO.out.below BN.out (Nat.le_refl _))
        have C4 := Lib.hid (HC.out.trans (BN.out.mono HC.out.size))
        have X4 := Lib.hid (HW.out.trans (BN.out.mono HW.out.size))
        have B4 := Lib.hid (HB.out.trans (BN.out.mono HB.out.size))
        have RP9 : (loadVar 24 ⟨wr.heap.size, 0, none⟩).run Tryd.prog w4 = .ok (.agg (pcCells z.1 (.slice A7 kz c7)).toArray) w4 := blk_pkt NK.out
        have BC := Lib.hid (bytes_ok z.1 A7 kz c7 z.2 w4 (GH.out w4 B4.out) w4.heap.size HL4.out (Nat.le_refl _) zv zn)
        obtain ⟨bl, hbl9⟩ : ∃ bl, 20 + z.1.opt.size + kz = bl := ⟨_, rfl⟩
        rw [hbl9] at BC
        have k9 : decide (x < (bl : Int)) = false := decide_eq_false (by omega)
        unfold val at BC
        obtain ⟨fo, hfo⟩ : ∃ fo, p.off + (b' : Int) = fo := ⟨_, rfl⟩
        have pv := (split_zero R0.out).1
        have f1 : IntKind.i64.wrap (p.off + (b' : Int)) = fo := by
          have := pv.o0
          have := pv.o1
          have := LN.out
          have := lim.out.2
          rw [IntWalk.i64_in _ (by omega)]
          exact hfo
        rw [hfo] at zo
        obtain ⟨k1, hk1⟩ : ∃ k1, k1 = k - 1 := ⟨_, rfl⟩
        have f2 : IntKind.i64.wrap ((k : Int) - 1) = (k1 : Int) := by rw [IntWalk.i64_in _ (by omega)]; omega
        have f3 : (k : Int) - 1 = (k1 : Int) := by omega
        have HK1 := Lib.hid hk1
        clear hk1
        have BIG : Hid (b' + kz ≤ 1048576) := Lib.hid (by have := LN.out; have := lim.out.2; omega)
        have BK : Hid (b' + kz ≤ l.length) := Lib.hid hbk
        have ZD := Lib.hid zd
        have EQ := Lib.hid (And.intro etos (And.intro eid (And.intro ettl (And.intro eproto (And.intro edf (And.intro esrc (And.intro edst zo)))))))
        have WAY := Lib.hid way
        clear etos eid ettl eproto edf esrc edst zo hfo way
        clear zv zn zfit hbl9 hol hat hcl hz e5 e6 pv efirst zd zl hbk hbl HO HI HC HB HW BN
        go_wp2_with (first
          | (refine Store.at_load 24 (.tmp 38) ?_ ?_; exact rfl; refine Part.wpList_load_part rfl 24 (.tmp 38) rfl bb (oo + i * 11) [.int .i64 z.1.tos, .int .i64 z.1.id, .int .i64 z.1.ttl, .int .i64 z.1.proto, .bool z.1.df, .bool z.1.mf, .int .i64 z.1.off, .string z.1.src, .string z.1.dst, .string z.1.opt, .slice A7 kz c7] rfl RP ?_)
          | (refine Store.at_store 24 (.tmp 9) (.tmp 39) ?_ ?_; exact rfl; refine wpList_store_row rfl 24 (.tmp 9) (.tmp 39) rfl wr.heap.size (pktA z.1 (.slice A7 kz c7)) rfl rfl 24 _ J (by kernel_rfl) rfl one.out ?_; rw [W4.out]; clear J RP)
          | (refine Store.at_load 24 (.tmp 9) ?_ ?_; exact rfl; refine Part.wpList_load_part rfl 24 (.tmp 9) rfl wr.heap.size 0 [.int .i64 z.1.tos, .int .i64 z.1.id, .int .i64 z.1.ttl, .int .i64 z.1.proto, .bool z.1.df, .bool z.1.mf, .int .i64 z.1.off, .string z.1.src, .string z.1.dst, .string z.1.opt, .slice A7 kz c7] rfl RP9 ?_))
        refine BC.out.mono ?_
        rintro e w5 ⟨v, rfl, ho5, hb5⟩
        obtain ⟨A9, c9, rfl, -⟩ := ho5.slice
        obtain ⟨etos, eid, ettl, eproto, edf, esrc, edst, zo⟩ := EQ.out
        have K5 := NK.out.below hb5 NK.out.lt
        have KB5 := KB.out w5 (C4.out.trans (hb5.mono C4.out.size))
        have O5 := Lib.hid (O4.out.below hb5 (Nat.le_refl _))
        have HL5 := Lib.hid ((HL4.out.below hb5).more hb5.size)
        have W5 := Lib.hid (X4.out.trans (hb5.mono X4.out.size))
        have S5 : Hid (w3.heap.size ≤ w5.heap.size) := Lib.hid W5.out.size
        have t0 : w5.cell? ⟨w.heap.size, 0, none⟩ = some (.int .i64 p.tos) := KB5.cell 0
        have t1 : w5.cell? ⟨w.heap.size, 1, none⟩ = some (.int .i64 p.id) := KB5.cell 1
        have t2 : w5.cell? ⟨w.heap.size, 2, none⟩ = some (.int .i64 p.ttl) := KB5.cell 2
        have t3 : w5.cell? ⟨w.heap.size, 3, none⟩ = some (.int .i64 p.proto) := KB5.cell 3
        have t4 : w5.cell? ⟨w.heap.size, 4, none⟩ = some (.bool p.df) := KB5.cell 4
        have t5 : w5.cell? ⟨w.heap.size, 5, none⟩ = some (.bool p.mf) := KB5.cell 5
        have t6 : w5.cell? ⟨w.heap.size, 6, none⟩ = some (.int .i64 p.off) := KB5.cell 6
        have t7 : w5.cell? ⟨w.heap.size, 7, none⟩ = some (.string p.src) := KB5.cell 7
        have t8 : w5.cell? ⟨w.heap.size, 8, none⟩ = some (.string p.dst) := KB5.cell 8
        have q0 : w5.cell? ⟨wr.heap.size, 0, none⟩ = some (.int .i64 p.tos) := by rw [← etos]; exact K5.cell 0
        have q1 : w5.cell? ⟨wr.heap.size, 1, none⟩ = some (.int .i64 p.id) := by rw [← eid]; exact K5.cell 1
        have q2 : w5.cell? ⟨wr.heap.size, 2, none⟩ = some (.int .i64 p.ttl) := by rw [← ettl]; exact K5.cell 2
        have q3 : w5.cell? ⟨wr.heap.size, 3, none⟩ = some (.int .i64 p.proto) := by rw [← eproto]; exact K5.cell 3
        have q4 : w5.cell? ⟨wr.heap.size, 4, none⟩ = some (.bool p.df) := by rw [← edf]; exact K5.cell 4
        have q7 : w5.cell? ⟨wr.heap.size, 7, none⟩ = some (.string p.src) := by rw [← esrc]; exact K5.cell 7
        have q8 : w5.cell? ⟨wr.heap.size, 8, none⟩ = some (.string p.dst) := by rw [← edst]; exact K5.cell 8
        have q6 : w5.cell? ⟨wr.heap.size, 6, none⟩ = some (.int .i64 fo) := by rw [← zo]; exact K5.cell 6
        have q10 : w5.cell? ⟨wr.heap.size, 10, none⟩ = some (.slice A7 kz c7) := K5.cell 10
        have n1 : (p.id != p.id) = false := by simp
        have n2 : (p.ttl != p.ttl) = false := by simp
        have n3 : (p.proto != p.proto) = false := by simp
        have n4 : (p.tos != p.tos) = false := by simp
        have n5 : (p.df != p.df) = false := by simp
        have n6 : (fo != fo) = false := by simp
        have n7 : (p.src.toList == p.src.toList) = true := by simp
        have n8 : (p.dst.toList == p.dst.toList) = true := by simp
        clear ho5 hb5 KB5 BC NK HL4 O4 C4 X4 B4 RP9 etos eid ettl eproto edf esrc edst zo EQ
        rcases WAY.out with ⟨i1, k8, k88, emf, y, hy, hyo⟩ | ⟨i1, bk, emf⟩
        · skip
          have g1 : ((i : Int) == (k1 : Int)) = false := by have := HK1.out; rw [beq_eq_false_iff_ne]; omega
          have q5 : w5.cell? ⟨wr.heap.size, 5, none⟩ = some (.bool true) := by rw [← emf]; exact K5.cell 5
          have g2 : (kz : Int).tmod 8 = 0 := by rw [Int.tmod_eq_emod_of_nonneg (by omega)]; omega
          have g3 : ((kz : Int) == 0) = false := by rw [beq_eq_false_iff_ne]; omega
          have HN : Hid ((∀ x, ps[i + 1]? = some x → x.1.off = p.off + ((b' + kz : Nat) : Int)) ∧ (i + 1 = k → b' + kz = l.length)) := Lib.hid ⟨fun x hx => by
            rw [← Option.some.inj (hy.symm.trans hx)]
            exact hyo, fun e => by omega⟩
          clear K5 emf k8 k88 hy hyo i1 WAY
          go_wp2_with (at_builtin; refine wpList_append_bytes rfl (.tmp 147) (.tmp 149) rfl w3.heap.size (.slice Aa b' ca) b' (l.take b') rfl O5.out w5.heap.size A7 kz c7 z.2 rfl HL5.out BIG.out S5.out ?_; intro v7 w7 ho7 hgr7 hown7)
          have O7 : Hid (Owns w7 w3.heap.size v7 (b' + kz) (l.take (b' + kz))) := Lib.hid (by rw [List.take_add, ← ZD.out]; exact ho7)
          have W7 := Lib.hid (W5.out.grown hgr7 S5.out (fun k hk => (O5.out.lt k hk).1))
          clear ho7 hgr7 hown7 t0 q0 t1 q1 t2 q2 t3 q3 t4 q4 t5 q5 t6 q6 t7 q7 t8 q8 g1 g2 O5 HL5 W5 S5 BIG
          go_roundw
          case rel => exact ⟨i + 1, b' + kz, v7, rfl, by go_num, by omega, BK.out, O7, HN, W7⟩
          case measure => simp [intOf]; omega
        · skip
          have g1 : ((i : Int) == (k1 : Int)) = true := by have := HK1.out; rw [beq_iff_eq]; omega
          have q5 : w5.cell? ⟨wr.heap.size, 5, none⟩ = some (.bool p.mf) := by rw [← emf]; exact K5.cell 5
          have g2 : (p.mf != p.mf) = false := by simp
          have HN : Hid ((∀ x, ps[i + 1]? = some x → x.1.off = p.off + ((b' + kz : Nat) : Int)) ∧ (i + 1 = k → b' + kz = l.length)) := Lib.hid ⟨fun x hx => by
            have := (List.getElem?_eq_some_iff.1 hx).1
            have := HK.out
            omega, fun _ => bk⟩
          clear K5 emf bk i1 WAY
          go_wp2_with (at_builtin; refine wpList_append_bytes rfl (.tmp 147) (.tmp 149) rfl w3.heap.size (.slice Aa b' ca) b' (l.take b') rfl O5.out w5.heap.size A7 kz c7 z.2 rfl HL5.out BIG.out S5.out ?_; intro v7 w7 ho7 hgr7 hown7)
          have O7 : Hid (Owns w7 w3.heap.size v7 (b' + kz) (l.take (b' + kz))) := Lib.hid (by rw [List.take_add, ← ZD.out]; exact ho7)
          have W7 := Lib.hid (W5.out.grown hgr7 S5.out (fun k hk => (O5.out.lt k hk).1))
          clear ho7 hgr7 hown7 t0 q0 t1 q1 t2 q2 t3 q3 t4 q4 t5 q5 t6 q6 t7 q7 t8 q8 g1 g2 O5 HL5 W5 S5 BIG
          go_roundw
          case rel => exact ⟨i + 1, b' + kz, v7, rfl, by go_num, by omega, BK.out, O7, HN, W7⟩
          case measure => simp [intOf]; omega
      · obtain rfl : i = k := by omega
        have hbe := HI.out.2 rfl
        have HO2 := HO.out
        rw [List.take_of_length_le (by omega)] at HO2
        have HA := HO2.holds
        have HD := HH.out wr HB.out
        have hz : ps[0]? = some (ps[0]'(by rw [HK.out]; exact k0)) := List.getElem?_eq_getElem _
        generalize ps[0]'(by rw [HK.out]; exact k0) = z at hz
        obtain ⟨_, _, _, _, _, _, _, _, _, _, _, _, _, _, _, _, efirst, _⟩ := split_at R0.out (i := 0) (x := z) (by rw [RS.out]; exact hz)
        have eo := (efirst rfl).2
        obtain ⟨A8, c8, e2, hat⟩ := P3.out.below HW.out
        obtain ⟨bb, oo, A7, c7, e3, _, hcl, _⟩ := hat 0 z hz
        injection e2 with e4 e5 e6
        subst e4
        subst e3
        have KB5 := KB.out wr HC.out
        have CV1 : ∀ d os, (convert 22 9 (.slice Aa b ca)).run Tryd.prog (grow (redrawn wr d) os) = .ok (.string (strOfNums l)) (grow (redrawn wr d) os) := fun d os => run_string_bytes (HA.below (below_regrown wr d os))
        have CV2 : ∀ d os, (convert 22 9 (.slice A n c)).run Tryd.prog (grow (redrawn wr d) os) = .ok (.string (strOfNums l)) (grow (redrawn wr d) os) := fun d os => run_string_bytes (HD.below ((below_regrown wr d os).mono (Nat.le_trans hB HB.out.size)))
        have AQ := Lib.hid (fun d os => AW (grow (redrawn wr d) os) (GH.out _ (HB.out.trans ((below_regrown wr d os).mono HB.out.size))))
        have r9 : ∀ d os, (grow (redrawn wr d) os).cell? ⟨bb, oo + 9, none⟩ = some (.string p.opt) := fun d os => cell_regrown (by rw [← eo]; simpa using hcl 9 _ rfl) d os
        have t9 : ∀ d os, (grow (redrawn wr d) os).cell? ⟨w.heap.size, 9, none⟩ = some (.string p.opt) := fun d os => cell_regrown (KB5.cell 9) d os
        have t10 : ∀ d os, (grow (redrawn wr d) os).cell? ⟨w.heap.size, 10, none⟩ = some (.slice A n c) := fun d os => cell_regrown (KB5.cell 10) d os
        have g1 : decide ((1 : Int) ≤ (i : Int)) = true := decide_eq_true (by omega)
        have g1' : decide (1 ≤ i) = true := decide_eq_true k0
        have g1'' : decide ((i : Int) ≥ 1) = true := decide_eq_true (by omega)
        have g2 : ((strOfNums l).toList == (strOfNums l).toList) = true := by simp
        have g3 : (p.opt.toList == p.opt.toList) = true := by simp
        have nl : ¬ ((i : Int) < (i : Int)) := by omega
        have z0 : 0 < i := k0
        clear HO HI HO2 HA HD hz efirst eo hcl hat KB5 hbe HW e5 e6
        go_wp2_with fail
        refine wp_region_quiet_below (by kernel_rfl) (by kernel_rfl) ?_
        repeat (go_big_quiet_step (with_reducible exact Calls.regrown_of (AQ.out _ _)))
        refine wpQuiet_nil ?_
        intro _ hw'
        obtain ⟨⟨dq, osq⟩, hw''⟩ := hw'
        subst hw''
        have B9 := Lib.hid (HB.out.trans ((below_regrown wr dq osq).mono HB.out.size))
        clear CV1 CV2 AQ r9 t9 t10
        generalize grow (redrawn wr dq) osq = w9 at *
        go_wp2_with fail
        go_ret
        exact ⟨rfl, B9.out⟩
  · have g0 : (e1 != 0) = true := by rw [bne_iff_ne]; exact z
    have AQ := Lib.hid (AW w3 (GH.out w3 B3.out))
    have kz : k = 0 := by
      have := split_none (p := p) (l := l) (mtu := x) (by rw [HR1.out]; exact z)
      rw [HR1.out] at this
      rw [← HK.out, show ps = [] from this]
      rfl
    subst kz
    clear AW P3 z
    go_wp2_with fail
    refine AQ.out.mono ?_
    rintro e w4 ⟨rfl, hb4⟩
    have B4 := Lib.hid (B3.out.trans (hb4.mono B3.out.size))
    clear hb4 AQ
    go_wp2_with fail
    go_ret
    exact ⟨rfl, B4.out⟩
end Go.Proofs.YtibfdacgdffpiaaDoor.LawWhole19
