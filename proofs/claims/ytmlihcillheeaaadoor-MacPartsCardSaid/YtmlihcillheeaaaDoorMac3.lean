/- Contracts of the code: Full, Tag. -/
import Derived.Test.YtmlihcillheeaaaDoorMac2
set_option linter.unusedVariables false
namespace Go.Proofs.YtmlihcillheeaaaDoor.Mac3
open Go.RowKit Go.PlainAid Go.Proofs.YtmlihcillheeaaaDoor.Sums Go.Proofs.YtmlihcillheeaaaDoor.Mem Go.Proofs.YtmlihcillheeaaaDoor.Blk Go.Proofs.YtmlihcillheeaaaDoor.Bits3 Go.Proofs.YtmlihcillheeaaaDoor.Ints Go.Proofs.YtmlihcillheeaaaDoor.Both Go.Proofs.YtmlihcillheeaaaDoor.CutA Go.Proofs.YtmlihcillheeaaaDoor.ShaD Go.Proofs.YtmlihcillheeaaaDoor.ShaO Go.Proofs.YtmlihcillheeaaaDoor.Dig1 Go.Proofs.YtmlihcillheeaaaDoor.Dig9 Go.Proofs.YtmlihcillheeaaaDoor.DigA Go.Proofs.YtmlihcillheeaaaDoor.MacD Go.Proofs.YtmlihcillheeaaaDoor.Mac1 Go.Proofs.YtmlihcillheeaaaDoor.Mac2

theorem sl_info : (Tryd.prog.info? 22).map (fun i => (i.zero, i.size, i.bytes)) = some (some (.slice none 0 0), 1, 24) := by kernel_rfl
def rval (r : Row) : Value := .slice r.A r.n r.c
theorem all_below {w w' : World} {B b : Nat} {rs : List Row} (h : All w B b rs) (hb : Below B w w') : All w' B b rs :=
  ⟨h.1, fun k r hk => ⟨(hb.cell (p := ⟨b, k, none⟩) h.1).trans (h.2 k r hk).1, (h.2 k r hk).2.below hb⟩⟩
theorem all_more {w : World} {B B' b : Nat} {rs : List Row} (h : All w B b rs) (hb : B ≤ B') : All w B' b rs :=
  ⟨Nat.lt_of_lt_of_le h.1 hb, fun k r hk => ⟨(h.2 k r hk).1, (h.2 k r hk).2.more hb⟩⟩
theorem rval_cell {w : World} {B b : Nat} {rs : List Row} (h : All w B b rs) : ∀ j u, (rs.map rval)[j]? = some u → w.cell? ⟨b, j, none⟩ = some u := by
  intro j u hu
  rw [List.getElem?_map, Option.map_eq_some_iff] at hu
  obtain ⟨r, hr, rfl⟩ := hu
  exact (h.2 j r hr).1
/-- A row of one row, and the rows of another one put behind it. -/
theorem wpList_one_rows {w : World} {ops : Array Oper} {rest : List Oper} {o : Oper} {a : Act} {Q : Exit → Act → World → Prop} (hgd : o.guard = none) (s x : Operand)
    (ho : o.op = .call { callee := .builtin .append, args := #[s, x], argTypes := #[35, 35] })
    (r : Row) (B g : Nat) (hg : w.heap.size = g) (hB : B ≤ g) (hr : Holds w B r.A r.n r.c r.l) (hs : a.eval s = .slice (some ⟨g, 0, none⟩) 1 1) (b m c : Nat) (rs : List Row) (hx : a.eval x = .slice (some ⟨b, 0, none⟩) m c) (ha : All w B b rs) (hm : rs.length = m) (hm1 : 1 ≤ m) (hm2 : m ≤ 1000)
    (K : ∀ (g' cap : Nat) w', All w' w'.heap.size g' (r :: rs) → Below g w w' → wpList Tryd.prog ops Q rest (a.put o.dst (.slice (some ⟨g', 0, none⟩) (1 + m) cap)) w') : wpList Tryd.prog ops Q (o :: rest) a (w.alloc (.cells #[rval r] 22)) := by
  refine wpList_plain hgd fun K' hK' => ?_
  subst hg
  obtain ⟨i, hi, hz, hsz, hby⟩ := info_parts sl_info
  have B1 := (Below.refl w.heap.size w).alloc (Nat.le_refl _) (.cells #[rval r] 22)
  have own : (w.alloc (.cells #[rval r] 22)).ownsRow w.heap.size 22 1 (.slice (some ⟨w.heap.size, 0, none⟩) 1 1) 1 [rval r] :=
    World.ownsRow_lit (base := w.heap.size) (e := 22) (size := 1) w #[rval r] 1 (Nat.le_refl _) (by simp only [maxLen]; omega) rfl
  have hA := all_below (all_more ha hB) B1
  refine Go.wp_append_lies (w := w.alloc (.cells #[rval r] 22)) s x 35 ho w.heap.size 22 i (.slice none 0 0) 1 24 Tryd.underlying35 hi hz hsz hby rfl (by decide) _ 1 [rval r] hs own ⟨b, 0, none⟩ m c (rs.map rval) hx (by simp [hm])
    (fun j u hu => by rw [add_plain, Nat.zero_add]; exact rval_cell hA j u hu) (fun u hu => ?_) (by omega) (by simp only [maxLen]; omega) (by omega) (by simp) _ rfl fun g' cap w' ow gr at_ hg' => ?_
  · obtain ⟨q, _, rfl⟩ := List.mem_map.1 hu
    rfl
  · have gb : Below w.heap.size w w' := B1.grown gr (by simp) fun k hk => by
      have e : some w.heap.size = some k := hk
      injection e with e
      omega
    refine hK' _ _ (K g' cap w' ⟨hg', fun k q hq => ⟨?_, ?_⟩⟩ gb)
    · have hq' : ([rval r] ++ rs.map rval)[k]? = some (rval q) := by
        have e : [rval r] ++ rs.map rval = (r :: rs).map rval := rfl
        rw [e, List.getElem?_map, hq]; rfl
      have := ow.cells (g := g') rfl k (rval q) hq'
      rw [add_plain] at this
      show w'.cell? ⟨g', k, none⟩ = some (rval q)
      simpa using this
    · rcases k with _ | k
      · have e : r = q := by simpa using hq
        subst e
        exact (((hr.more hB).below gb)).more gb.size
      · have hq' : rs[k]? = some q := by simpa using hq
        exact (((ha.2 k q hq').2.more hB).below gb).more gb.size

set_option maxHeartbeats 1000000 in
set_option maxRecDepth 100000 in
theorem full_any (A : Option Addr) (n c : Nat) (ks : List Int) (b m c2 : Nat) (rs : List Row) (w : World) (B : Nat) (h : Holds w B A n c ks) (ha : All w B b rs) (hB : B ≤ w.heap.size) (hm : rs.length = m) (hm1 : 1 ≤ m) (hm2 : m ≤ 1000) (hn : n ≤ 1000000) (ht : total rs ≤ 900000) (hT : Tab w) :
    Calls Tryd.prog 8 #[.slice A n c, .slice (some ⟨b, 0, none⟩) m c2] w fun e w' => ∃ v, e = .returned v ∧ Owns w' w.heap.size v 32 (ints (full (nats ks) (nats (flat rs)))) ∧ Below w.heap.size w w' := by
  have C := Lib.hid (masked_any A n c ks w B h hB hn hT)
  have KB : Hid (Byt (kOf (nats ks))) := Lib.hid (kOf_byt (nats_lt fun z hz => h.2.2.2.1 z hz))
  have FE : Hid (full (nats ks) (nats (flat rs)) = digest (withK (kOf (nats ks)) 92 ++ digest (withK (kOf (nats ks)) 54 ++ nats (flat rs)))) := Lib.hid rfl
  obtain ⟨F, hF⟩ : ∃ F, F = full (nats ks) (nats (flat rs)) := ⟨_, rfl⟩
  rw [← hF] at FE ⊢
  obtain ⟨KK, hKK⟩ : ∃ KK, KK = kOf (nats ks) := ⟨_, rfl⟩
  have KL : Hid (KK.length ≤ 64) := Lib.hid (by rw [hKK]; exact kOf_len)
  rw [← hKK] at C KB FE
  have HA := Lib.hid ha
  have HM := Lib.hid hm
  have HT := Lib.hid hT
  have TT := Lib.hid ht
  have HBB := Lib.hid hB
  have KY : Hid (∀ (g x : Nat) (W : World), x < 256 → Blk W g 43 (bcells (padK KK)) → Calls Tryd.prog 21 #[.int .u8 (x : Int), .pointer (some ⟨g, 0, none⟩)] W fun e w' => ∃ A' c', e = .returned (.slice A' 64 c') ∧ Holds w' w'.heap.size A' 64 c' (ints (withK KK x)) ∧ Below W.heap.size W w') := Lib.hid fun g x W hx hb => by
    refine (keyed_no g (padK KK) x hx (padK_len KL.out) (padK_byt KB.out) W hb).mono ?_
    rintro e w' ⟨v, rfl, o, hb⟩
    rw [unl_pad KL.out] at o
    obtain ⟨A', c', rfl, hh⟩ := o.slice
    exact ⟨A', c', rfl, hh, hb⟩
  have FL : Hid ((flat rs).length = total rs) := Lib.hid (flat_len fun r hr => by
    obtain ⟨k, hk⟩ := List.getElem?_of_mem hr
    exact (ha.2 k r hk).2.1)
  clear h ha hm hT ht hF hKK hB
  go_enter Tryd.func8, Tryd.ntmps8
  go_wp2_with fail
  refine C.out.mono ?_
  rintro e w1 ⟨g, rfl, hg, hk, hb⟩
  have B1 := Lib.hid hb
  have HK1 := Lib.hid hk
  have GL := Lib.hid (Blk.lt hk)
  have GS := Lib.hid hg
  have C1 := Lib.hid (KY.out g 54 w1 (by decide) hk)
  clear hg hk hb C
  go_wp2_with fail
  refine C1.out.mono ?_
  rintro e w2 ⟨A2, k2, rfl, h2, hb⟩
  have H2 := Lib.hid h2
  have B2 := Lib.hid (B1.out.trans (hb.mono B1.out.size))
  have HK2 := Lib.hid (Blk.below HK1.out hb GL.out)
  have HA2 : Hid (All w2 w2.heap.size b rs) := Lib.hid (all_more (all_below HA.out (B2.out.mono HBB.out)) (Nat.le_trans HBB.out B2.out.size))
  have G2 := Lib.hid (Nat.lt_of_lt_of_le GL.out hb.size)
  clear h2 hb C1 HK1 GL HA
  go_wp2_with (at_builtin
               refine wpList_one_rows rfl (.tmp 11) (.tmp 12) rfl ⟨A2, 64, k2, ints (withK KK 54)⟩ w2.heap.size w2.heap.size rfl (Nat.le_refl _) H2.out rfl b m c2 rs rfl HA2.out HM.out hm1 hm2 ?_
               intro g4 cap4 w4 a4 b4)
  have A4 := Lib.hid a4
  have B4 := Lib.hid (B2.out.trans (b4.mono B2.out.size))
  have HK4 := Lib.hid (Blk.below HK2.out b4 G2.out)
  have G4 := Lib.hid (Nat.lt_of_lt_of_le G2.out b4.size)
  have C4 := Lib.hid (KY.out g 92 w4 (by decide) HK4.out)
  clear a4 b4 HA2 HK2 G2 H2
  go_wp2_with fail
  refine C4.out.mono ?_
  rintro e w5 ⟨A5, k5, rfl, h5, hb⟩
  have H5 := Lib.hid h5
  have B5 := Lib.hid (B4.out.trans (hb.mono B4.out.size))
  have A5' := Lib.hid (all_more (all_below A4.out hb) hb.size)
  have FF : Hid (flat (⟨A2, 64, k2, ints (withK KK 54)⟩ :: rs) = ints (withK KK 54) ++ flat rs ∧ total (⟨A2, 64, k2, ints (withK KK 54)⟩ :: rs) = 64 + total rs) := Lib.hid ⟨rfl, rfl⟩
  have C5 := Lib.hid (of_no (some ⟨g4, 0, none⟩) (1 + m) cap4 (⟨A2, 64, k2, ints (withK KK 54)⟩ :: rs) w5 w5.heap.size (.inr ⟨g4, rfl, A5'.out⟩) (by rw [List.length_cons, HM.out]; omega) (Nat.le_refl _) (by omega) (by rw [FF.out.1, FF.out.2, List.length_append, FL.out, ShaO.ints_len, withK_len]) (by rw [FF.out.2]; have := TT.out; omega) (HT.out.up B5.out))
  rw [FF.out.1, Dig9.nats_app, nats_ints] at C5
  obtain ⟨I, hI⟩ : ∃ I, I = digest (withK KK 54 ++ nats (flat rs)) := ⟨_, rfl⟩
  rw [← hI] at C5 FE
  clear h5 hb C4 HK4 G4 A4 A5' FF hI
  go_wp2_with fail
  refine C5.out.mono ?_
  rintro e w6 ⟨v6, rfl, o6, hb⟩
  obtain ⟨A6, k6, rfl, h6⟩ := o6.slice
  have H6 := Lib.hid h6
  have H56 := Lib.hid ((H5.out.below hb).more hb.size)
  have B6 := Lib.hid (B5.out.trans (hb.mono B5.out.size))
  have DE : nats (flat [⟨A5, 64, k5, ints (withK KK 92)⟩, ⟨A6, 32, k6, ints I⟩]) = withK KK 92 ++ I := by
    have e : flat [⟨A5, 64, k5, ints (withK KK 92)⟩, ⟨A6, 32, k6, ints I⟩] = ints (withK KK 92 ++ I) := by rw [ShaO.ints_app]; simp [flat]
    rw [e, nats_ints]
  have C6 := Lib.hid (of_lit (w := w6) (Nat.le_refl _) [⟨A5, 64, k5, ints (withK KK 92)⟩, ⟨A6, 32, k6, ints I⟩] #[.slice A5 64 k5, .slice A6 32 k6] rfl (mem2 H56.out H6.out) w6.heap.size 2 rfl rfl (by decide) (by show 64 + (32 + 0) ≤ 1048576; decide) (HT.out.up B6.out) _ DE)
  rw [← FE.out] at C6
  clear o6 h6 hb C5 H5 DE
  go_wp2_with fail
  refine C6.out.mono ?_
  rintro e w7 ⟨A7, k7, rfl, o7, hb⟩
  have O7 := Lib.hid (o7.mono B6.out.size)
  have B7 := Lib.hid (B6.out.trans (hb.mono B6.out.size))
  clear o7 hb C6
  go_wp2_with fail
  go_ret
  exact ⟨_, rfl, O7.out, B7.out⟩

theorem tag_no (A : Option Addr) (n c : Nat) (v : Value) (w : World) (hn : n ≠ 32) (h3 : n ≤ 140737488355328) :
    Calls Tryd.prog 9 #[.slice A n c, v] w fun e w' => e = .returned (.tuple #[.slice none 0 0, .int .i64 1]) ∧ w = w' := by
  have g : ((n : Int) != 32) = true := by rw [bne_iff_ne]; omega
  clear hn
  go_enter Tryd.func9, Tryd.ntmps9
  go_wp2_with fail
  go_ret2
  exact ⟨rfl, rfl⟩
set_option maxHeartbeats 1000000 in
theorem tag_yes (A : Option Addr) (c : Nat) (ks : List Int) (b m c2 : Nat) (rs : List Row) (w : World) (B : Nat) (h : Holds w B A 32 c ks) (ha : All w B b rs) (hB : B ≤ w.heap.size) (hm : rs.length = m) (hm1 : 1 ≤ m) (hm2 : m ≤ 1000) (ht : total rs ≤ 900000) (hT : Tab w) :
    Calls Tryd.prog 9 #[.slice A 32 c, .slice (some ⟨b, 0, none⟩) m c2] w fun e w' => ∃ A' c', e = .returned (.tuple #[.slice A' 16 c', .int .i64 0]) ∧ Holds w' w'.heap.size A' 16 c' (ints ((full (nats ks) (nats (flat rs))).take 16)) ∧ Below w.heap.size w w' := by
  have C := Lib.hid (full_any A 32 c ks b m c2 rs w B h ha hB hm hm1 hm2 (by decide) ht hT)
  generalize full (nats ks) (nats (flat rs)) = F at *
  clear h ha
  go_enter Tryd.func9, Tryd.ntmps9
  go_wp2_with fail
  refine C.out.mono ?_
  rintro e w1 ⟨v, rfl, o, hb⟩
  obtain ⟨A1, c1, rfl, h1⟩ := o.slice
  obtain ⟨g, rfl, _, _⟩ := o.form (by decide)
  have hc := h1.2.1
  have HU := Lib.hid (h1.upto (k := 16) (by decide))
  have HC : Hid (Holds w1 w1.heap.size (some ⟨g, 0, none⟩) 16 16 (ints (F.take 16))) := Lib.hid (by
    have q := HU.out
    rw [← ShaO.ints_take] at q
    exact ⟨q.1, Nat.le_refl _, by simp only [maxLen]; omega, q.2.2.2.1, q.2.2.2.2⟩)
  have BF := Lib.hid hb
  clear o h1 hb C HU
  go_wp2_with fail
  go_ret2
  exact ⟨_, _, rfl, HC.out, BF.out⟩
end Go.Proofs.YtmlihcillheeaaaDoor.Mac3
