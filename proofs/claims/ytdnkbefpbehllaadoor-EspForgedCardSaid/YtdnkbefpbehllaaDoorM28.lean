/- Contracts of the code: Full, Tag. -/
import Derived.Test.YtdnkbefpbehllaaDoorM27
import Derived.Test.YtdnkbefpbehllaaDoorM22
import Derived.Test.YtdnkbefpbehllaaDoorM04
import Derived.Lib.SlBytesConst
set_option linter.unusedVariables false
namespace Go.Proofs.YtdnkbefpbehllaaDoor.Mac3
open Go.RowKit Go.PlainAid Go.Proofs.YtdnkbefpbehllaaDoor.Sums Go.Proofs.YtdnkbefpbehllaaDoor.Mem Go.Proofs.YtdnkbefpbehllaaDoor.Blk Go.Proofs.YtdnkbefpbehllaaDoor.Bits3 Go.Proofs.YtdnkbefpbehllaaDoor.Ints Go.Proofs.YtdnkbefpbehllaaDoor.Both Go.Proofs.YtdnkbefpbehllaaDoor.CutA Go.Proofs.YtdnkbefpbehllaaDoor.ShaD Go.Proofs.YtdnkbefpbehllaaDoor.ShaO Go.Proofs.YtdnkbefpbehllaaDoor.Dig1 Go.Proofs.YtdnkbefpbehllaaDoor.Dig9 Go.Proofs.YtdnkbefpbehllaaDoor.DigA Go.Proofs.YtdnkbefpbehllaaDoor.MacD Go.Proofs.YtdnkbefpbehllaaDoor.Mac1 Go.Proofs.YtdnkbefpbehllaaDoor.Mac2

theorem sl_info : (Tryd.prog.info? 25).map (fun i => (i.zero, i.size, i.bytes)) = some (some (.slice none 0 0), 1, 24) := by kernel_rfl
def rval (r : Row) : Value := .slice r.A r.n r.c
theorem all_below {w w' : World} {B b : Nat} {rs : List Row} (h : All w B b rs) (hb : Below B w w') : All w' B b rs :=
  ⟨h.1, fun k r hk => ⟨(hb.cell (p := ⟨b, k, none⟩) h.1).trans (h.2 k r hk).1, (h.2 k r hk).2.below hb⟩⟩
theorem all_more {w : World} {B B' b : Nat} {rs : List Row} (h : All w B b rs) (hb : B ≤ B') : All w B' b rs :=
  ⟨Nat.lt_of_lt_of_le h.1 hb, fun k r hk => ⟨(h.2 k r hk).1, (h.2 k r hk).2.more hb⟩⟩
theorem rval_cell {w : World} {B b : Nat} {rs : List Row} (h : All w B b rs) : ∀ j u, (rs.map rval)[j]? = some u → w.cell? ⟨b, j, none⟩ = some u := by
  intro j u hu
  rw [List.getElem?_map, Option.map_eq_some_iff] at hu
  obtain ⟨r, hr, rfl⟩ := hu
  exact (h.2 j r hr).1
/-- A row of one row, and the rows of another one put behind it. -/
theorem wpList_one_rows {w : World} {ops : Array Oper} {rest : List Oper} {o : Oper} {a : Act} {Q : Exit → Act → World → Prop} (hgd : o.guard = none) (s x : Operand)
    (ho : o.op = .call { callee := .builtin .append, args := #[s, x], argTypes := #[60, 60] })
    (r : Row) (B g : Nat) (hg : w.heap.size = g) (hB : B ≤ g) (hr : Holds w B r.A r.n r.c r.l) (hs : a.eval s = .slice (some ⟨g, 0, none⟩) 1 1) (b m c : Nat) (rs : List Row) (hx : a.eval x = .slice (some ⟨b, 0, none⟩) m c) (ha : All w B b rs) (hm : rs.length = m) (hm1 : 1 ≤ m) (hm2 : m ≤ 1000)
    (K : ∀ (g' cap : Nat) w', All w' w'.heap.size g' (r :: rs) → Below g w w' → wpList Tryd.prog ops Q rest (a.put o.dst (.slice (some ⟨g', 0, none⟩) (1 + m) cap)) w') : wpList Tryd.prog ops Q (o :: rest) a (w.alloc (.cells #[rval r] 25)) := by
  refine wpList_plain hgd fun K' hK' => ?_
  subst hg
  obtain ⟨i, hi, hz, hsz, hby⟩ := info_parts sl_info
  have B1 := (Below.refl w.heap.size w).alloc (Nat.le_refl _) (.cells #[rval r] 25)
  have own : (w.alloc (.cells #[rval r] 25)).ownsRow w.heap.size 25 1 (.slice (some ⟨w.heap.size, 0, none⟩) 1 1) 1 [rval r] :=
    World.ownsRow_lit (base := w.heap.size) (e := 25) (size := 1) w #[rval r] 1 (Nat.le_refl _) (by simp only [maxLen]; omega) rfl
  have hA := all_below (all_more ha hB) B1
  refine Go.wp_append_lies (w := w.alloc (.cells #[rval r] 25)) s x 60 ho w.heap.size 25 i (.slice none 0 0) 1 24 Tryd.underlying60 hi hz hsz hby rfl (by decide) _ 1 [rval r] hs own ⟨b, 0, none⟩ m c (rs.map rval) hx (by simp [hm])
    (fun j u hu => by rw [add_plain, Nat.zero_add]; exact rval_cell hA j u hu) (fun u hu => ?_) (by omega) (by simp only [maxLen]; omega) (by omega) (by simp) _ rfl fun g' cap w' ow gr at_ hg' => ?_
  · obtain ⟨q, _, rfl⟩ := List.mem_map.1 hu
    rfl
  · have gb : Below w.heap.size w w' := B1.grown gr (by simp) fun k hk => by
      have e : some w.heap.size = some k := hk
      injection e with e
      omega
    refine hK' _ _ (K g' cap w' ⟨hg', fun k q hq => ⟨?_, ?_⟩⟩ gb)
    · have hq' : ([rval r] ++ rs.map rval)[k]? = some (rval q) := by
        have e : [rval r] ++ rs.map rval = (r :: rs).map rval := rfl
        rw [e, List.getElem?_map, hq]; rfl
      have := ow.cells (g := g') rfl k (rval q) hq'
      rw [add_plain] at this
      show w'.cell? ⟨g', k, none⟩ = some (rval q)
      simpa using this
    · rcases k with _ | k
      · have e : r = q := by simpa using hq
        subst e
        exact (((hr.more hB).below gb)).more gb.size
      · have hq' : rs[k]? = some q := by simpa using hq
        exact (((ha.2 k q hq').2.more hB).below gb).more gb.size

set_option maxHeartbeats 1000000 in
set_option maxRecDepth 100000 in
theorem full_any (A : Option Addr) (n c : Nat) (ks : List Int) (b m c2 : Nat) (rs : List Row) (w : World) (B : Nat) (h : Holds w B A n c ks) (ha : All w B b rs) (hB : B ≤ w.heap.size) (hm : rs.length = m) (hm1 : 1 ≤ m) (hm2 : m ≤ 1000) (hn : n ≤ 1000000) (ht : total rs ≤ 900000) (hT : Tab w) :
    Calls Tryd.prog 38 #[.slice A n c, .slice (some ⟨b, 0, none⟩) m c2] w fun e w' => ∃ v, e = .returned v ∧ Owns w' w.heap.size v 32 (ints (full (nats ks) (nats (flat rs)))) ∧ Below w.heap.size w w' := by
  have C := Lib.hid (masked_any A n c ks w B h hB hn hT)
  have KB : Hid (Byt (kOf (nats ks))) := Lib.hid (kOf_byt (nats_lt fun z hz => h.2.2.2.1 z hz))
  have FE : Hid (full (nats ks) (nats (flat rs)) = digest (withK (kOf (nats ks)) 92 ++ digest (withK (kOf (nats ks)) 54 ++ nats (flat rs)))) := Lib.hid rfl
  obtain ⟨F, hF⟩ : ∃ F, F = full (nats ks) (nats (flat rs)) := ⟨_, rfl⟩
  rw [← hF] at FE ⊢
  obtain ⟨KK, hKK⟩ : ∃ KK, KK = kOf (nats ks) := ⟨_, rfl⟩
  have KL : Hid (KK.length ≤ 64) := Lib.hid (by rw [hKK]; exact kOf_len)
  rw [← hKK] at C KB FE
  have HA := Lib.hid ha
  have HM := Lib.hid hm
  have HT := Lib.hid hT
  have TT := Lib.hid ht
  have HBB := Lib.hid hB
  have KY : Hid (∀ (g x : Nat) (W : World), x < 256 → Blk W g 93 (bcells (padK KK)) → Calls Tryd.prog 48 #[.int .u8 (x : Int), .pointer (some ⟨g, 0, none⟩)] W fun e w' => ∃ A' c', e = .returned (.slice A' 64 c') ∧ Holds w' w'.heap.size A' 64 c' (ints (withK KK x)) ∧ Below W.heap.size W w') := Lib.hid fun g x W hx hb => by
    refine (keyed_no g (padK KK) x hx (padK_len KL.out) (padK_byt KB.out) W hb).mono ?_
    rintro e w' ⟨v, rfl, o, hb⟩
    rw [unl_pad KL.out] at o
    obtain ⟨A', c', rfl, hh⟩ := o.slice
    exact ⟨A', c', rfl, hh, hb⟩
  have FL : Hid ((flat rs).length = total rs) := Lib.hid (flat_len fun r hr => by
    obtain ⟨k, hk⟩ := List.getElem?_of_mem hr
    exact (ha.2 k r hk).2.1)
  clear h ha hm hT ht hF hKK hB
  go_enter Tryd.func38, Tryd.ntmps38
  go_wp2_with fail
  refine C.out.mono ?_
  rintro e w1 ⟨g, rfl, hg, hk, hb⟩
  have B1 := Lib.hid hb
  have HK1 := Lib.hid hk
  have GL := Lib.hid (Blk.lt hk)
  have GS := Lib.hid hg
  have C1 := Lib.hid (KY.out g 54 w1 (by decide) hk)
  clear hg hk hb C
  go_wp2_with fail
  refine C1.out.mono ?_
  rintro e w2 ⟨A2, k2, rfl, h2, hb⟩
  have H2 := Lib.hid h2
  have B2 := Lib.hid (B1.out.trans (hb.mono B1.out.size))
  have HK2 := Lib.hid (Blk.below HK1.out hb GL.out)
  have HA2 : Hid (All w2 w2.heap.size b rs) := Lib.hid (all_more (all_below HA.out (B2.out.mono HBB.out)) (Nat.le_trans HBB.out B2.out.size))
  have G2 := Lib.hid (Nat.lt_of_lt_of_le GL.out hb.size)
  clear h2 hb C1 HK1 GL HA
  go_wp2_with (at_builtin
               refine wpList_one_rows rfl (.tmp 11) (.tmp 12) rfl ⟨A2, 64, k2, ints (withK KK 54)⟩ w2.heap.size w2.heap.size rfl (Nat.le_refl _) H2.out rfl b m c2 rs rfl HA2.out HM.out hm1 hm2 ?_
               intro g4 cap4 w4 a4 b4)
  have A4 := Lib.hid a4
  have B4 := Lib.hid (B2.out.trans (b4.mono B2.out.size))
  have HK4 := Lib.hid (Blk.below HK2.out b4 G2.out)
  have G4 := Lib.hid (Nat.lt_of_lt_of_le G2.out b4.size)
  have C4 := Lib.hid (KY.out g 92 w4 (by decide) HK4.out)
  clear a4 b4 HA2 HK2 G2 H2
  go_wp2_with fail
  refine C4.out.mono ?_
  rintro e w5 ⟨A5, k5, rfl, h5, hb⟩
  have H5 := Lib.hid h5
  have B5 := Lib.hid (B4.out.trans (hb.mono B4.out.size))
  have A5' := Lib.hid (all_more (all_below A4.out hb) hb.size)
  have FF : Hid (flat (⟨A2, 64, k2, ints (withK KK 54)⟩ :: rs) = ints (withK KK 54) ++ flat rs ∧ total (⟨A2, 64, k2, ints (withK KK 54)⟩ :: rs) = 64 + total rs) := Lib.hid ⟨rfl, rfl⟩
  have C5 := Lib.hid (of_no (some ⟨g4, 0, none⟩) (1 + m) cap4 (⟨A2, 64, k2, ints (withK KK 54)⟩ :: rs) w5 w5.heap.size (.inr ⟨g4, rfl, A5'.out⟩) (by rw [List.length_cons, HM.out]; omega) (Nat.le_refl _) (by omega) (by rw [FF.out.1, FF.out.2, List.length_append, FL.out, ShaO.ints_len, withK_len]) (by rw [FF.out.2]; have := TT.out; omega) (HT.out.up B5.out))
  rw [FF.out.1, Dig9.nats_app, nats_ints] at C5
  obtain ⟨I, hI⟩ : ∃ I, I = digest (withK KK 54 ++ nats (flat rs)) := ⟨_, rfl⟩
  rw [← hI] at C5 FE
  clear h5 hb C4 HK4 G4 A4 A5' FF hI
  go_wp2_with fail
  refine C5.out.mono ?_
  rintro e w6 ⟨v6, rfl, o6, hb⟩
  obtain ⟨A6, k6, rfl, h6⟩ := o6.slice
  have H6 := Lib.hid h6
  have H56 := Lib.hid ((H5.out.below hb).more hb.size)
  have B6 := Lib.hid (B5.out.trans (hb.mono B5.out.size))
  have DE : nats (flat [⟨A5, 64, k5, ints (withK KK 92)⟩, ⟨A6, 32, k6, ints I⟩]) = withK KK 92 ++ I := by
    have e : flat [⟨A5, 64, k5, ints (withK KK 92)⟩, ⟨A6, 32, k6, ints I⟩] = ints (withK KK 92 ++ I) := by rw [ShaO.ints_app]; simp [flat]
    rw [e, nats_ints]
  have C6 := Lib.hid (of_lit (w := w6) (Nat.le_refl _) [⟨A5, 64, k5, ints (withK KK 92)⟩, ⟨A6, 32, k6, ints I⟩] #[.slice A5 64 k5, .slice A6 32 k6] rfl (mem2 H56.out H6.out) w6.heap.size 2 rfl rfl (by decide) (by show 64 + (32 + 0) ≤ 1048576; decide) (HT.out.up B6.out) _ DE)
  rw [← FE.out] at C6
  clear o6 h6 hb C5 H5 DE
  go_wp2_with fail
  refine C6.out.mono ?_
  rintro e w7 ⟨A7, k7, rfl, o7, hb⟩
  have O7 := Lib.hid (o7.mono B6.out.size)
  have B7 := Lib.hid (B6.out.trans (hb.mono B6.out.size))
  clear o7 hb C6
  go_wp2_with fail
  go_ret
  exact ⟨_, rfl, O7.out, B7.out⟩

theorem tag_no (A : Option Addr) (n c : Nat) (v : Value) (w : World) (hn : n ≠ 32) (h3 : n ≤ 140737488355328) :
    Calls Tryd.prog 31 #[.slice A n c, v] w fun e w' => e = .returned (.tuple #[.slice none 0 0, .int .i64 1]) ∧ w = w' := by
  have g : ((n : Int) != 32) = true := by rw [bne_iff_ne]; omega
  clear hn
  go_enter Tryd.func31, Tryd.ntmps31
  go_wp2_with fail
  go_ret2
  exact ⟨rfl, rfl⟩
set_option maxHeartbeats 1000000 in
theorem tag_yes (A : Option Addr) (c : Nat) (ks : List Int) (b m c2 : Nat) (rs : List Row) (w : World) (B : Nat) (h : Holds w B A 32 c ks) (ha : All w B b rs) (hB : B ≤ w.heap.size) (hm : rs.length = m) (hm1 : 1 ≤ m) (hm2 : m ≤ 1000) (ht : total rs ≤ 900000) (hT : Tab w) :
    Calls Tryd.prog 31 #[.slice A 32 c, .slice (some ⟨b, 0, none⟩) m c2] w fun e w' => ∃ A' c', e = .returned (.tuple #[.slice A' 16 c', .int .i64 0]) ∧ Holds w' w'.heap.size A' 16 c' (ints ((full (nats ks) (nats (flat rs))).take 16)) ∧ Below w.heap.size w w' := by
  have C := Lib.hid (full_any A 32 c ks b m c2 rs w B h ha hB hm hm1 hm2 (by decide) ht hT)
  generalize full (nats ks) (nats (flat rs)) = F at *
  clear h ha
  go_enter Tryd.func31, Tryd.ntmps31
  go_wp2_with fail
  refine C.out.mono ?_
  rintro e w1 ⟨v, rfl, o, hb⟩
  obtain ⟨A1, c1, rfl, h1⟩ := o.slice
  obtain ⟨g, rfl, _, _⟩ := o.form (by decide)
  have hc := h1.2.1
  have HU := Lib.hid (h1.upto (k := 16) (by decide))
  have HC : Hid (Holds w1 w1.heap.size (some ⟨g, 0, none⟩) 16 16 (ints (F.take 16))) := Lib.hid (by
    have q := HU.out
    rw [← ShaO.ints_take] at q
    exact ⟨q.1, Nat.le_refl _, by simp only [maxLen]; omega, q.2.2.2.1, q.2.2.2.2⟩)
  have BF := Lib.hid hb
  clear o h1 hb C HU
  go_wp2_with fail
  go_ret2
  exact ⟨_, _, rfl, HC.out, BF.out⟩
end Go.Proofs.YtdnkbefpbehllaaDoor.Mac3

/- The contract of the code's Same. -/
set_option linter.unusedVariables false
namespace Go.Proofs.YtdnkbefpbehllaaDoor.Mac4
open Go.RowKit Go.PlainAid Go.Proofs.YtdnkbefpbehllaaDoor.Sums Go.Proofs.YtdnkbefpbehllaaDoor.Mem Go.Proofs.YtdnkbefpbehllaaDoor.Blk Go.Proofs.YtdnkbefpbehllaaDoor.Bits Go.Proofs.YtdnkbefpbehllaaDoor.Bits3 Go.Proofs.YtdnkbefpbehllaaDoor.Ints

theorem u8_or {a b : Nat} (h1 : a < 256) (h2 : b < 256) : bits .or .u8 (a : Int) (b : Int) = ((a ||| b : Nat) : Int) := by
  have n8 : ∀ c : Nat, c < 256 → (BitVec.ofInt 8 (c : Int)).toNat = c := fun c hc => by rw [BitVec.toNat_ofInt]; simp; omega
  show IntKind.u8.wrap ((BitVec.ofInt 8 (a : Int) ||| BitVec.ofInt 8 (b : Int)).toNat : Int) = _
  rw [BitVec.toNat_or, n8 a h1, n8 b h2, IntKind.wrap_u8]
  have : a ||| b < 2 ^ 8 := Nat.or_lt_two_pow (by omega) (by omega)
  omega
theorem or_zero {a b : Nat} : a ||| b = 0 ↔ a = 0 ∧ b = 0 := by
  constructor
  · intro h
    have h1 : a ≤ a ||| b := Nat.left_le_or
    have h2 : b ≤ a ||| b := Nat.right_le_or
    omega
  · rintro ⟨rfl, rfl⟩; rfl
theorem xor_zero {a b : Nat} : a ^^^ b = 0 ↔ a = b := by
  constructor
  · intro h
    have : (a ^^^ b) ^^^ b = 0 ^^^ b := by rw [h]
    rwa [Nat.xor_assoc, Nat.xor_self, Nat.xor_zero, Nat.zero_xor] at this
  · rintro rfl; exact Nat.xor_self a
theorem nats_byt' {l : List Int} (h : Bytes l) (j : Nat) : (nats l).getD j 0 < 256 := by
  rw [List.getD_eq_getElem?_getD]
  cases e : (nats l)[j]? with
  | none => decide
  | some z => exact nats_lt (fun z hz => h z hz) z (List.mem_of_getElem? e)
theorem take_next {a b : List Int} {j : Nat} (ha : j < a.length) (hb : j < b.length) : (a.take (j + 1) = b.take (j + 1)) ↔ (a.take j = b.take j ∧ a.getD j 0 = b.getD j 0) := by
  have e : ∀ (l : List Int), j < l.length → l.take (j + 1) = l.take j ++ [l.getD j 0] := fun l h => by
    rw [List.take_add_one, List.getD_eq_getElem?_getD, List.getElem?_eq_getElem h]; rfl
  rw [e a ha, e b hb]
  constructor
  · intro h
    have := List.append_inj' h rfl
    exact ⟨this.1, by injection this.2⟩
  · rintro ⟨h1, h2⟩
    rw [h1, h2]

set_option maxHeartbeats 1000000 in
theorem same_any (A : Option Addr) (n c : Nat) (l : List Int) (A2 : Option Addr) (n2 c2 : Nat) (l2 : List Int) (w : World) (B : Nat) (h : Holds w B A n c l) (h2 : Holds w B A2 n2 c2 l2) (hn : n ≤ 1000000) (hn2 : n2 ≤ 1000000) :
    Calls Tryd.prog 13 #[.slice A n c, .slice A2 n2 c2] w fun e w' => e = .returned (.bool (decide (l = l2))) ∧ w = w' := by
  by_cases hq : n = n2
  · subst hq
    have L1 := Lib.hid h.1
    have L2 := Lib.hid h2.1
    obtain ⟨r, hr⟩ : ∃ r : Bool, r = decide (l = l2) := ⟨_, rfl⟩
    have RE := Lib.hid hr
    rw [← hr]
    have g : ((n : Int) != (n : Int)) = false := by simp
    have C1 : Hid (∀ j, j < n → ∃ b o, A = some ⟨b, o, none⟩ ∧ w.cell? ⟨b, o + j, none⟩ = some (.int .u8 (((nats l).getD j 0 : Nat) : Int)) ∧ (nats l).getD j 0 < 256 ∧ l.getD j 0 = (((nats l).getD j 0 : Nat) : Int)) := Lib.hid fun j hj => by
      obtain ⟨b, o, rfl, _, _⟩ := h.2.2.2.2 (by omega)
      have := cell_getD h j hj
      rw [nats_getD h.2.2.2.1 j] at this
      exact ⟨b, o, rfl, this, nats_byt' h.2.2.2.1 j, nats_getD h.2.2.2.1 j⟩
    have C2 : Hid (∀ j, j < n → ∃ b o, A2 = some ⟨b, o, none⟩ ∧ w.cell? ⟨b, o + j, none⟩ = some (.int .u8 (((nats l2).getD j 0 : Nat) : Int)) ∧ (nats l2).getD j 0 < 256 ∧ l2.getD j 0 = (((nats l2).getD j 0 : Nat) : Int)) := Lib.hid fun j hj => by
      obtain ⟨b, o, rfl, _, _⟩ := h2.2.2.2.2 (by omega)
      have := cell_getD h2 j hj
      rw [nats_getD h2.2.2.2.1 j] at this
      exact ⟨b, o, rfl, this, nats_byt' h2.2.2.2.1 j, nats_getD h2.2.2.2.1 j⟩
    clear h h2 hr
    go_enter Tryd.func13, Tryd.ntmps13
    go_wp2_with fail
    go_loopw [5, 15] (fun dv kv wr => ∃ j d : Nat, kv = .int .i64 (j : Int) ∧ dv = .int .u8 (d : Int) ∧ j ≤ n ∧ d < 256 ∧ Hid (d = 0 ↔ l.take j = l2.take j) ∧ Hid (w = wr)) (fun _ kv _ => n - (intOf kv).toNat)
    case atStart => exact ⟨0, 0, rfl, rfl, by omega, by decide, Lib.hid (by simp), Lib.hid (by trivial)⟩
    case round =>
      obtain ⟨j, d, rfl, rfl, hj, hd, HD, HW⟩ := hrel
      obtain rfl := HW.out
      by_cases hlt : j < n
      · obtain ⟨b1, o1, rfl, k1, x1, y1⟩ := C1.out j hlt
        obtain ⟨b2, o2, rfl, k2, x2, y2⟩ := C2.out j hlt
        have TN := Lib.hid (take_next (a := l) (b := l2) (j := j) (by rw [L1.out]; exact hlt) (by rw [L2.out]; exact hlt))
        rw [y1, y2] at TN
        clear y1 y2
        generalize (nats l).getD j 0 = x at *
        generalize (nats l2).getD j 0 = y at *
        have e1 : bits .xor .u8 (x : Int) (y : Int) = ((x ^^^ y : Nat) : Int) := Bits3.u8_xor x1 x2
        have xb : x ^^^ y < 256 := Nat.xor_lt_two_pow (n := 8) x1 x2
        have e2 : bits .or .u8 (d : Int) ((x ^^^ y : Nat) : Int) = ((d ||| (x ^^^ y) : Nat) : Int) := u8_or hd xb
        have ob : d ||| (x ^^^ y) < 256 := Nat.or_lt_two_pow (n := 8) hd xb
        have ND : Hid (d ||| (x ^^^ y) = 0 ↔ l.take (j + 1) = l2.take (j + 1)) := Lib.hid (by
          rw [TN.out, or_zero, HD.out, xor_zero]
          constructor
          · rintro ⟨q1, q2⟩; exact ⟨q1, by rw [q2]⟩
          · rintro ⟨q1, q2⟩; exact ⟨q1, by omega⟩)
        generalize d ||| (x ^^^ y) = d2 at *
        generalize x ^^^ y = z at *
        clear TN HD C1 C2
        go_wp2_with fail
        go_roundw
        case rel => exact ⟨j + 1, d2, by go_num, rfl, by omega, ob, ND, Lib.hid (by trivial)⟩
        case measure => simp [intOf]; omega
      · obtain rfl : j = n := by omega
        have ED : Hid (((d : Int) == 0) = r) := Lib.hid (by
          have := HD.out
          rw [List.take_of_length_le (by rw [L1.out]; exact Nat.le_refl _), List.take_of_length_le (by rw [L2.out]; exact Nat.le_refl _)] at this
          rw [RE.out, Bool.eq_iff_iff, decide_eq_true_iff, ← this, beq_iff_eq]
          omega)
        clear HD C1 C2
        go_wp2_with fail
        go_ret
        exact ⟨by rw [← ED.out]; rfl, rfl⟩
  · have e : decide (l = l2) = false := decide_eq_false fun q => hq (by rw [← h.1, ← h2.1, q])
    rw [e]
    have g : ((n : Int) != (n2 : Int)) = true := by rw [bne_iff_ne]; omega
    clear h h2 hq e
    go_enter Tryd.func13, Tryd.ntmps13
    go_wp2_with fail
    go_ret
    exact ⟨rfl, rfl⟩
end Go.Proofs.YtdnkbefpbehllaaDoor.Mac4

/- The document's examples hold. -/
set_option linter.unusedVariables false
namespace Go.Proofs.YtdnkbefpbehllaaDoor.MacA
open Go.RowKit Go.PlainAid Go.Proofs.YtdnkbefpbehllaaDoor.Sums Go.Proofs.YtdnkbefpbehllaaDoor.Mem Go.Proofs.YtdnkbefpbehllaaDoor.Blk Go.Proofs.YtdnkbefpbehllaaDoor.Bits3 Go.Proofs.YtdnkbefpbehllaaDoor.Ints Go.Proofs.YtdnkbefpbehllaaDoor.Both Go.Proofs.YtdnkbefpbehllaaDoor.ShaD Go.Proofs.YtdnkbefpbehllaaDoor.Dig1 Go.Proofs.YtdnkbefpbehllaaDoor.Dig9 Go.Proofs.YtdnkbefpbehllaaDoor.DigA Go.Proofs.YtdnkbefpbehllaaDoor.MacD Go.Proofs.YtdnkbefpbehllaaDoor.Mac2 Go.Proofs.YtdnkbefpbehllaaDoor.Mac3 Go.Proofs.YtdnkbefpbehllaaDoor.Mac4

theorem hi_full : full (List.replicate 20 11) [72, 105, 32, 84, 104, 101, 114, 101] = [176, 52, 76, 97, 216, 219, 56, 83, 92, 168, 175, 206, 175, 11, 241, 43, 136, 29, 194, 0, 201, 131, 61, 167, 38, 233, 55, 108, 46, 50, 207, 247] := by decide +kernel
theorem hi_str : strOfNums (ints (full (nats (ints (List.replicate 20 11))) (nats (ints [72, 105, 32, 84, 104, 101, 114, 101])))) = ⟨#[176, 52, 76, 97, 216, 219, 56, 83, 92, 168, 175, 206, 175, 11, 241, 43, 136, 29, 194, 0, 201, 131, 61, 167, 38, 233, 55, 108, 46, 50, 207, 247]⟩ := by
  rw [nats_ints, nats_ints, hi_full]
  kernel_rfl

end Go.Proofs.YtdnkbefpbehllaaDoor.MacA

/- Both, Full, Tag over rows that are put together at the call: one contract each; steps of drawn regions. -/
set_option linter.unusedVariables false
namespace Go.Proofs.YtdnkbefpbehllaaDoor.MacU
open Go.RowKit Go.PlainAid Go.Proofs.YtdnkbefpbehllaaDoor.Sums Go.Proofs.YtdnkbefpbehllaaDoor.Mem Go.Proofs.YtdnkbefpbehllaaDoor.Blk Go.Proofs.YtdnkbefpbehllaaDoor.Bits3 Go.Proofs.YtdnkbefpbehllaaDoor.Ints Go.Proofs.YtdnkbefpbehllaaDoor.Both Go.Proofs.YtdnkbefpbehllaaDoor.Free Go.Proofs.YtdnkbefpbehllaaDoor.Steps Go.Proofs.YtdnkbefpbehllaaDoor.Ops Go.Proofs.YtdnkbefpbehllaaDoor.ShaD Go.Proofs.YtdnkbefpbehllaaDoor.ShaO Go.Proofs.YtdnkbefpbehllaaDoor.Dig1 Go.Proofs.YtdnkbefpbehllaaDoor.Dig9 Go.Proofs.YtdnkbefpbehllaaDoor.DigA Go.Proofs.YtdnkbefpbehllaaDoor.MacD Go.Proofs.YtdnkbefpbehllaaDoor.Mac2 Go.Proofs.YtdnkbefpbehllaaDoor.Mac3 Go.Proofs.YtdnkbefpbehllaaDoor.Mac4 Go.Proofs.YtdnkbefpbehllaaDoor.MacA

theorem both_one (A : Option Addr) (n c : Nat) (l : List Int) (w : World) (B : Nat) (h : Holds w B A n c l) (hB : B ≤ w.heap.size) (hn : n ≤ 1048576) (g : Nat) (hg : w.heap.size = g) (cs : Array Value) (hc : cs = #[.slice A n c]) :
    Calls Tryd.prog 15 #[.slice (some ⟨g, 0, none⟩) 1 1] (w.alloc (.cells cs 25)) fun e w' => ∃ A' c', e = .returned (.slice A' n c') ∧ Holds w' w'.heap.size A' n c' l ∧ Owns w' w.heap.size (.slice A' n c') n l ∧ Below w.heap.size w w' := by
  have q := both_lit hB [⟨A, n, c, l⟩] cs 25 (by rw [hc]; rfl) (mem1 h) g 1 hg rfl (by decide) (by show n + 0 ≤ 1048576; omega)
  rw [show total [⟨A, n, c, l⟩] = n from rfl, show flat [⟨A, n, c, l⟩] = l by simp [flat]] at q
  exact q
theorem full_lit {w : World} {B : Nat} (hB : B ≤ w.heap.size) (rs : List Row) (cs : Array Value) (hc : cs.toList = rs.map fun r => Value.slice r.A r.n r.c) (h : ∀ r ∈ rs, Holds w B r.A r.n r.c r.l)
    (g m : Nat) (hg : w.heap.size = g) (hm : rs.length = m) (hm1 : 1 ≤ m) (h1 : m ≤ 1000) (h2 : total rs ≤ 900000) (hT : Tab w) (A : Option Addr) (n c : Nat) (ks : List Int) (hk : Holds w B A n c ks) (hn : n ≤ 1000000) (F : List Nat) (hF : full (nats ks) (nats (flat rs)) = F) :
    Calls Tryd.prog 38 #[.slice A n c, .slice (some ⟨g, 0, none⟩) m m] (w.alloc (.cells cs 25)) fun e w' => ∃ A' c', e = .returned (.slice A' 32 c') ∧ Owns w' w.heap.size (.slice A' 32 c') 32 (ints F) ∧ Below w.heap.size w w' := by
  subst hg
  have B1 := (Below.refl w.heap.size w).alloc (Nat.le_refl _) (.cells cs 25)
  have sz : (w.alloc (.cells cs 25)).heap.size = w.heap.size + 1 := by simp
  refine (full_any A n c ks w.heap.size m m rs _ (w.heap.size + 1) ((hk.below (B1.mono hB)).more (by omega)) (All.lit hB rs cs 25 hc h) (by rw [sz]; exact Nat.le_refl _) hm hm1 h1 hn h2 (hT.up B1)).mono ?_
  rintro e w' ⟨v, rfl, o, hb⟩
  rw [hF] at o
  obtain ⟨A', c', rfl, _⟩ := o.slice
  exact ⟨A', c', rfl, o.mono (by rw [sz]; omega), B1.trans (hb.mono (by rw [sz]; omega))⟩
/-- What a tag is: how many bytes, which error, which bytes. -/
def tgN (n : Nat) : Nat := if n = 32 then 16 else 0
def tgE (n : Nat) : Int := if n = 32 then 0 else 1
def tgO (n : Nat) (F : List Nat) : List Int := if n = 32 then ints (F.take 16) else []
def TgAns (n : Nat) (F : List Nat) (w : World) (e : Ending) (w' : World) : Prop := ∃ A' c', e = .returned (.tuple #[.slice A' (tgN n) c', .int .i64 (tgE n)]) ∧ Holds w' w'.heap.size A' (tgN n) c' (tgO n F) ∧ Below w.heap.size w w'
theorem tg_no {n : Nat} (h : n ≠ 32) (F : List Nat) : tgN n = 0 ∧ tgE n = 1 ∧ tgO n F = [] := by simp [tgN, tgE, tgO, h]
theorem tg_yes (F : List Nat) : tgN 32 = 16 ∧ tgE 32 = 0 ∧ tgO 32 F = ints (F.take 16) := ⟨rfl, rfl, rfl⟩
theorem tag_lit {w : World} {B : Nat} (hB : B ≤ w.heap.size) (rs : List Row) (cs : Array Value) (hc : cs.toList = rs.map fun r => Value.slice r.A r.n r.c) (h : ∀ r ∈ rs, Holds w B r.A r.n r.c r.l)
    (g m : Nat) (hg : w.heap.size = g) (hm : rs.length = m) (hm1 : 1 ≤ m) (h1 : m ≤ 1000) (h2 : total rs ≤ 900000) (hT : Tab w) (A : Option Addr) (n c : Nat) (ks : List Int) (hk : Holds w B A n c ks) (hn : n ≤ 1000000) (F : List Nat) (hF : full (nats ks) (nats (flat rs)) = F) :
    Calls Tryd.prog 31 #[.slice A n c, .slice (some ⟨g, 0, none⟩) m m] (w.alloc (.cells cs 25)) (TgAns n F w) := by
  subst hg
  have B1 := (Below.refl w.heap.size w).alloc (Nat.le_refl _) (.cells cs 25)
  have sz : (w.alloc (.cells cs 25)).heap.size = w.heap.size + 1 := by simp
  unfold TgAns
  by_cases q : n = 32
  · subst q
    rw [(tg_yes F).1, (tg_yes F).2.1, (tg_yes F).2.2]
    refine (tag_yes A c ks w.heap.size m m rs _ (w.heap.size + 1) ((hk.below (B1.mono hB)).more (by omega)) (All.lit hB rs cs 25 hc h) (by rw [sz]; exact Nat.le_refl _) hm hm1 h1 h2 (hT.up B1)).mono ?_
    rintro e w' ⟨A', c', rfl, o, hb⟩
    rw [hF] at o
    exact ⟨A', c', rfl, o, B1.trans (hb.mono (by rw [sz]; omega))⟩
  · rw [(tg_no q F).1, (tg_no q F).2.1, (tg_no q F).2.2]
    refine (tag_no A n c _ _ q (by omega)).mono ?_
    rintro e w' ⟨rfl, rfl⟩
    exact ⟨none, 0, rfl, Holds.nil _ _ _, B1⟩
theorem toList_eq (a b : ByteArray) : (a.toList == b.toList) = decide (a = b) := by
  by_cases h : a = b
  · subst h; simp
  · have : a.toList ≠ b.toList := fun e => h (by
      cases a; cases b
      rw [ByteArray.toList_eq, ByteArray.toList_eq] at e
      simp at e
      rw [e])
    simp [h, this]
theorem str_eq {a b : List Int} (ha : Bytes a) (hb : Bytes b) : ((strOfNums a).toList == (strOfNums b).toList) = decide (a = b) := by
  rw [toList_eq, decide_eq_decide]
  exact ⟨fun h => str_inj ha hb h, fun h => by rw [h]⟩

/-! ### Steps -/
theorem ent_full : Enters Tryd.prog 38 := enters_of Tryd.func38 (by kernel_rfl) rfl
theorem ent_same : Enters Tryd.prog 13 := enters_of Tryd.func13 (by kernel_rfl) rfl
theorem ent_of : Enters Tryd.prog 44 := enters_of Tryd.func44 (by kernel_rfl) rfl
theorem st_pick {o : Oper} {a : Act} {w : World} {K : Act → World → Prop} {Q : Exit → Act → World → Prop} (c x y : Operand) (ho : o.op = .pick c x y) (v : Value) (hc : a.eval c = .bool true) (hx : a.eval x = v) (hK : K (a.put o.dst v) w) : Step Tryd.prog o a w K Q :=
  wp_value v (by simp [execOp, ho, hc, hx, asBool]) hK
theorem b_eqs (s : ByteArray) (x y : Operand) (w : World) : (do eqGuard .eql 9 x y (.string s) (.string s); binOp .eql 9 (.string s) (.string s) : Sem Value).run Tryd.prog w = .ok (.bool true) w := by
  simp [go_sem, eqGuard]
theorem b_eqt (s t : ByteArray) (r : Bool) (h : (s.toList == t.toList) = r) (x y : Operand) (w : World) : (do eqGuard .eql 9 x y (.string s) (.string t); binOp .eql 9 (.string s) (.string t) : Sem Value).run Tryd.prog w = .ok (.bool r) w := by
  subst h
  simp [go_sem, eqGuard]
theorem b_eqb (a : Bool) (x y : Operand) (w : World) : (do eqGuard .eql 4 x y (.bool a) (.bool a); binOp .eql 4 (.bool a) (.bool a) : Sem Value).run Tryd.prog w = .ok (.bool true) w := by
  simp [go_sem, eqGuard]
theorem b_eqe (a : Int) (x y : Operand) (w : World) : (do eqGuard .eql 27 x y (.int .i64 a) (.int .i64 a); binOp .eql 27 (.int .i64 a) (.int .i64 a) : Sem Value).run Tryd.prog w = .ok (.bool true) w := by
  simp [go_sem, eqGuard]
theorem b_eqi (a : Int) (x y : Operand) (w : World) : (do eqGuard .eql 3 x y (.int .i64 a) (.int .i64 a); binOp .eql 3 (.int .i64 a) (.int .i64 a) : Sem Value).run Tryd.prog w = .ok (.bool true) w := by
  simp [go_sem, eqGuard]
theorem b_eq8 (a b : Int) (r : Bool) (h : (a == b) = r) (x y : Operand) (w : World) : (do eqGuard .eql 5 x y (.int .u8 a) (.int .u8 b); binOp .eql 5 (.int .u8 a) (.int .u8 b) : Sem Value).run Tryd.prog w = .ok (.bool r) w := by
  subst h
  simp [go_sem, eqGuard]
theorem list2 {f : Operand → Value} {x y : Operand} {u v : Value} (h1 : f x = u) (h2 : f y = v) : [x, y].map f = [u, v] := by simp [h1, h2]
theorem st_rows_1 {o : Oper} {a : Act} {w : World} {K : Act → World → Prop} {Q : Exit → Act → World → Prop} (x1 : Operand) (ho : o.op = .buildSlice 60 1 #[(0, x1)]) (A : Option Addr) (n c : Nat) (h1 : a.eval x1 = .slice A n c)
    (hK : K (a.put o.dst (.slice (some ⟨w.heap.size, 0, none⟩) 1 1)) (w.alloc (.cells #[.slice A n c] 25))) : Step Tryd.prog o a w K Q := by
  constructor
  have hb : (Instr.buildSlice 60 1 #[(0, .slice A n c)]).run Tryd.prog w = .ok (.slice (some ⟨w.heap.size, 0, none⟩) 1 1) (w.alloc (.cells #[.slice A n c] 25)) := by kernel_rfl
  have hr : (execOp a.eval o).run Tryd.prog w = .ok (.value (.slice (some ⟨w.heap.size, 0, none⟩) 1 1)) (w.alloc (.cells #[.slice A n c] 25)) := by
    simp [execOp, ho, h1, hb, Result.andThen]
  unfold Oper.wp
  rw [hr]
  exact hK
/-- A row's beginning. -/
theorem cut_begin (A : Option Addr) (n c hi : Nat) (h1 : hi ≤ n) (h2 : n ≤ c) (w : World) : (Instr.sliceAt 25 (.slice A n c) none (some (.int .i64 (hi : Int))) none).run Tryd.prog w = .ok (.slice A hi c) w := by
  have e := run_slice_h (P := Tryd.prog) (w := w) (t := 25) (a := A) (len := n) (cap := c) (ht := (by kernel_rfl)) .i64 (hi : Int) (by omega) (by omega)
  rw [run_sliceAt_slice (P := Tryd.prog) (h := (by kernel_rfl)), e, CutA.byte_elem]
  have z : (fun x : Addr => x.add (0 * 1)) = id := by
    funext x
    simp [Addr.add]
  simp only [Result.andThen_ok, sliced, Int.toNat_natCast, Nat.sub_zero]
  split
  · rfl
  · rw [z, Option.map_id]; rfl
/-- An append where the operation is guarded and wanted. -/
theorem wpList_append_w {w : World} {ops : Array Oper} {rest : List Oper} {o : Oper} {a : Act} {Q : Exit → Act → World → Prop} (hw : Region.wanted o (yielded ops a.tmps) = true) (s x : Operand)
    (ho : o.op = .call { callee := .builtin .append, args := #[s, x], argTypes := #[25, 25] })
    (base : Nat) (v : Value) (n : Nat) (l : List Int) (hs : a.eval s = v) (h : Owns w base v n l) (B : Nat) (A : Option Addr) (m c : Nat) (k : List Int) (hx : a.eval x = .slice A m c) (hk : Holds w B A m c k)
    (hsm : n + m ≤ 1048576) (hbase : base ≤ w.heap.size)
    (K : ∀ v' w', Owns w' base v' (n + m) (l ++ k) → w.grownBy w' v.ownBlock → (v'.ownBlock = v.ownBlock ∨ v'.ownBlock = some w.heap.size) → wpList Tryd.prog ops Q rest (a.put o.dst v') w') :
    wpList Tryd.prog ops Q (o :: rest) a w :=
  wpList_step fun K' hK => by
    rw [if_pos hw]
    obtain ⟨v', w', hr, h2, h3, h4⟩ := run_append_bytes w o.type base v n l h B A m c k hk hsm hbase
    unfold Oper.wp execOp
    simp only [ho, resolve, invoke, builtin, Sem.run_bind, Sem.run_pure, Result.andThen_ok, List.map_toArray, List.map_cons, List.map_nil, hs, hx, hr]
    exact hK _ _ (K v' w' h2 h3 h4)
end Go.Proofs.YtdnkbefpbehllaaDoor.MacU

