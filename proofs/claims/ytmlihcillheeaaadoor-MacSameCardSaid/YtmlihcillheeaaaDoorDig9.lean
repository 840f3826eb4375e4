/- The contract of the code's Of. -/
import Derived.Test.YtmlihcillheeaaaDoorDig8
import Derived.Test.YtmlihcillheeaaaDoorShaO
set_option linter.unusedVariables false
namespace Go.Proofs.YtmlihcillheeaaaDoor.Dig9
open Go.RowKit Go.PlainAid Go.Proofs.YtmlihcillheeaaaDoor.Sums Go.Proofs.YtmlihcillheeaaaDoor.Mem Go.Proofs.YtmlihcillheeaaaDoor.Blk Go.Proofs.YtmlihcillheeaaaDoor.Bits3 Go.Proofs.YtmlihcillheeaaaDoor.Ints Go.Proofs.YtmlihcillheeaaaDoor.Both Go.Proofs.YtmlihcillheeaaaDoor.ShaD Go.Proofs.YtmlihcillheeaaaDoor.ShaO Go.Proofs.YtmlihcillheeaaaDoor.Dig1 Go.Proofs.YtmlihcillheeaaaDoor.OpsU Go.Proofs.YtmlihcillheeaaaDoor.Dig2 Go.Proofs.YtmlihcillheeaaaDoor.Dig3 Go.Proofs.YtmlihcillheeaaaDoor.Dig6 Go.Proofs.YtmlihcillheeaaaDoor.Dig7 Go.Proofs.YtmlihcillheeaaaDoor.Dig8

theorem wpList_load_state {ops : Array Oper} {rest : List Oper} {o : Oper} {a : Act} {w : World} {Q : Exit → Act → World → Prop} (hgd : o.guard = none) (x : Operand) (ho : o.op = .load 42 x)
    (g N : Nat) (S Bk : List Nat) (hx : a.eval x = .pointer (some ⟨g, 0, none⟩)) (hS : S.length = 8) (hh : Hsh w g S Bk N)
    (h : wpList Tryd.prog ops Q rest (a.put o.dst (.agg (ucells S))) w) : wpList Tryd.prog ops Q (o :: rest) a w :=
  wpList_plain hgd fun _ hK => by
    unfold Oper.wp execOp
    simp only [ho, hx, Instr.loadAt, Instr.sureAddr, Sem.run_bind, Sem.run_pure, Result.andThen_ok, load_state w g N S Bk hS hh]
    exact hK _ _ h
theorem nats_app (a b : List Int) : nats (a ++ b) = nats a ++ nats b := by simp [nats]
theorem rows_byt {w : World} {B b : Nat} {rs : List Row} (h : All w B b rs) : Bytes (flat rs) := by
  have : ∀ r ∈ rs, Bytes r.l := fun r hr => by
    obtain ⟨k, hk⟩ := List.getElem?_of_mem hr
    exact (h.2 k r hk).2.2.2.2.1
  clear h
  induction rs with
  | nil => intro z hz; simp [flat] at hz
  | cons r rs ih =>
    intro z hz
    have : z ∈ r.l ++ flat rs := hz
    rcases List.mem_append.1 this with q | q
    · exact (by assumption : ∀ r' ∈ r :: rs, Bytes r'.l) r (by simp) z q
    · exact ih (fun r' hr' => (by assumption : ∀ r' ∈ r :: rs, Bytes r'.l) r' (by simp [hr'])) z q
/-- The rows that a slice of slices holds; none at all, too. -/
def Parts (w : World) (B : Nat) (A : Option Addr) (rs : List Row) : Prop := rs = [] ∨ ∃ b, A = some ⟨b, 0, none⟩ ∧ All w B b rs
theorem final_of {L S Bk : List Nat} (h : Hst (pad L) S Bk) : S = final L := by
  have q := pad_len L
  exact h.done q.1
theorem flat4_len {S : List Nat} (h : S.length = 8) : (S.flatMap four).length = 32 := by
  obtain ⟨a, b, c, d, e, f, g, i, rfl⟩ := Dig4.eight h
  rfl

set_option maxHeartbeats 2000000 in
set_option maxRecDepth 100000 in
theorem of_no (A : Option Addr) (m c : Nat) (rs : List Row) (w : World) (B : Nat) (hP : Parts w B A rs) (hm : rs.length = m) (hB : B ≤ w.heap.size) (hm2 : m ≤ 1000000) (hl : (flat rs).length = total rs) (ht : total rs ≤ 1048576) (hT : Tab w) :
    Calls Tryd.prog 14 #[.slice A m c] w fun e w' => ∃ v, e = .returned v ∧ Owns w' w.heap.size v 32 (ints (digest (nats (flat rs)))) ∧ Below w.heap.size w w' := by
  have hz := zero_h
  obtain ⟨cZ, hcZ⟩ : ∃ cZ, cZ = hcells (List.replicate 8 0) (List.replicate 64 0) 0 := ⟨_, rfl⟩
  have SZ : cZ.size = 73 := by rw [hcZ, hcells_size, List.length_replicate, List.length_replicate]
  have HZ : (cZ = #[]) = False := eq_false fun e => by rw [e] at SZ; simp at SZ
  rw [← hcZ] at hz
  obtain ⟨cS, hcS⟩ : ∃ cS, cS = hcells ShaD.start (List.replicate 64 0) 0 := ⟨_, rfl⟩
  have CS := Lib.hid hcS
  have S1 : cS.size = 73 := by rw [hcS, hcells_size, Dig6.start_len, List.length_replicate]
  have one : cS.all (·.oneCell') = true := by rw [hcS]; exact hcells_one _ _ _
  have C := Lib.hid (started_no w hT)
  rw [← hcS] at C
  have HP := Lib.hid hP
  have HM := Lib.hid hm
  have HT := Lib.hid hT
  have FL := Lib.hid hl
  clear hcS hcZ hP hm hT hl
  go_enter Tryd.func14, Tryd.ntmps14
  go_wp2_with fail
  refine C.out.mono ?_
  rintro e w1 ⟨rfl, hb⟩
  have B1 := Lib.hid hb
  have BZ : Blk (w1.alloc (.cells cZ 45)) w1.heap.size 45 cZ := Blk.new w1 _ _
  have B2 : Hid (Below w.heap.size w ((w1.alloc (.cells cZ 45)).setRow w1.heap.size cS)) := Lib.hid (below_setRow (hb.alloc hb.size _) hb.size)
  have H2 : Hid (Has ((w1.alloc (.cells cZ 45)).setRow w1.heap.size cS) w1.heap.size (nats (flat (rs.take 0)))) := Lib.hid ⟨ShaD.start, List.replicate 64 0, by
    show Hsh _ _ _ _ (nats []).length
    unfold Hsh
    rw [show (nats []).length = 0 from rfl, ← CS.out]
    exact setRow_heap _ _ _ _ _ _ BZ, Hst.start⟩
  have GS := Lib.hid hb.size
  unfold Blk at BZ
  clear hb C B1
  go_wp2_with (first
    | (refine wpList_store_row rfl _ _ _ rfl w1.heap.size cS rfl rfl 45 _ BZ (by rw [S1]; kernel_rfl) (by rw [S1, SZ]) one ?_))
  clear hz HZ SZ S1 one CS BZ
  generalize (w1.alloc (.cells cZ 45)).setRow w1.heap.size cS = w2 at *
  obtain ⟨g, hg⟩ : ∃ g, g = w1.heap.size := ⟨_, rfl⟩
  rw [← hg] at H2 GS ⊢
  clear hg
  have G2 := Lib.hid (World.grownBy.refl w2 (some g))
  have TL : Hid ((0 : Nat) < g) := Lib.hid (Nat.lt_of_lt_of_le HT.out.lt GS.out)
  have T2 : Hid (∀ W : World, w2.grownBy W (some g) → Tab W) := Lib.hid fun W hW => by
    obtain ⟨t, fr, q⟩ := HT.out.up B2.out
    exact ⟨t, fr, (hW.block _ (HT.out.up B2.out).lt (fun e => by have := TL.out; injection e with e; omega)).trans q⟩
  have B3 : Hid (∀ W : World, w2.grownBy W (some g) → Below w.heap.size w W) := Lib.hid fun W hW => B2.out.grown hW B2.out.size fun j e => by have := GS.out; injection e with e; omega
  go_loopw [12] (fun kv wr => ∃ j : Nat, kv = .int .i64 (j : Int) ∧ j ≤ m ∧ Hid (Has wr g (nats (flat (rs.take j)))) ∧ Hid (w2.grownBy wr (some g))) (fun kv _ => m - (intOf kv).toNat)
  case atStart => exact ⟨0, rfl, by omega, H2, G2⟩
  case round =>
    obtain ⟨j, rfl, hj, HH, HG⟩ := hrel
    clear H2 G2
    by_cases hlt : j < m
    · obtain ⟨b, rfl, ha⟩ : ∃ b, A = some ⟨b, 0, none⟩ ∧ All w B b rs := by
        rcases HP.out with q | q
        · have := HM.out; rw [q] at this; simp at this; omega
        · exact q
      have hk' : j < rs.length := by rw [HM.out]; exact hlt
      have hr := Lib.hid (List.getElem?_eq_getElem hk')
      generalize rs[j] = r at hr
      obtain ⟨hc, hh⟩ := ha.2 j r hr.out
      have hbw := ha.1
      have hc' := ((B3.out wr HG.out).cell (p := ⟨b, j, none⟩) (by show b < w.heap.size; omega)).trans hc
      have hh' := hh.below ((B3.out wr HG.out).mono hB)
      have HF := Lib.hid (flat_take hr.out)
      have tl := total_le rs (j + 1)
      have tk := total_take hr.out
      have LL : (nats (flat (rs.take j))).length ≤ 1099511627776 := by
        rw [nats_len]
        have : (flat rs).length = (flat (rs.take j)).length + (flat (rs.drop j)).length := by
          rw [← List.length_append, ← flat_append, List.take_append_drop]
        have := FL.out
        omega
      have TK := Lib.hid (take_no g (nats (flat (rs.take j))) r.A r.n r.c r.l wr HH.out LL (by omega) (hh'.more (by have := (B3.out wr HG.out).size; omega)) (fun hn b' o' e => by
        obtain ⟨b2, o2, e2, hb2, _⟩ := hh.2.2.2.2 hn
        rw [e2] at e
        injection e with e
        injection e with e3 e4
        have := GS.out
        omega) (T2.out wr HG.out) TL.out)
      rw [← nats_app, ← HF.out] at TK
      clear hc hh hh' tl tk LL HH HF
      go_wp2_with fail
      refine TK.out.mono ?_
      rintro e w3 ⟨rfl, h3, g3⟩
      have H3 := Lib.hid h3
      have G3 := Lib.hid (HG.out.trans g3)
      clear h3 g3 TK hc'
      go_wp2_with fail
      go_roundw
      case rel => exact ⟨j + 1, by go_num, by omega, H3, G3⟩
      case measure => simp [intOf]; omega
    · obtain rfl : j = m := by omega
      have HA : Hid (Has wr g (nats (flat rs))) := Lib.hid (by
        have := HH.out
        rwa [List.take_of_length_le (by rw [HM.out]; exact Nat.le_refl _)] at this)
      obtain ⟨X, hX⟩ : ∃ X, X = nats (flat rs) := ⟨_, rfl⟩
      rw [← hX] at HA
      have XE := Lib.hid hX
      have XL : X.length ≤ 1048576 := by rw [hX, nats_len, FL.out]; exact ht
      obtain ⟨S0, Bk0, hh0, hst0⟩ := HA.out
      obtain ⟨n, hn⟩ : ∃ n, n = X.length := ⟨_, rfl⟩
      have NE := Lib.hid hn
      rw [← hn] at hh0 XL
      have k72 : wr.cell? ⟨g, 72, none⟩ = some (.int .i64 (n : Int)) := (Blk.cell hh0 72).trans (hcells_n hst0.sl hst0.len)
      have GL := Lib.hid (Blk.lt hh0)
      have PC := Lib.hid (padding_no n (by omega) wr)
      generalize wr = w3 at *
      clear hX hh0 hst0 HH hlt hj hn HP FL ht hm2
      go_wp2_with fail
      refine PC.out.mono ?_
      rintro e w4 ⟨v4, rfl, o4, hb⟩
      obtain ⟨A4, c4, rfl, h4⟩ := o4.slice
      obtain ⟨g4, rfl, hg4, _⟩ := o4.form (by omega)
      have H4 := Lib.hid (show Has w4 g X from by
        obtain ⟨S1, Bk1, q1, q2⟩ := HA.out
        exact ⟨S1, Bk1, q1.up hb, q2⟩)
      have G4 := Lib.hid (HG.out.trans (grown_of (some g) hb (Nat.le_refl _)))
      have PL : Hid (X ++ nats (ints (padL n)) = pad X) := Lib.hid (by rw [nats_ints, NE.out]; rfl)
      have zb : zeros n < 64 := by unfold zeros; omega
      have TK := Lib.hid (take_no g X _ _ _ _ w4 H4.out (by rw [← NE.out]; omega) (by omega) h4 (fun _ b' o' e => by
        injection e with e
        injection e with e3 e4
        have := GL.out
        omega) (T2.out w4 G4.out) TL.out)
      rw [PL.out] at TK
      clear o4 h4 hb k72 PC PL zb
      go_wp2_with fail
      refine TK.out.mono ?_
      rintro e w5 ⟨rfl, h5, g5⟩
      have G5 := Lib.hid (G4.out.trans g5)
      obtain ⟨S, Bk, hh, hst⟩ := h5
      have SF := Lib.hid (final_of hst)
      have S8 := hst.sl
      have SM := Lib.hid hst.sm
      have mk : ∀ W : World, (Instr.makeSlice 22 (.int .i64 0) (.int .i64 32)).run Tryd.prog W = .ok (.slice (some ⟨W.heap.size, 0, none⟩) 0 32) (W.alloc (.cells (bcells (List.replicate 32 0)) 5)) := fun W => make_lc 0 32 (by decide) (by decide) W
      have BW := Lib.hid (B3.out w5 G5.out)
      have O5 := Lib.hid (owns_lc w5 w.heap.size 0 32 BW.out.size (by decide) (by decide))
      have B5 := Lib.hid (BW.out.alloc BW.out.size (.cells (bcells (List.replicate 32 0)) 5))
      have hh2 := Blk.alloc hh (.cells (bcells (List.replicate 32 0)) 5)
      generalize bcells (List.replicate 32 0) = cM at *
      clear TK H4 G4 g5 hh hst HA HG G5 BW
      go_wp2_with (first
        | (refine wpList_load_state rfl (.tmp 24) rfl g _ S Bk rfl S8 hh2 ?_))
      clear mk hh2
      have IX := Lib.hid (fun (j : Nat) (hj : j < 8) (W : World) => run_index_u (ty := 42) Tryd.underlying42 S8 hj W)
      have SL := Lib.hid S8
      generalize ucells S = cF at *
      generalize w5.alloc (.cells cM 5) = w6 at *
      clear S8
      go_loopw [6, 26] (fun ov kv wr => ∃ (j q : Nat), kv = .int .i64 (j : Int) ∧ j ≤ 8 ∧ Hid (q = 4 * j) ∧ Hid (Owns wr w.heap.size ov q (ints ((S.take j).flatMap four))) ∧ Hid (Below w.heap.size w wr)) (fun _ kv _ => 8 - (intOf kv).toNat)
      case atStart => exact ⟨0, 0, rfl, by omega, Lib.hid rfl, O5, B5⟩
      case round =>
        obtain ⟨j, q, rfl, hj, HQ, HO, HB⟩ := hrel
        clear O5 B5
        by_cases hlt : j < 8
        · have ix := IX.out j hlt wr
          have xb := SM.out.get j
          have FN := Lib.hid (flat_next (F := S) (j := j) (by rw [SL.out]; exact hlt))
          generalize S.getD j 0 = x at *
          unfold M at xb
          have e1 : IntKind.u8.wrap ((x : Int) / 16777216) = (x : Int) / 16777216 := by rw [IntKind.wrap_u8]; omega
          have e2 : IntKind.u8.wrap ((x : Int) / 65536) = (x : Int) / 65536 % 256 := by rw [IntKind.wrap_u8]
          have e3 : IntKind.u8.wrap ((x : Int) / 256) = (x : Int) / 256 % 256 := by rw [IntKind.wrap_u8]
          have e4 : IntKind.u8.wrap (x : Int) = (x : Int) % 256 := by rw [IntKind.wrap_u8]
          have QB : q ≤ 32 := by have := HQ.out; omega
          have HQ2 : Hid (q + 4 = 4 * (j + 1)) := Lib.hid (by have := HQ.out; omega)
          have HBS := HB.out.size
          have B4 : Bytes [(x : Int) / 16777216, (x : Int) / 65536 % 256, (x : Int) / 256 % 256, (x : Int) % 256] := fun z hz => by simp at hz; omega
          have L4 := Lib.hid (Holds.lit wr [(x : Int) / 16777216, (x : Int) / 65536 % 256, (x : Int) / 256 % 256, (x : Int) % 256] #[.int .u8 ((x : Int) / 16777216), .int .u8 ((x : Int) / 65536 % 256), .int .u8 ((x : Int) / 256 % 256), .int .u8 ((x : Int) % 256)] rfl (by simp [maxLen]) B4)
          have F4 := Lib.hid (four_nat x)
          clear B4
          go_wp2_with (at_builtin
                       refine wpList_append_bytes rfl (.tmp 29) (.tmp 41) rfl w.heap.size _ q _ rfl (HO.out.alloc _) _ _ 4 4 _ rfl L4.out (by omega) (by simp; omega) ?_
                       intro v1 w9 o9 g9 hat9)
          have OX : Hid (Owns w9 w.heap.size v1 (q + 4) (ints ((S.take (j + 1)).flatMap four))) := Lib.hid (by rw [FN.out, ShaO.ints_app, ← F4.out]; exact o9)
          have BX := Lib.hid ((HB.out.alloc HBS _).grown g9 (by simp; omega) fun g hg => (HO.out.lt g hg).1)
          clear o9 g9 hat9 HO HB HBS L4
          go_roundw
          case rel => exact ⟨j + 1, q + 4, by go_num, by omega, HQ2, OX, BX⟩
          case measure => simp [intOf]; omega
        · obtain rfl : j = 8 := by omega
          have OF : Hid (Owns wr w.heap.size _ 32 (ints (digest (nats (flat rs))))) := Lib.hid (by
            have := HO.out
            rw [List.take_of_length_le (by rw [SL.out]; exact Nat.le_refl _), HQ.out, SF.out, XE.out] at this
            exact this)
          have BF := HB
          clear HO HB
          go_wp2_with fail
          go_ret
          exact ⟨_, rfl, OF.out, BF.out⟩
end Go.Proofs.YtmlihcillheeaaaDoor.Dig9
