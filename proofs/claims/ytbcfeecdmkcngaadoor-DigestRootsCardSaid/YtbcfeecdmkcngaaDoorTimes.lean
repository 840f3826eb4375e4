/- The law's own times: two numbers, told by their parts of 16 bits. -/
import Derived.Test.YtbcfeecdmkcngaaDoorShaF
import Derived.Test.YtbcfeecdmkcngaaDoorOpsB
import Derived.Test.YtbcfeecdmkcngaaDoorShaW
import Derived.Lib.QuietBelow
import Derived.BigQuiet
import Derived.Deep.QuietTactic
set_option linter.unusedVariables false
namespace Go.Proofs.YtbcfeecdmkcngaaDoor.Times
open Go.RowKit Go.Proofs.YtbcfeecdmkcngaaDoor.Sums Go.Proofs.YtbcfeecdmkcngaaDoor.Mem Go.Proofs.YtbcfeecdmkcngaaDoor.Blk Go.Proofs.YtbcfeecdmkcngaaDoor.Bits3 Go.Proofs.YtbcfeecdmkcngaaDoor.Ints Go.Proofs.YtbcfeecdmkcngaaDoor.Free Go.Proofs.YtbcfeecdmkcngaaDoor.Steps Go.Proofs.YtbcfeecdmkcngaaDoor.Ops Go.Proofs.YtbcfeecdmkcngaaDoor.ShaW Go.Proofs.YtbcfeecdmkcngaaDoor.ShaP Go.Proofs.YtbcfeecdmkcngaaDoor.ShaT

theorem b_mul_eq (a b c : Int) (x y : Operand) (w : World) (h : a * b = c) (h0 : -9223372036854775808 ≤ c) (h1 : c ≤ 9223372036854775807) : (do eqGuard .mul 3 x y (.int .i64 a) (.int .i64 b); binOp .mul 3 (.int .i64 a) (.int .i64 b) : Sem Value).run Tryd.prog w = .ok (.int .i64 c) w := by
  subst h
  exact b_mul a b x y w h0 h1
theorem bump_is {l : List Nat} {j v s1 s2 r q : Nat} (h1 : s1 = l.getD j 0 + v) (hq : q = s1 / 65536) (h2 : s2 = l.getD (j + 1) 0 + q) (hr : r = s1 % 65536) : ((l.set j s1).set (j + 1) s2).set j r = bump l j v := by
  unfold bump
  rw [List.set_comm _ _ (show j ≠ j + 1 by omega), List.set_set, hr, h2, hq, h1]
theorem set_same (l : List Nat) (j : Nat) : l.set j (l.getD j 0) = l := by
  apply List.ext_getElem?
  intro i
  by_cases e : j = i
  · subst e
    rcases Nat.lt_or_ge j l.length with q | q
    · rw [List.getElem?_set_self q, List.getD_eq_getElem?_getD, List.getElem?_eq_getElem q]; rfl
    · rw [List.getElem?_eq_none (by rw [List.length_set]; exact q), List.getElem?_eq_none q]
  · rw [List.getElem?_set_ne e]
theorem val16_next {a : List Nat} {i : Nat} (h : i < a.length) : val16 (a.take (i + 1)) = val16 (a.take i) + a.getD i 0 * 65536 ^ i := by
  have e : a.take (i + 1) = a.take i ++ [a.getD i 0] := by
    rw [List.take_add_one, List.getD_eq_getElem?_getD, List.getElem?_eq_getElem h]; rfl
  rw [e, val16_app, List.length_take, Nat.min_eq_left (by omega)]
  simp [val16, Nat.mul_comm]
theorem row_sum {A P x b y V : Nat} (h : V = A + x * P * b) (v k : Nat) (hv : v = x * y) : V + v * (P * 65536 ^ k) = A + x * P * (b + y * 65536 ^ k) := by
  rw [h, hv, Nat.mul_add, Nat.add_assoc]
  congr 2
  simp only [Nat.mul_assoc]
  congr 1
  rw [Nat.mul_left_comm]
/-- Within row i, ahead of place k; behind the last place it is the row's end. -/
def In (l : List Nat) (n i k : Nat) : Prop := (k < n → Mid l n i k) ∧ (k = n → (∀ j, l.getD j 0 < 65536) ∧ ∀ j, i + 1 + n ≤ j → l.getD j 0 = 0)
theorem In.next {l : List Nat} {n i k v : Nat} (h : In l n i k) (hk : k < n) (hl : i + n + 1 ≤ l.length) (hv : v ≤ 4294836225) : In (bump l (i + k) v) n i (k + 1) := by
  have m := h.1 hk
  refine ⟨fun q => m.next (by omega) hk hv, fun q => ?_⟩
  obtain ⟨n', rfl⟩ : ∃ n', n = n' + 1 := ⟨n - 1, by omega⟩
  obtain rfl : k = n' := by omega
  have := m.row (by omega) hv
  exact ⟨this.1, this.2⟩

set_option maxHeartbeats 2000000 in
set_option maxRecDepth 100000 in
theorem times_ref (ga gb : Nat) (a b : List Nat) (w : World) (ha : IRow w ga a) (hb : IRow w gb b) (La Lb : Nat) (hLa : a.length = La) (hLb : b.length = Lb) (la : La ≤ 20) (lb : Lb ≤ 20) (b1 : 1 ≤ Lb) (asm : ∀ x ∈ a, x < 65536) (bsm : ∀ x ∈ b, x < 65536) :
    Calls Tryd.prog 28 #[.slice (some ⟨ga, 0, none⟩) La La, .slice (some ⟨gb, 0, none⟩) Lb Lb] w fun e w' => ∃ g l, e = .returned (.slice (some ⟨g, 0, none⟩) (La + Lb + 1) (La + Lb + 1)) ∧ IRow w' g l ∧ l.length = La + Lb + 1 ∧ val16 l = val16 a * val16 b ∧ (∀ x ∈ l, x < 65536) ∧ w.heap.size ≤ g ∧ Below w.heap.size w w' := by
  obtain ⟨L, hL⟩ : ∃ L, L = La + Lb + 1 := ⟨_, rfl⟩
  have mk : ∀ W : World, (Instr.makeSlice 22 (.int .i64 (L : Int)) (.int .i64 (L : Int))).run Tryd.prog W = .ok (.slice (some ⟨W.heap.size, 0, none⟩) L L) (W.alloc (.cells (icells (List.replicate L 0)) 3)) := fun W => make_i L (by omega) W
  have N0 : Hid (IRow (w.alloc (.cells (icells (List.replicate L 0)) 3)) w.heap.size (List.replicate L 0)) := Lib.hid (IRow.new w _)
  have B0 : Hid (Below w.heap.size w (w.alloc (.cells (icells (List.replicate L 0)) 3))) := Lib.hid ((Below.refl _ _).alloc (Nat.le_refl _) _)
  obtain ⟨Z, hZ⟩ : ∃ Z, Z = List.replicate L 0 := ⟨_, rfl⟩
  have ZL : Hid (Z.length = L) := Lib.hid (by rw [hZ, List.length_replicate])
  have Z0 : Hid (∀ j, Z.getD j 0 = 0) := Lib.hid fun j => by
    rw [hZ, List.getD_eq_getElem?_getD, List.getElem?_replicate]; split <;> rfl
  have ZV : Hid (val16 Z = 0) := Lib.hid (by
    rw [hZ]
    clear mk N0 B0 hZ ZL Z0 hL
    induction L with
    | zero => rfl
    | succ n ih => rw [List.replicate_succ, val16, ih])
  rw [← hZ] at mk N0 B0
  have f1 : IntKind.i64.wrap ((La : Int) + (Lb : Int)) = (La : Int) + (Lb : Int) := IntWalk.i64_in _ (by omega)
  have f2 : IntKind.i64.wrap ((La : Int) + (Lb : Int) + 1) = (L : Int) := by rw [IntWalk.i64_in _ (by omega)]; omega
  have AL := Lib.hid hLa
  have BL := Lib.hid hLb
  have HA := Lib.hid ha
  have HB := Lib.hid hb
  have get : ∀ {l : List Nat}, (∀ x ∈ l, x < 65536) → ∀ i, l.getD i 0 < 65536 := fun {l} h i => by
    rw [List.getD_eq_getElem?_getD]
    cases e : l[i]? with
    | none => decide
    | some z => exact h z (List.mem_of_getElem? e)
  have AG := Lib.hid (get asm)
  have BG := Lib.hid (get bsm)
  have HL := Lib.hid hL
  have L42 : L ≤ 41 := by omega
  generalize icells Z = cZ at *
  rw [← hL]
  clear hL hZ hLa hLb ha hb asm bsm get
  go_enter Tryd.func28, Tryd.ntmps28
  go_wp2_with fail
  clear mk f1 f2
  obtain ⟨g, hg⟩ : ∃ g, g = w.heap.size := ⟨_, rfl⟩
  rw [← hg] at N0 B0 ⊢
  have GW := Lib.hid hg
  generalize w.alloc (.cells cZ 3) = w1 at *
  clear hg
  go_loopw [6] (fun kv wr => ∃ (i : Nat) (l : List Nat), kv = .int .i64 (i : Int) ∧ i ≤ La ∧ Hid (l.length = L) ∧ Hid (IRow wr g l) ∧ Hid (Below g w wr) ∧ Hid ((∀ j, l.getD j 0 < 65536) ∧ ∀ j, i + Lb ≤ j → l.getD j 0 = 0) ∧ Hid (val16 l = val16 (a.take i) * val16 b)) (fun kv _ => La - (intOf kv).toNat)
  case atStart => exact ⟨0, Z, rfl, by omega, ZL, N0, B0, Lib.hid ⟨fun j => by rw [Z0.out]; decide, fun j _ => Z0.out j⟩, Lib.hid (by rw [ZV.out]; simp [val16])⟩
  case round =>
    obtain ⟨i, l, rfl, hi, HLl, HR, HBl, HS, HV⟩ := hrel
    clear N0 B0
    generalize wr = wo at *
    by_cases hlt : i < La
    · have xa := AG.out i
      have VN := Lib.hid (val16_next (a := a) (i := i) (by rw [AL.out]; exact hlt))
      have I0 : Hid (In l Lb i 0) := Lib.hid ⟨fun _ => Mid.start HS.out.1 HS.out.2, fun q => by omega⟩
      have V0 : Hid (val16 l = val16 (a.take i) * val16 b) := HV
      have V0 : Hid (val16 l = val16 (a.take i) * val16 b + a.getD i 0 * 65536 ^ i * val16 (b.take 0)) := Lib.hid (by rw [HV.out]; simp [val16])
      obtain ⟨A0, hA0⟩ : ∃ A0, A0 = val16 (a.take i) * val16 b := ⟨_, rfl⟩
      have A0H := Lib.hid hA0
      rw [← hA0] at V0
      have AC : Hid (∀ W : World, Below w.heap.size w W → W.cell? ⟨ga, i, none⟩ = some (.int .i64 ((a.getD i 0 : Nat) : Int))) := Lib.hid fun W hW => (IRow.up HA.out hW).cell i (by rw [AL.out]; exact hlt)
      generalize a.getD i 0 = x at *
      clear hA0 HV HS
      go_wp2_with fail
      go_loopw [7] (fun kv wr => ∃ (k : Nat) (l : List Nat), kv = .int .i64 (k : Int) ∧ k ≤ Lb ∧ Hid (l.length = L) ∧ Hid (IRow wr g l) ∧ Hid (Below g w wr) ∧ Hid (In l Lb i k) ∧ Hid (val16 l = A0 + x * 65536 ^ i * val16 (b.take k))) (fun kv _ => Lb - (intOf kv).toNat)
      case atStart => exact ⟨0, l, rfl, by omega, HLl, HR, HBl, I0, V0⟩
      case round =>
        obtain ⟨k, l, rfl, hk, HLl, HR, HBl, HI, HV⟩ := hrel
        clear I0 V0
        by_cases hlk : k < Lb
        · have xb := BG.out k
          have WN := Lib.hid (val16_next (a := b) (i := k) (by rw [BL.out]; exact hlk))
          have HG2 := GW.out
          have AC2 := Lib.hid (fun W (hW : Below g w W) => AC.out W (by rw [← HG2]; exact hW))
          have BC : Hid (∀ W : World, Below g w W → W.cell? ⟨gb, k, none⟩ = some (.int .i64 ((b.getD k 0 : Nat) : Int))) := Lib.hid fun W hW => (IRow.up HB.out (by rw [← HG2]; exact hW)).cell k (by rw [BL.out]; exact hlk)
          obtain ⟨y, hy⟩ : ∃ y, y = b.getD k 0 := ⟨_, rfl⟩
          rw [← hy] at xb WN BC
          obtain ⟨j0, hj0⟩ : ∃ j0, j0 = i + k := ⟨_, rfl⟩
          obtain ⟨j1, hj1⟩ : ∃ j1, j1 = j0 + 1 := ⟨_, rfl⟩
          have J0 := Lib.hid hj0
          have J1 := Lib.hid hj1
          have jl1 : j1 < L := by have := HL.out; omega
          have jl0 : j0 < L := by omega
          obtain ⟨vv, hv⟩ : ∃ vv, vv = x * y := ⟨_, rfl⟩
          have vb : vv ≤ 4294836225 := by rw [hv]; exact Nat.le_trans (Nat.mul_le_mul (show x ≤ 65535 by omega) (show y ≤ 65535 by omega)) (by decide)
          have VE : Hid ((x : Int) * (y : Int) = (vv : Int)) := Lib.hid (by rw [hv]; simp)
          have BI := HI.out.next (k := k) (v := vv) hlk (by rw [HLl.out, HL.out]; omega) vb
          have BV := bump_val (l := l) (j := j0) (v := vv) (by rw [HLl.out]; omega)
          rw [← hj0] at BI
          have HVV : val16 (bump l j0 vv) = A0 + x * 65536 ^ i * val16 (b.take (k + 1)) := by
            rw [BV, hj0, Nat.pow_add, WN.out]
            exact row_sum HV.out vv k hv
          have mh := (HI.out.1 hlk).here
          rw [← hj0] at mh
          have ms := (HI.out.1 hlk).small j1 (by omega)
          have CA : Hid (∀ W : World, IRow W g l → W.cell? ⟨g, j0, none⟩ = some (.int .i64 ((l.getD j0 0 : Nat) : Int))) := Lib.hid fun W hW => hW.cell j0 (by rw [HLl.out]; exact jl0)
          obtain ⟨xo, hxo⟩ : ∃ xo, xo = l.getD j0 0 := ⟨_, rfl⟩
          obtain ⟨yo, hyo⟩ : ∃ yo, yo = l.getD j1 0 := ⟨_, rfl⟩
          obtain ⟨s1, hs1⟩ : ∃ s1, s1 = xo + vv := ⟨_, rfl⟩
          obtain ⟨q, hq⟩ : ∃ q, q = s1 / 65536 := ⟨_, rfl⟩
          obtain ⟨s2, hs2⟩ : ∃ s2, s2 = yo + q := ⟨_, rfl⟩
          obtain ⟨r, hr⟩ : ∃ r, r = s1 % 65536 := ⟨_, rfl⟩
          have BM : Hid (((l.set j0 s1).set j1 s2).set j0 r = bump l j0 vv) := Lib.hid (by
            rw [hj1]
            exact bump_is (by rw [hs1, hxo]) hq (by rw [hs2, hyo, hj1]) hr)
          have CB : Hid (∀ W : World, IRow W g (l.set j0 s1) → W.cell? ⟨g, j1, none⟩ = some (.int .i64 (yo : Int)) ∧ W.cell? ⟨g, j0, none⟩ = some (.int .i64 (s1 : Int))) := Lib.hid fun W hW => by
            have k1 := hW.cell j1 (by rw [List.length_set, HLl.out]; exact jl1)
            have k2 := hW.cell j0 (by rw [List.length_set, HLl.out]; exact jl0)
            rw [ShaT.getD_set_ne (by omega), ← hyo] at k1
            rw [ShaT.getD_set_eq (by rw [HLl.out]; exact jl0)] at k2
            exact ⟨k1, k2⟩
          have CC : Hid (∀ W : World, IRow W g ((l.set j0 s1).set j1 s2) → W.cell? ⟨g, j0, none⟩ = some (.int .i64 (s1 : Int))) := Lib.hid fun W hW => by
            have k2 := hW.cell j0 (by rw [List.length_set, List.length_set, HLl.out]; exact jl0)
            rw [ShaT.getD_set_ne (by omega), ShaT.getD_set_eq (by rw [HLl.out]; exact jl0)] at k2
            exact k2
          rw [← hxo] at CA
          have S1 : Hid ((xo : Int) + (vv : Int) = (s1 : Int)) := Lib.hid (by omega)
          have Q1 : Hid ((s1 : Int) / 65536 = (q : Int)) := Lib.hid (by omega)
          have S2 : Hid ((yo : Int) + (q : Int) = (s2 : Int)) := Lib.hid (by omega)
          have xob : xo < 131071 := by rw [hxo]; exact mh
          have yob : yo < 65536 := by rw [hyo]; exact ms
          have s1b : s1 ≤ 4294967296 := by omega
          have qb : q ≤ 65536 := by omega
          have f3 : IntKind.i64.wrap ((i : Int) + (k : Int)) = (j0 : Int) := by rw [IntWalk.i64_in _ (by omega)]; omega
          have f4 : (s1 : Int).tmod 65536 = (r : Int) := by rw [Int.tmod_eq_emod_of_nonneg (by omega)]; omega
          have HI2 := Lib.hid BI
          have HV2 := Lib.hid HVV
          have BLN : Hid ((bump l j0 vv).length = L) := Lib.hid (by rw [bump_len]; exact HLl.out)
          have GB := HBl.out.size
          have K8 : Hid (∀ W : World, Below wr.drew.heap.size wr.drew W → IRow W g l) := Lib.hid fun W hW => IRow.up (show IRow wr.drew g l from HR.out) hW
          have G8 : Hid (∀ W : World, Below wr.drew.heap.size wr.drew W → Below g w W) := Lib.hid fun W hW => (below_drewN HBl.out 1).trans (hW.mono (Nat.le_of_lt (show g < wr.heap.size from HR.out.lt)))
          clear hy hj0 hj1 hv hxo hyo hs1 hq hs2 hr BI BV HVV mh ms HI HV AC HG2 WN
          go_wp2_with fail
          refine wp_region_free [0, 1, 2, 3, 4, 5, 6, 7, 8, 9, 10, 11, 12, 13, 14, 15, 16, 17, 18, 19] 20 [21] (fun w1 w2 => Below w1.heap.size w1 w2) (fun k' w' v => match k' with
            | 0 => v = .slice (some ⟨g, 0, none⟩) L L
            | 1 => v = .int .i64 ((i : Int))
            | 2 => v = .int .i64 ((k : Int))
            | 3 => v = .int .i64 ((i : Int) + ((k : Int)))
            | 4 => v = .slice (some ⟨g, 0, none⟩) L L
            | 5 => v = .int .i64 ((i : Int))
            | 6 => v = .int .i64 ((k : Int))
            | 7 => v = .int .i64 ((i : Int) + ((k : Int)))
            | 8 => v = .pointer (some ⟨g, j0, none⟩)
            | 9 => v = .int .i64 ((xo : Int))
            | 10 => v = .slice (some ⟨ga, 0, none⟩) La La
            | 11 => v = .int .i64 ((i : Int))
            | 12 => v = .pointer (some ⟨ga, i, none⟩)
            | 13 => v = .int .i64 ((x : Int))
            | 14 => v = .slice (some ⟨gb, 0, none⟩) Lb Lb
            | 15 => v = .int .i64 ((k : Int))
            | 16 => v = .pointer (some ⟨gb, k, none⟩)
            | 17 => v = .int .i64 ((y : Int))
            | 18 => v = .int .i64 ((vv : Int))
            | _ => v = .int .i64 ((s1 : Int))) (by kernel_rfl) (by kernel_rfl) (Below.refl _ _) (fun _ _ _ h k => h.trans (k.mono h.size)) (fun k' w1 w2 v h => match k' with
            | 0 => fun x => x
            | 1 => fun x => x
            | 2 => fun x => x
            | 3 => fun x => x
            | 4 => fun x => x
            | 5 => fun x => x
            | 6 => fun x => x
            | 7 => fun x => x
            | 8 => fun x => x
            | 9 => fun x => x
            | 10 => fun x => x
            | 11 => fun x => x
            | 12 => fun x => x
            | 13 => fun x => x
            | 14 => fun x => x
            | 15 => fun x => x
            | 16 => fun x => x
            | 17 => fun x => x
            | 18 => fun x => x
            | _ + 19 => fun x => x) (fun _ _ _ _ _ h => h) ?_ _ (by rfl) ?_
          · refine obs_cons (by rfl) (fun vals w' hgr hdep K hK => ?_) (obs_cons (by rfl) (fun vals w' hgr hdep K hK => ?_) (obs_cons (by rfl) (fun vals w' hgr hdep K hK => ?_) (obs_cons (by rfl) (fun vals w' hgr hdep K hK => ?_) (obs_cons (by rfl) (fun vals w' hgr hdep K hK => ?_) (obs_cons (by rfl) (fun vals w' hgr hdep K hK => ?_) (obs_cons (by rfl) (fun vals w' hgr hdep K hK => ?_) (obs_cons (by rfl) (fun vals w' hgr hdep K hK => ?_) (obs_cons (by rfl) (fun vals w' hgr hdep K hK => ?_) (obs_cons (by rfl) (fun vals w' hgr hdep K hK => ?_) (obs_cons (by rfl) (fun vals w' hgr hdep K hK => ?_) (obs_cons (by rfl) (fun vals w' hgr hdep K hK => ?_) (obs_cons (by rfl) (fun vals w' hgr hdep K hK => ?_) (obs_cons (by rfl) (fun vals w' hgr hdep K hK => ?_) (obs_cons (by rfl) (fun vals w' hgr hdep K hK => ?_) (obs_cons (by rfl) (fun vals w' hgr hdep K hK => ?_) (obs_cons (by rfl) (fun vals w' hgr hdep K hK => ?_) (obs_cons (by rfl) (fun vals w' hgr hdep K hK => ?_) (obs_cons (by rfl) (fun vals w' hgr hdep K hK => ?_) (obs_cons (by rfl) (fun vals w' hgr hdep K hK => ?_) (obs_nil))))))))))))))))))))
            · exact wp_move (.tmp 5) rfl _ (at_out _ (by kernel_rfl) rfl) (hK _ _ (Below.refl _ _) rfl)
            · exact wp_move (.tmp 6) rfl _ (at_out _ (by kernel_rfl) rfl) (hK _ _ (Below.refl _ _) rfl)
            · exact wp_move (.tmp 7) rfl _ (at_out _ (by kernel_rfl) rfl) (hK _ _ (Below.refl _ _) rfl)
            · exact wp_bin (.tmp 29) (.tmp 30) rfl _ _ _ ((at_dst 1 (by kernel_rfl)).trans (hdep 1 (by simp) (by kernel_rfl))) ((at_dst 2 (by kernel_rfl)).trans (hdep 2 (by simp) (by kernel_rfl))) (b_add _ _ _ _ _ (by omega) (by omega)) (hK _ _ (Below.refl _ _) rfl)
            · exact wp_move (.tmp 5) rfl _ (at_out _ (by kernel_rfl) rfl) (hK _ _ (Below.refl _ _) rfl)
            · exact wp_move (.tmp 6) rfl _ (at_out _ (by kernel_rfl) rfl) (hK _ _ (Below.refl _ _) rfl)
            · exact wp_move (.tmp 7) rfl _ (at_out _ (by kernel_rfl) rfl) (hK _ _ (Below.refl _ _) rfl)
            · exact wp_bin (.tmp 33) (.tmp 34) rfl _ _ _ ((at_dst 5 (by kernel_rfl)).trans (hdep 5 (by simp) (by kernel_rfl))) ((at_dst 6 (by kernel_rfl)).trans (hdep 6 (by simp) (by kernel_rfl))) (b_add _ _ _ _ _ (by omega) (by omega)) (hK _ _ (Below.refl _ _) rfl)
            · exact st_int_at0 (.tmp 32) (.tmp 35) rfl g  L L j0 _ ((at_dst 4 (by kernel_rfl)).trans (hdep 4 (by simp) (by kernel_rfl))) ((at_dst 7 (by kernel_rfl)).trans (hdep 7 (by simp) (by kernel_rfl))) (by have := J0.out; omega) (by omega) (hK _ _ (Below.refl _ _) rfl)
            · exact wp_load1 (.tmp 36) rfl ⟨g, j0, none⟩ ((at_dst 8 (by kernel_rfl)).trans (hdep 8 (by simp) (by kernel_rfl))) Tryd.underlying3 rfl _ (CA.out w' (K8.out w' hgr)) (hK _ _ (Below.refl _ _) rfl)
            · exact wp_move (.tmp 0) rfl _ (at_out _ (by kernel_rfl) rfl) (hK _ _ (Below.refl _ _) rfl)
            · exact wp_move (.tmp 6) rfl _ (at_out _ (by kernel_rfl) rfl) (hK _ _ (Below.refl _ _) rfl)
            · exact st_int_at0 (.tmp 38) (.tmp 39) rfl ga  La La i _ ((at_dst 10 (by kernel_rfl)).trans (hdep 10 (by simp) (by kernel_rfl))) ((at_dst 11 (by kernel_rfl)).trans (hdep 11 (by simp) (by kernel_rfl))) (by have := J0.out; omega) (by omega) (hK _ _ (Below.refl _ _) rfl)
            · exact wp_load1 (.tmp 40) rfl ⟨ga, i, none⟩ ((at_dst 12 (by kernel_rfl)).trans (hdep 12 (by simp) (by kernel_rfl))) Tryd.underlying3 rfl _ (AC2.out w' (G8.out w' hgr)) (hK _ _ (Below.refl _ _) rfl)
            · exact wp_move (.tmp 1) rfl _ (at_out _ (by kernel_rfl) rfl) (hK _ _ (Below.refl _ _) rfl)
            · exact wp_move (.tmp 7) rfl _ (at_out _ (by kernel_rfl) rfl) (hK _ _ (Below.refl _ _) rfl)
            · exact st_int_at0 (.tmp 42) (.tmp 43) rfl gb  Lb Lb k _ ((at_dst 14 (by kernel_rfl)).trans (hdep 14 (by simp) (by kernel_rfl))) ((at_dst 15 (by kernel_rfl)).trans (hdep 15 (by simp) (by kernel_rfl))) (by have := J0.out; omega) (by omega) (hK _ _ (Below.refl _ _) rfl)
            · exact wp_load1 (.tmp 44) rfl ⟨gb, k, none⟩ ((at_dst 16 (by kernel_rfl)).trans (hdep 16 (by simp) (by kernel_rfl))) Tryd.underlying3 rfl _ (BC.out w' (G8.out w' hgr)) (hK _ _ (Below.refl _ _) rfl)
            · exact wp_bin (.tmp 41) (.tmp 45) rfl _ _ _ ((at_dst 13 (by kernel_rfl)).trans (hdep 13 (by simp) (by kernel_rfl))) ((at_dst 17 (by kernel_rfl)).trans (hdep 17 (by simp) (by kernel_rfl))) (b_mul_eq _ _ _ _ _ _ VE.out (by omega) (by omega)) (hK _ _ (Below.refl _ _) rfl)
            · exact wp_bin (.tmp 37) (.tmp 46) rfl _ _ _ ((at_dst 9 (by kernel_rfl)).trans (hdep 9 (by simp) (by kernel_rfl))) ((at_dst 18 (by kernel_rfl)).trans (hdep 18 (by simp) (by kernel_rfl))) ((b_add _ _ _ _ _ (by omega) (by omega)).trans (by rw [S1.out])) (hK _ _ (Below.refl _ _) rfl)
          · intro vals w' hgr hG
            refine st_int_at0 (.tmp 28) (.tmp 31) rfl g L L j0 _ ((at_dst 0 (by kernel_rfl)).trans (hG 0 (by simp))) ((at_dst 3 (by kernel_rfl)).trans (hG 3 (by simp))) (by have := J0.out; omega) jl0 ?_
            have W8 := K8.out w' hgr
            have V8 := G8.out w' hgr
            refine wpAnyH_next 21 _ rfl rfl (by kernel_rfl) (st_store1 (.tmp 48) (.tmp 47) rfl ⟨g, j0, none⟩ (put_tmps_eq (fill_size _ _ _) (by kernel_rfl)) _ (put_tmps_ne (by rfl) ((at_dst 19 (by kernel_rfl)).trans (hG 19 (by simp)))) _ (CA.out w' W8) (W8.free j0) ⟨trivial, wpAnyH_done (by kernel_rfl) ?_ _⟩)
            have R1 : Hid (IRow (w'.setCell ⟨g, j0, none⟩ (.int .i64 (s1 : Int))) g (l.set j0 s1)) := Lib.hid (W8.put j0 s1)
            have B1 : Hid (Below g w (w'.setCell ⟨g, j0, none⟩ (.int .i64 (s1 : Int)))) := Lib.hid (V8.setCell (p := ⟨g, j0, none⟩) (Nat.le_refl _) _)
            clear hG hgr W8 V8 K8 G8 HR HBl CA AC2 BC
            simp only [fill, dstAt, List.getElem?_cons_zero, List.getElem?_cons_succ, Option.bind_some, Act.put, List.setIfInBounds_toArray, List.set_cons_zero, List.set_cons_succ]
            generalize w'.setCell ⟨g, j0, none⟩ (.int .i64 (s1 : Int)) = w3 at *
            generalize vals 0 = z0, vals 1 = z1, vals 2 = z2, vals 3 = z3, vals 4 = z4, vals 5 = z5, vals 6 = z6, vals 7 = z7, vals 8 = z8, vals 9 = z9, vals 10 = z10, vals 11 = z11, vals 12 = z12, vals 13 = z13, vals 14 = z14, vals 15 = z15, vals 16 = z16, vals 17 = z17, vals 18 = z18, vals 19 = z19 at *
            have K9 : Hid (∀ W : World, Below w3.drew.heap.size w3.drew W → IRow W g (l.set j0 s1)) := Lib.hid fun W hW => IRow.up (show IRow w3.drew g (l.set j0 s1) from R1.out) hW
            have G9 : Hid (∀ W : World, Below w3.drew.heap.size w3.drew W → Below g w W) := Lib.hid fun W hW => (below_drewN B1.out 1).trans (hW.mono (Nat.le_of_lt (show g < w3.heap.size from R1.out.lt)))
            go_wp2_with fail
            refine wp_region_free [0, 1, 2, 3, 4, 5, 6, 7, 8, 9, 10, 11, 12, 13, 14, 15, 16, 17, 18, 19] 20 [21] (fun w1 w2 => Below w1.heap.size w1 w2) (fun k' w' v => match k' with
              | 0 => v = .slice (some ⟨g, 0, none⟩) L L
              | 1 => v = .int .i64 ((i : Int))
              | 2 => v = .int .i64 ((k : Int))
              | 3 => v = .int .i64 ((i : Int) + ((k : Int)))
              | 4 => v = .int .i64 ((i : Int) + ((k : Int)) + 1)
              | 5 => v = .slice (some ⟨g, 0, none⟩) L L
              | 6 => v = .int .i64 ((i : Int))
              | 7 => v = .int .i64 ((k : Int))
              | 8 => v = .int .i64 ((i : Int) + ((k : Int)))
              | 9 => v = .int .i64 ((i : Int) + ((k : Int)) + 1)
              | 10 => v = .pointer (some ⟨g, j1, none⟩)
              | 11 => v = .int .i64 ((yo : Int))
              | 12 => v = .slice (some ⟨g, 0, none⟩) L L
              | 13 => v = .int .i64 ((i : Int))
              | 14 => v = .int .i64 ((k : Int))
              | 15 => v = .int .i64 ((i : Int) + ((k : Int)))
              | 16 => v = .pointer (some ⟨g, j0, none⟩)
              | 17 => v = .int .i64 ((s1 : Int))
              | 18 => v = .int .i64 ((q : Int))
              | _ => v = .int .i64 ((s2 : Int))) (by kernel_rfl) (by kernel_rfl) (Below.refl _ _) (fun _ _ _ h k => h.trans (k.mono h.size)) (fun k' w1 w2 v h => match k' with
              | 0 => fun x => x
              | 1 => fun x => x
              | 2 => fun x => x
              | 3 => fun x => x
              | 4 => fun x => x
              | 5 => fun x => x
              | 6 => fun x => x
              | 7 => fun x => x
              | 8 => fun x => x
              | 9 => fun x => x
              | 10 => fun x => x
              | 11 => fun x => x
              | 12 => fun x => x
              | 13 => fun x => x
              | 14 => fun x => x
              | 15 => fun x => x
              | 16 => fun x => x
              | 17 => fun x => x
              | 18 => fun x => x
              | _ + 19 => fun x => x) (fun _ _ _ _ _ h => h) ?_ _ (by rfl) ?_
            · refine obs_cons (by rfl) (fun vals w' hgr hdep K hK => ?_) (obs_cons (by rfl) (fun vals w' hgr hdep K hK => ?_) (obs_cons (by rfl) (fun vals w' hgr hdep K hK => ?_) (obs_cons (by rfl) (fun vals w' hgr hdep K hK => ?_) (obs_cons (by rfl) (fun vals w' hgr hdep K hK => ?_) (obs_cons (by rfl) (fun vals w' hgr hdep K hK => ?_) (obs_cons (by rfl) (fun vals w' hgr hdep K hK => ?_) (obs_cons (by rfl) (fun vals w' hgr hdep K hK => ?_) (obs_cons (by rfl) (fun vals w' hgr hdep K hK => ?_) (obs_cons (by rfl) (fun vals w' hgr hdep K hK => ?_) (obs_cons (by rfl) (fun vals w' hgr hdep K hK => ?_) (obs_cons (by rfl) (fun vals w' hgr hdep K hK => ?_) (obs_cons (by rfl) (fun vals w' hgr hdep K hK => ?_) (obs_cons (by rfl) (fun vals w' hgr hdep K hK => ?_) (obs_cons (by rfl) (fun vals w' hgr hdep K hK => ?_) (obs_cons (by rfl) (fun vals w' hgr hdep K hK => ?_) (obs_cons (by rfl) (fun vals w' hgr hdep K hK => ?_) (obs_cons (by rfl) (fun vals w' hgr hdep K hK => ?_) (obs_cons (by rfl) (fun vals w' hgr hdep K hK => ?_) (obs_cons (by rfl) (fun vals w' hgr hdep K hK => ?_) (obs_nil))))))))))))))))))))
              · exact wp_move (.tmp 5) rfl _ (at_out _ (by kernel_rfl) rfl) (hK _ _ (Below.refl _ _) rfl)
              · exact wp_move (.tmp 6) rfl _ (at_out _ (by kernel_rfl) rfl) (hK _ _ (Below.refl _ _) rfl)
              · exact wp_move (.tmp 7) rfl _ (at_out _ (by kernel_rfl) rfl) (hK _ _ (Below.refl _ _) rfl)
              · exact wp_bin (.tmp 50) (.tmp 51) rfl _ _ _ ((at_dst 1 (by kernel_rfl)).trans (hdep 1 (by simp) (by kernel_rfl))) ((at_dst 2 (by kernel_rfl)).trans (hdep 2 (by simp) (by kernel_rfl))) (b_add _ _ _ _ _ (by omega) (by omega)) (hK _ _ (Below.refl _ _) rfl)
              · exact wp_bin (.tmp 52) (.const (.int .i64 1)) rfl _ _ _ ((at_dst 3 (by kernel_rfl)).trans (hdep 3 (by simp) (by kernel_rfl))) rfl (b_add _ _ _ _ _ (by omega) (by omega)) (hK _ _ (Below.refl _ _) rfl)
              · exact wp_move (.tmp 5) rfl _ (at_out _ (by kernel_rfl) rfl) (hK _ _ (Below.refl _ _) rfl)
              · exact wp_move (.tmp 6) rfl _ (at_out _ (by kernel_rfl) rfl) (hK _ _ (Below.refl _ _) rfl)
              · exact wp_move (.tmp 7) rfl _ (at_out _ (by kernel_rfl) rfl) (hK _ _ (Below.refl _ _) rfl)
              · exact wp_bin (.tmp 55) (.tmp 56) rfl _ _ _ ((at_dst 6 (by kernel_rfl)).trans (hdep 6 (by simp) (by kernel_rfl))) ((at_dst 7 (by kernel_rfl)).trans (hdep 7 (by simp) (by kernel_rfl))) (b_add _ _ _ _ _ (by omega) (by omega)) (hK _ _ (Below.refl _ _) rfl)
              · exact wp_bin (.tmp 57) (.const (.int .i64 1)) rfl _ _ _ ((at_dst 8 (by kernel_rfl)).trans (hdep 8 (by simp) (by kernel_rfl))) rfl (b_add _ _ _ _ _ (by omega) (by omega)) (hK _ _ (Below.refl _ _) rfl)
              · exact st_int_at0 (.tmp 54) (.tmp 58) rfl g  L L j1 _ ((at_dst 5 (by kernel_rfl)).trans (hdep 5 (by simp) (by kernel_rfl))) ((at_dst 9 (by kernel_rfl)).trans (hdep 9 (by simp) (by kernel_rfl))) (by have := J0.out; have := J1.out; omega) (by omega) (hK _ _ (Below.refl _ _) rfl)
              · exact wp_load1 (.tmp 59) rfl ⟨g, j1, none⟩ ((at_dst 10 (by kernel_rfl)).trans (hdep 10 (by simp) (by kernel_rfl))) Tryd.underlying3 rfl _ ((CB.out w' (K9.out w' hgr)).1) (hK _ _ (Below.refl _ _) rfl)
              · exact wp_move (.tmp 5) rfl _ (at_out _ (by kernel_rfl) rfl) (hK _ _ (Below.refl _ _) rfl)
              · exact wp_move (.tmp 6) rfl _ (at_out _ (by kernel_rfl) rfl) (hK _ _ (Below.refl _ _) rfl)
              · exact wp_move (.tmp 7) rfl _ (at_out _ (by kernel_rfl) rfl) (hK _ _ (Below.refl _ _) rfl)
              · exact wp_bin (.tmp 62) (.tmp 63) rfl _ _ _ ((at_dst 13 (by kernel_rfl)).trans (hdep 13 (by simp) (by kernel_rfl))) ((at_dst 14 (by kernel_rfl)).trans (hdep 14 (by simp) (by kernel_rfl))) (b_add _ _ _ _ _ (by omega) (by omega)) (hK _ _ (Below.refl _ _) rfl)
              · exact st_int_at0 (.tmp 61) (.tmp 64) rfl g  L L j0 _ ((at_dst 12 (by kernel_rfl)).trans (hdep 12 (by simp) (by kernel_rfl))) ((at_dst 15 (by kernel_rfl)).trans (hdep 15 (by simp) (by kernel_rfl))) (by have := J0.out; have := J1.out; omega) (by omega) (hK _ _ (Below.refl _ _) rfl)
              · exact wp_load1 (.tmp 65) rfl ⟨g, j0, none⟩ ((at_dst 16 (by kernel_rfl)).trans (hdep 16 (by simp) (by kernel_rfl))) Tryd.underlying3 rfl _ ((CB.out w' (K9.out w' hgr)).2) (hK _ _ (Below.refl _ _) rfl)
              · exact wp_bin (.tmp 66) (.const (.int .i64 65536)) rfl _ _ _ ((at_dst 17 (by kernel_rfl)).trans (hdep 17 (by simp) (by kernel_rfl))) rfl ((b_quo _ _ _ _ _ (by omega) (by omega) (by omega)).trans (by rw [Q1.out])) (hK _ _ (Below.refl _ _) rfl)
              · exact wp_bin (.tmp 60) (.tmp 67) rfl _ _ _ ((at_dst 11 (by kernel_rfl)).trans (hdep 11 (by simp) (by kernel_rfl))) ((at_dst 18 (by kernel_rfl)).trans (hdep 18 (by simp) (by kernel_rfl))) ((b_add _ _ _ _ _ (by omega) (by omega)).trans (by rw [S2.out])) (hK _ _ (Below.refl _ _) rfl)
            · intro vals w' hgr hG
              refine st_int_at0 (.tmp 49) (.tmp 53) rfl g L L j1 _ ((at_dst 0 (by kernel_rfl)).trans (hG 0 (by simp))) ((at_dst 4 (by kernel_rfl)).trans (hG 4 (by simp))) (by have := J0.out; have := J1.out; omega) jl1 ?_
              have W8 := K9.out w' hgr
              have V8 := G9.out w' hgr
              refine wpAnyH_next 21 _ rfl rfl (by kernel_rfl) (st_store1 (.tmp 69) (.tmp 68) rfl ⟨g, j1, none⟩ (put_tmps_eq (fill_size _ _ _) (by kernel_rfl)) _ (put_tmps_ne (by rfl) ((at_dst 19 (by kernel_rfl)).trans (hG 19 (by simp)))) _ (CB.out w' W8).1 (W8.free j1) ⟨trivial, wpAnyH_done (by kernel_rfl) ?_ _⟩)
              have R2 : Hid (IRow (w'.setCell ⟨g, j1, none⟩ (.int .i64 (s2 : Int))) g ((l.set j0 s1).set j1 s2)) := Lib.hid (W8.put j1 s2)
              have B2 : Hid (Below g w (w'.setCell ⟨g, j1, none⟩ (.int .i64 (s2 : Int)))) := Lib.hid (V8.setCell (p := ⟨g, j1, none⟩) (Nat.le_refl _) _)
              clear hG hgr W8 V8 K9 G9 R1 B1 CB
              simp only [fill, dstAt, List.getElem?_cons_zero, List.getElem?_cons_succ, Option.bind_some, Act.put, List.setIfInBounds_toArray, List.set_cons_zero, List.set_cons_succ]
              generalize w'.setCell ⟨g, j1, none⟩ (.int .i64 (s2 : Int)) = w4 at *
              generalize vals 0 = y0, vals 1 = y1, vals 2 = y2, vals 3 = y3, vals 4 = y4, vals 5 = y5, vals 6 = y6, vals 7 = y7, vals 8 = y8, vals 9 = y9, vals 10 = y10, vals 11 = y11, vals 12 = y12, vals 13 = y13, vals 14 = y14, vals 15 = y15, vals 16 = y16, vals 17 = y17, vals 18 = y18, vals 19 = y19 at *
              have k3 := CC.out w4 R2.out
              have fz := R2.out.free j0
              have R3 : Hid (IRow (w4.setCell ⟨g, j0, none⟩ (.int .i64 (r : Int))) g (bump l j0 vv)) := Lib.hid (by rw [← BM.out]; exact R2.out.put j0 r)
              have B3 : Hid (Below g w (w4.setCell ⟨g, j0, none⟩ (.int .i64 (r : Int)))) := Lib.hid (B2.out.setCell (p := ⟨g, j0, none⟩) (Nat.le_refl _) _)
              clear R2 B2 CC BM
              go_wp2_with fail
              go_roundw
              case rel => exact ⟨k + 1, bump l j0 vv, by go_num, by omega, BLN, R3, B3, HI2, HV2⟩
              case measure => simp [intOf]; omega
        · obtain rfl : k = Lb := by omega
          have HS2 : Hid ((∀ j, l.getD j 0 < 65536) ∧ ∀ j, (i + 1) + k ≤ j → l.getD j 0 = 0) := Lib.hid (HI.out.2 rfl)
          have HV2 : Hid (val16 l = val16 (a.take (i + 1)) * val16 b) := Lib.hid (by
            have := HV.out
            rw [List.take_of_length_le (by rw [BL.out]; exact Nat.le_refl _), A0H.out] at this
            rw [this, VN.out, Nat.add_mul])
          clear HI HV
          go_wp2_with fail
          go_roundw
          case rel => exact ⟨i + 1, l, by go_num, by omega, HLl, HR, HBl, HS2, HV2⟩
          case measure => simp [intOf]; omega
    · obtain rfl : i = La := by omega
      have HS2 := Lib.hid HS.out.1
      have HV2 : Hid (val16 l = val16 a * val16 b) := Lib.hid (by
        have := HV.out
        rwa [List.take_of_length_le (by rw [AL.out]; exact Nat.le_refl _)] at this)
      clear HS HV
      go_wp2_with fail
      go_loopw [8] (fun kv wr => ∃ (j : Nat), kv = .int .i64 (j : Int) ∧ j < L ∧ Hid (IRow wr g l) ∧ Hid (Below g w wr)) (fun kv _ => L - (intOf kv).toNat)
      case atStart => exact ⟨0, rfl, by have := HL.out; omega, HR, HBl⟩
      case round =>
        obtain ⟨j, rfl, hj, KR, KB⟩ := hrel
        clear HR HBl
        by_cases hl2 : j + 1 < L
        · obtain ⟨j1, hj1⟩ : ∃ j1, j1 = j + 1 := ⟨_, rfl⟩
          have J1 := Lib.hid hj1
          have f5 : IntKind.i64.wrap ((j : Int) + 1) = (j1 : Int) := by rw [IntWalk.i64_in _ (by omega)]; omega
          have gd : decide ((j1 : Int) < (L : Int)) = true := decide_eq_true (by omega)
          have CD : Hid (∀ W : World, IRow W g l → W.cell? ⟨g, j1, none⟩ = some (.int .i64 ((l.getD j1 0 : Nat) : Int)) ∧ W.cell? ⟨g, j, none⟩ = some (.int .i64 ((l.getD j 0 : Nat) : Int))) := Lib.hid fun W hW => ⟨hW.cell j1 (by rw [HLl.out]; omega), hW.cell j (by rw [HLl.out]; omega)⟩
          have SA : Hid (l.set j1 (l.getD j1 0) = l) := Lib.hid (set_same l j1)
          have SB : Hid (l.set j (l.getD j 0) = l) := Lib.hid (set_same l j)
          have yb := HS2.out j1
          have xb := HS2.out j
          have jl1 : j1 < L := by omega
          generalize l.getD j1 0 = y at *
          generalize l.getD j 0 = x at *
          have Q1 : Hid ((x : Int) / 65536 = 0) := Lib.hid (by omega)
          have S2 : Hid ((y : Int) + 0 = (y : Int)) := Lib.hid (by omega)
          have f4 : (x : Int).tmod 65536 = (x : Int) := by rw [Int.tmod_eq_emod_of_nonneg (by omega)]; omega
          have GB := KB.out.size
          have K4 : Hid (∀ W : World, Below wr.drew.heap.size wr.drew W → IRow W g l) := Lib.hid fun W hW => IRow.up (show IRow wr.drew g l from KR.out) hW
          have G4 : Hid (∀ W : World, Below wr.drew.heap.size wr.drew W → Below g w W) := Lib.hid fun W hW => (below_drewN KB.out 1).trans (hW.mono (Nat.le_of_lt (show g < wr.heap.size from KR.out.lt)))
          clear hj1
          go_wp2_with fail
          refine wp_region_free [0, 1, 2, 3, 4, 5, 6, 7, 8, 9, 10, 11, 12, 13] 14 [15] (fun w1 w2 => Below w1.heap.size w1 w2) (fun k' w' v => match k' with
            | 0 => v = .slice (some ⟨g, 0, none⟩) L L
            | 1 => v = .int .i64 ((j : Int))
            | 2 => v = .int .i64 ((j : Int) + 1)
            | 3 => v = .slice (some ⟨g, 0, none⟩) L L
            | 4 => v = .int .i64 ((j : Int))
            | 5 => v = .int .i64 ((j : Int) + 1)
            | 6 => v = .pointer (some ⟨g, j1, none⟩)
            | 7 => v = .int .i64 ((y : Int))
            | 8 => v = .slice (some ⟨g, 0, none⟩) L L
            | 9 => v = .int .i64 ((j : Int))
            | 10 => v = .pointer (some ⟨g, j, none⟩)
            | 11 => v = .int .i64 ((x : Int))
            | 12 => v = .int .i64 0
            | _ => v = .int .i64 ((y : Int))) (by kernel_rfl) (by kernel_rfl) (Below.refl _ _) (fun _ _ _ h k => h.trans (k.mono h.size)) (fun k' w1 w2 v h => match k' with
            | 0 => fun x => x
            | 1 => fun x => x
            | 2 => fun x => x
            | 3 => fun x => x
            | 4 => fun x => x
            | 5 => fun x => x
            | 6 => fun x => x
            | 7 => fun x => x
            | 8 => fun x => x
            | 9 => fun x => x
            | 10 => fun x => x
            | 11 => fun x => x
            | 12 => fun x => x
            | _ + 13 => fun x => x) (fun _ _ _ _ _ h => h) ?_ _ (by rfl) ?_
          · refine obs_cons (by rfl) (fun vals w' hgr hdep K hK => ?_) (obs_cons (by rfl) (fun vals w' hgr hdep K hK => ?_) (obs_cons (by rfl) (fun vals w' hgr hdep K hK => ?_) (obs_cons (by rfl) (fun vals w' hgr hdep K hK => ?_) (obs_cons (by rfl) (fun vals w' hgr hdep K hK => ?_) (obs_cons (by rfl) (fun vals w' hgr hdep K hK => ?_) (obs_cons (by rfl) (fun vals w' hgr hdep K hK => ?_) (obs_cons (by rfl) (fun vals w' hgr hdep K hK => ?_) (obs_cons (by rfl) (fun vals w' hgr hdep K hK => ?_) (obs_cons (by rfl) (fun vals w' hgr hdep K hK => ?_) (obs_cons (by rfl) (fun vals w' hgr hdep K hK => ?_) (obs_cons (by rfl) (fun vals w' hgr hdep K hK => ?_) (obs_cons (by rfl) (fun vals w' hgr hdep K hK => ?_) (obs_cons (by rfl) (fun vals w' hgr hdep K hK => ?_) (obs_nil))))))))))))))
            · exact wp_move (.tmp 5) rfl _ (at_out _ (by kernel_rfl) rfl) (hK _ _ (Below.refl _ _) rfl)
            · exact wp_move (.tmp 8) rfl _ (at_out _ (by kernel_rfl) rfl) (hK _ _ (Below.refl _ _) rfl)
            · exact wp_bin (.tmp 90) (.const (.int .i64 1)) rfl _ _ _ ((at_dst 1 (by kernel_rfl)).trans (hdep 1 (by simp) (by kernel_rfl))) rfl (b_add _ _ _ _ _ (by omega) (by omega)) (hK _ _ (Below.refl _ _) rfl)
            · exact wp_move (.tmp 5) rfl _ (at_out _ (by kernel_rfl) rfl) (hK _ _ (Below.refl _ _) rfl)
            · exact wp_move (.tmp 8) rfl _ (at_out _ (by kernel_rfl) rfl) (hK _ _ (Below.refl _ _) rfl)
            · exact wp_bin (.tmp 93) (.const (.int .i64 1)) rfl _ _ _ ((at_dst 4 (by kernel_rfl)).trans (hdep 4 (by simp) (by kernel_rfl))) rfl (b_add _ _ _ _ _ (by omega) (by omega)) (hK _ _ (Below.refl _ _) rfl)
            · exact st_int_at0 (.tmp 92) (.tmp 94) rfl g  L L j1 _ ((at_dst 3 (by kernel_rfl)).trans (hdep 3 (by simp) (by kernel_rfl))) ((at_dst 5 (by kernel_rfl)).trans (hdep 5 (by simp) (by kernel_rfl))) (by have := J1.out; omega) (by omega) (hK _ _ (Below.refl _ _) rfl)
            · exact wp_load1 (.tmp 95) rfl ⟨g, j1, none⟩ ((at_dst 6 (by kernel_rfl)).trans (hdep 6 (by simp) (by kernel_rfl))) Tryd.underlying3 rfl _ ((CD.out w' (K4.out w' hgr)).1) (hK _ _ (Below.refl _ _) rfl)
            · exact wp_move (.tmp 5) rfl _ (at_out _ (by kernel_rfl) rfl) (hK _ _ (Below.refl _ _) rfl)
            · exact wp_move (.tmp 8) rfl _ (at_out _ (by kernel_rfl) rfl) (hK _ _ (Below.refl _ _) rfl)
            · exact st_int_at0 (.tmp 97) (.tmp 98) rfl g  L L j _ ((at_dst 8 (by kernel_rfl)).trans (hdep 8 (by simp) (by kernel_rfl))) ((at_dst 9 (by kernel_rfl)).trans (hdep 9 (by simp) (by kernel_rfl))) (by have := J1.out; omega) (by omega) (hK _ _ (Below.refl _ _) rfl)
            · exact wp_load1 (.tmp 99) rfl ⟨g, j, none⟩ ((at_dst 10 (by kernel_rfl)).trans (hdep 10 (by simp) (by kernel_rfl))) Tryd.underlying3 rfl _ ((CD.out w' (K4.out w' hgr)).2) (hK _ _ (Below.refl _ _) rfl)
            · exact wp_bin (.tmp 100) (.const (.int .i64 65536)) rfl _ _ _ ((at_dst 11 (by kernel_rfl)).trans (hdep 11 (by simp) (by kernel_rfl))) rfl ((b_quo _ _ _ _ _ (by omega) (by omega) (by omega)).trans (by rw [Q1.out])) (hK _ _ (Below.refl _ _) rfl)
            · exact wp_bin (.tmp 96) (.tmp 101) rfl _ _ _ ((at_dst 7 (by kernel_rfl)).trans (hdep 7 (by simp) (by kernel_rfl))) ((at_dst 12 (by kernel_rfl)).trans (hdep 12 (by simp) (by kernel_rfl))) ((b_add _ _ _ _ _ (by omega) (by omega)).trans (by rw [S2.out])) (hK _ _ (Below.refl _ _) rfl)
          · intro vals w' hgr hG
            refine st_int_at0 (.tmp 89) (.tmp 91) rfl g L L j1 _ ((at_dst 0 (by kernel_rfl)).trans (hG 0 (by simp))) ((at_dst 2 (by kernel_rfl)).trans (hG 2 (by simp))) (by have := J1.out; omega) jl1 ?_
            have W8 := K4.out w' hgr
            have V8 := G4.out w' hgr
            refine wpAnyH_next 15 _ rfl rfl (by kernel_rfl) (st_store1 (.tmp 103) (.tmp 102) rfl ⟨g, j1, none⟩ (put_tmps_eq (fill_size _ _ _) (by kernel_rfl)) _ (put_tmps_ne (by rfl) ((at_dst 13 (by kernel_rfl)).trans (hG 13 (by simp)))) _ (CD.out w' W8).1 (W8.free j1) ⟨trivial, wpAnyH_done (by kernel_rfl) ?_ _⟩)
            have R2 : Hid (IRow (w'.setCell ⟨g, j1, none⟩ (.int .i64 (y : Int))) g l) := Lib.hid (by have := W8.put j1 y; rwa [SA.out] at this)
            have B2 : Hid (Below g w (w'.setCell ⟨g, j1, none⟩ (.int .i64 (y : Int)))) := Lib.hid (V8.setCell (p := ⟨g, j1, none⟩) (Nat.le_refl _) _)
            clear hG hgr W8 V8 K4 G4 KR KB
            simp only [fill, dstAt, List.getElem?_cons_zero, List.getElem?_cons_succ, Option.bind_some, Act.put, List.setIfInBounds_toArray, List.set_cons_zero, List.set_cons_succ]
            generalize w'.setCell ⟨g, j1, none⟩ (.int .i64 (y : Int)) = w4 at *
            generalize vals 0 = y0, vals 1 = y1, vals 2 = y2, vals 3 = y3, vals 4 = y4, vals 5 = y5, vals 6 = y6, vals 7 = y7, vals 8 = y8, vals 9 = y9, vals 10 = y10, vals 11 = y11, vals 12 = y12, vals 13 = y13 at *
            have k3 := (CD.out w4 R2.out).2
            have fz := R2.out.free j
            have R3 : Hid (IRow (w4.setCell ⟨g, j, none⟩ (.int .i64 (x : Int))) g l) := Lib.hid (by have := R2.out.put j x; rwa [SB.out] at this)
            have B3 : Hid (Below g w (w4.setCell ⟨g, j, none⟩ (.int .i64 (x : Int)))) := Lib.hid (B2.out.setCell (p := ⟨g, j, none⟩) (Nat.le_refl _) _)
            have E1 : Hid (((j + 1 : Nat) : Int) = (j1 : Int)) := Lib.hid (by rw [J1.out])
            clear R2 B2 CD
            go_wp2_with fail
            go_roundw
            case rel => exact ⟨j + 1, by first | (rw [E1.out]; done) | go_num, hl2, R3, B3⟩
            case measure => have := J1.out; simp [intOf]; omega
        · obtain rfl : j = L - 1 := by omega
          have e1 : IntKind.i64.wrap (((L - 1 : Nat) : Int) + 1) = (L : Int) := by rw [IntWalk.i64_in _ (by omega)]; omega
          have gd : decide ((L : Int) < (L : Int)) = false := decide_eq_false (by omega)
          have RES : Hid (∀ x ∈ l, x < 65536) := Lib.hid fun x hx => by
            obtain ⟨t, ht, rfl⟩ := List.mem_iff_getElem.1 hx
            have := HS2.out t
            rwa [List.getD_eq_getElem?_getD, List.getElem?_eq_getElem ht] at this
          go_wp2_with fail
          go_ret
          exact ⟨g, l, by rw [HL.out]; rfl, KR.out, by rw [HLl.out, HL.out], HV2.out, RES.out, by rw [GW.out]; exact Nat.le_refl _, by rw [← GW.out]; exact KB.out⟩
end Go.Proofs.YtbcfeecdmkcngaaDoor.Times
