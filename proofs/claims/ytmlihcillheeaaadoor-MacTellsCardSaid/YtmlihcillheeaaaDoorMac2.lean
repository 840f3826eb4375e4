/- Contracts of the code: masked, Full, Tag. -/
import Derived.Test.YtmlihcillheeaaaDoorMac1
import Derived.Test.YtmlihcillheeaaaDoorDigA
set_option linter.unusedVariables false
namespace Go.Proofs.YtmlihcillheeaaaDoor.Mac2
open Go.RowKit Go.PlainAid Go.Proofs.YtmlihcillheeaaaDoor.Sums Go.Proofs.YtmlihcillheeaaaDoor.Mem Go.Proofs.YtmlihcillheeaaaDoor.Blk Go.Proofs.YtmlihcillheeaaaDoor.Bits3 Go.Proofs.YtmlihcillheeaaaDoor.Ints Go.Proofs.YtmlihcillheeaaaDoor.Both Go.Proofs.YtmlihcillheeaaaDoor.CutA Go.Proofs.YtmlihcillheeaaaDoor.ShaD Go.Proofs.YtmlihcillheeaaaDoor.ShaO Go.Proofs.YtmlihcillheeaaaDoor.Dig1 Go.Proofs.YtmlihcillheeaaaDoor.Dig9 Go.Proofs.YtmlihcillheeaaaDoor.DigA Go.Proofs.YtmlihcillheeaaaDoor.MacD Go.Proofs.YtmlihcillheeaaaDoor.Mac1

theorem wpList_copy_key {w : World} {ops : Array Oper} {rest : List Oper} {o : Oper} {a : Act} {Q : Exit → Act → World → Prop} (hgd : o.guard = none) (d s : Operand)
    (ho : o.op = .call { callee := .builtin .copy, args := #[d, s], argTypes := #[22, 22] }) (g : Nat) (A : Option Addr) (n c : Nat) (ks : List Int) (B : Nat) (Z : Array Value) (hZ : Z = bcells (List.replicate 64 0))
    (hd : a.eval d = .slice (some ⟨g, 0, none⟩) 64 64) (hs : a.eval s = .slice A n c) (hg : Blk w g 43 Z) (h : Holds w B A n c ks) (hn : n ≤ 64)
    (K : wpList Tryd.prog ops Q rest (a.put o.dst (.int .i64 (n : Int))) (w.setRow g (bcells (padK (nats ks))))) : wpList Tryd.prog ops Q (o :: rest) a w := by
  refine wpList_plain hgd fun K' hK => ?_
  subst hZ
  have hr := copy_key w g A n c ks B hg h hn o.type
  unfold Oper.wp execOp
  simp only [ho, resolve, invoke, builtin, Sem.run_bind, Sem.run_pure, Result.andThen_ok, List.map_toArray, List.map_cons, List.map_nil, hd, hs, hr]
  exact hK _ _ K

/-- A digest of rows that are put together at the call. -/
theorem of_lit {w : World} {B : Nat} (hB : B ≤ w.heap.size) (rs : List Row) (cs : Array Value) (hc : cs.toList = rs.map fun r => Value.slice r.A r.n r.c) (h : ∀ r ∈ rs, Holds w B r.A r.n r.c r.l)
    (g m : Nat) (hg : w.heap.size = g) (hm : rs.length = m) (h1 : m ≤ 1000) (h2 : total rs ≤ 1048576) (hT : Tab w) (D : List Nat) (hD : nats (flat rs) = D) :
    Calls Tryd.prog 14 #[.slice (some ⟨g, 0, none⟩) m m] (w.alloc (.cells cs 22)) fun e w' => ∃ A' c', e = .returned (.slice A' 32 c') ∧ Owns w' w.heap.size (.slice A' 32 c') 32 (ints (digest D)) ∧ Below w.heap.size w w' := by
  subst hg
  have P := parts_lit hB rs cs 22 hc h w.heap.size rfl
  have B1 := (Below.refl w.heap.size w).alloc (Nat.le_refl _) (.cells cs 22)
  have sz : (w.alloc (.cells cs 22)).heap.size = w.heap.size + 1 := by simp
  refine (of_no _ m m rs _ _ P hm (by rw [sz]; exact Nat.le_refl _) (by omega) (flat_len fun r hr => (h r hr).1) h2 (hT.up B1)).mono ?_
  rintro e w' ⟨v, rfl, o, hb⟩
  rw [hD] at o
  obtain ⟨A', c', rfl, _⟩ := o.slice
  exact ⟨A', c', rfl, o.mono (by rw [sz]; omega), B1.trans (hb.mono (by rw [sz]; omega))⟩
theorem nats_one (A : Option Addr) (n c : Nat) (l : List Int) : nats (flat [⟨A, n, c, l⟩]) = nats l := by simp [flat]

set_option maxHeartbeats 1000000 in
set_option maxRecDepth 100000 in
theorem masked_any (A : Option Addr) (n c : Nat) (ks : List Int) (w : World) (B : Nat) (h : Holds w B A n c ks) (hB : B ≤ w.heap.size) (hn : n ≤ 1000000) (hT : Tab w) :
    Calls Tryd.prog 15 #[.slice A n c] w fun e w' => ∃ g, e = .returned (.func (.func 21) #[] #[.pointer (some ⟨g, 0, none⟩)]) ∧ w.heap.size ≤ g ∧ Blk w' g 43 (bcells (padK (kOf (nats ks)))) ∧ Below w.heap.size w w' := by
  have hz := zero_64
  have CU := fun (g : Nat) (W : World) => cut_64 g W
  have KL : (nats ks).length = n := (nats_len ks).trans h.1
  obtain ⟨Z, hZ⟩ : ∃ Z, Z = bcells (List.replicate 64 0) := ⟨_, rfl⟩
  rw [← hZ] at hz
  have SZ : Z.size = 64 := by rw [hZ]; simp [bcells]
  have HZ : (Z = #[]) = False := eq_false fun e => by rw [e] at SZ; simp at SZ
  have ZE := Lib.hid hZ
  have HK := Lib.hid h
  clear hZ h
  by_cases hk : 64 < n
  · have KE : Hid (kOf (nats ks) = digest (nats ks)) := Lib.hid (by unfold kOf; rw [if_pos (by rw [KL]; exact hk)])
    rw [KE.out]
    have C := Lib.hid (of_lit hB [⟨A, n, c, ks⟩] #[.slice A n c] rfl (mem1 HK.out) w.heap.size 1 rfl rfl (by decide) (by show n + 0 ≤ 1048576; omega) hT _ (nats_one A n c ks))
    have gk : decide ((64 : Int) < (n : Int)) = true := decide_eq_true (by omega)
    obtain ⟨D, hD⟩ : ∃ D, D = digest (nats ks) := ⟨_, rfl⟩
    rw [← hD] at C ⊢
    clear hk KE KL HK hD hT
    go_enter Tryd.func15, Tryd.ntmps15
    go_wp2_with fail
    refine C.out.mono ?_
    rintro e w1 ⟨Ak, ck, rfl, o1, hb⟩
    have H1 := o1.holds
    have BZ : Blk (w1.alloc (.cells Z 43)) w1.heap.size 43 Z := Blk.new w1 _ _
    have H2 := Lib.hid (H1.below ((Below.refl w1.heap.size w1).alloc (Nat.le_refl _) (.cells Z 43)))
    have B1 := Lib.hid (hb.alloc hb.size (.cells Z 43))
    have GS := Lib.hid hb.size
    clear hb o1 H1 C
    go_wp2_with (first
      | (refine wpList_copy_key rfl _ _ rfl w1.heap.size Ak 32 ck _ w1.heap.size Z ZE.out rfl rfl BZ H2.out (by decide) ?_))
    go_ret
    refine ⟨w1.heap.size, rfl, GS.out, ?_, below_setRow B1.out GS.out⟩
    rw [nats_ints]
    exact setRow_heap _ _ _ _ _ _ BZ
  · have KE : Hid (kOf (nats ks) = nats ks) := Lib.hid (by unfold kOf; rw [if_neg (by rw [KL]; exact hk)])
    rw [KE.out]
    have gk : decide ((64 : Int) < (n : Int)) = false := decide_eq_false (by omega)
    have BZ : Blk (w.alloc (.cells Z 43)) w.heap.size 43 Z := Blk.new w _ _
    have H2 := Lib.hid ((HK.out.more hB).below ((Below.refl w.heap.size w).alloc (Nat.le_refl _) (.cells Z 43)))
    have B1 := Lib.hid ((Below.refl w.heap.size w).alloc (Nat.le_refl _) (.cells Z 43))
    have hk2 : n ≤ 64 := by omega
    clear hk KE KL HK hT
    go_enter Tryd.func15, Tryd.ntmps15
    go_wp2_with (first
      | (refine wpList_copy_key rfl _ _ rfl w.heap.size A n c _ w.heap.size Z ZE.out rfl rfl BZ H2.out hk2 ?_))
    go_ret
    exact ⟨w.heap.size, rfl, Nat.le_refl _, setRow_heap _ _ _ _ _ _ BZ, below_setRow B1.out (Nat.le_refl _)⟩
end Go.Proofs.YtmlihcillheeaaaDoor.Mac2
