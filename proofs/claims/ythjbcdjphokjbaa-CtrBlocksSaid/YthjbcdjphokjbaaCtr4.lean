/- The contract of the code's Stream. -/
import Derived.Test.YthjbcdjphokjbaaCtr3
set_option linter.unusedVariables false
namespace Go.Proofs.Ythjbcdjphokjbaa.Ctr4
open Go.RowKit Go.Shelf Go.PlainAid Go.Proofs.Ythjbcdjphokjbaa.Sums Go.Proofs.Ythjbcdjphokjbaa.Mem Go.Proofs.Ythjbcdjphokjbaa.Blk Go.Proofs.Ythjbcdjphokjbaa.Bits3 Go.Proofs.Ythjbcdjphokjbaa.Ints Go.Proofs.Ythjbcdjphokjbaa.CutA Go.Proofs.Ythjbcdjphokjbaa.CtrD Go.Proofs.Ythjbcdjphokjbaa.AesB Go.Proofs.Ythjbcdjphokjbaa.AesK Go.Proofs.Ythjbcdjphokjbaa.AesR3 Go.Proofs.Ythjbcdjphokjbaa.Aes2 Go.Proofs.Ythjbcdjphokjbaa.Aes6 Go.Proofs.Ythjbcdjphokjbaa.Aes7 Go.Proofs.Ythjbcdjphokjbaa.Aes8 Go.Proofs.Ythjbcdjphokjbaa.Aes9 Go.Proofs.Ythjbcdjphokjbaa.Ctr1 Go.Proofs.Ythjbcdjphokjbaa.Ctr2 Go.Proofs.Ythjbcdjphokjbaa.Ctr3 Go.Proofs.Ythjbcdjphokjbaa.Yield
attribute [local go_sem] Oper.semAt_some

theorem err_key {kn sn vn : Nat} {n : Int} (h : ¬ (kn = 16 ∨ kn = 32)) : errS kn sn vn n = 1 := by simp [errS, h]
theorem err_rest {kn sn vn : Nat} {n : Int} (h : kn = 16 ∨ kn = 32) : errS kn sn vn n = errE sn vn n := by
  unfold errS errE
  by_cases a : sn = 4 ∧ vn = 8
  · rw [if_pos a]
    by_cases b : n < 0
    · rw [if_pos b, if_neg (by omega)]
    · rw [if_neg b, if_pos ⟨h, a.1, a.2, by omega⟩]
  · rw [if_neg a, if_neg (by omega)]
theorem errE_in (sn vn : Nat) (n : Int) : errE sn vn n = 0 ∨ errE sn vn n = 1 ∨ errE sn vn n = 2 := by
  unfold errE; split <;> (try split) <;> (try split) <;> simp

set_option maxHeartbeats 1000000 in
theorem stream_bad (Ak : Option Addr) (kn ck : Nat) (ky : List Int) (As : Option Addr) (sn cs : Nat) (sa : List Int) (Av : Option Addr) (vn cv : Nat) (iv : List Int) (n : Int) (w : World) (B : Nat) (hk : Holds w B Ak kn ck ky) (hs : Holds w B As sn cs sa) (hv : Holds w B Av vn cv iv) (hB : B ≤ w.heap.size) (hkn : kn ≤ 140737488355328) (he : errS kn sn vn n ≠ 0) :
    Calls Try.prog 11 #[.slice Ak kn ck, .slice As sn cs, .slice Av vn cv, .int .i64 n] w fun e w' => e = .returned (.tuple #[.slice none 0 0, .int .i64 (errS kn sn vn n)]) ∧ Below w.heap.size w w' := by
  by_cases h : kn = 16 ∨ kn = 32
  · have C := Lib.hid (keys_ok Ak kn ck ky w B hk hB h)
    have HS := Lib.hid hs
    have HV := Lib.hid hv
    have E := Lib.hid (err_rest (sn := sn) (vn := vn) (n := n) h)
    rw [E.out] at he ⊢
    have X : Hid (∀ W, Below w.heap.size w W → Calls Try.prog 19 #[.slice As sn cs, .slice Av vn cv, .int .i64 n] W fun e w' => e = .returned (.int .i64 (errE sn vn n)) ∧ Below W.heap.size W w') := Lib.hid fun W hW => examine_any As Av sn cs vn cv sa iv n W B (HS.out.below (hW.mono hB)) (HV.out.below (hW.mono hB)) (by have := hW.size; omega)
    have g1 : (errE sn vn n != 0) = true := by simpa using he
    generalize errE sn vn n = er at *
    clear hk hs hv E h he
    go_enter Try.func11, Try.ntmps11
    go_wp2_with fail
    refine C.out.mono ?_
    rintro e w1 ⟨g, L, rfl, hL, hL2, hg, hrow, hb⟩
    have HB := Lib.hid hb
    clear hL hL2 hg hrow hb C
    go_wp2_with fail
    refine (X.out _ HB.out).mono ?_
    rintro e w2 ⟨rfl, hb⟩
    have HB2 := Lib.hid (HB.out.trans (hb.mono HB.out.size))
    clear hb
    go_wp2_with fail
    go_ret2
    exact ⟨rfl, HB2.out⟩
  · have C := Lib.hid (keys_bad Ak kn ck w hkn (fun e => h (.inl e)) (fun e => h (.inr e)))
    rw [err_key h]
    clear hk hs hv h he
    go_enter Try.func11, Try.ntmps11
    go_wp2_with fail
    refine C.out.mono ?_
    rintro e w1 ⟨rfl, rfl⟩
    go_wp2_with fail
    go_ret2
    exact ⟨rfl, Below.refl _ _⟩

theorem fil_get (f : Nat → Nat) (n j i : Nat) (h : i < n) : (fil f n j)[i]? = some (if i < j then f i else 0) := by
  unfold fil
  rw [List.getElem?_map, List.getElem?_range h]
  rfl
/-- A block copied to its place. -/
theorem fil_copy (f : Nat → Nat) (n p k : Nat) (bl : List Nat) (hk : k ≤ bl.length) (hp : p + k ≤ n) (hf : ∀ j, j < k → bl.getD j 0 = f (p + j)) :
    (fil f n p).take p ++ (bl.take k ++ (fil f n p).drop (p + k)) = fil f n (p + k) := by
  have L := fil_len f n p
  apply List.ext_getElem?
  intro i
  have lt : ((fil f n p).take p).length = p := by rw [List.length_take, L]; omega
  have lb : (bl.take k).length = k := by rw [List.length_take]; omega
  by_cases h1 : i < p
  · rw [List.getElem?_append_left (by omega), List.getElem?_take, if_pos h1, fil_get _ _ _ _ (by omega), fil_get _ _ _ _ (by omega), if_pos h1, if_pos (by omega)]
  · rw [List.getElem?_append_right (by omega), lt]
    by_cases h2 : i < p + k
    · rw [List.getElem?_append_left (by omega), List.getElem?_take, if_pos (by omega), fil_get _ _ _ _ (by omega), if_pos h2]
      have := hf (i - p) (by omega)
      rw [List.getD_eq_getElem?_getD, List.getElem?_eq_getElem (by omega)] at this
      rw [List.getElem?_eq_getElem (by omega)]
      simp only [Option.getD_some] at this
      rw [this, show p + (i - p) = i by omega]
    · rw [List.getElem?_append_right (by omega), lb, List.getElem?_drop, show p + k + (i - p - k) = i by omega]
      by_cases h3 : i < n
      · rw [fil_get _ _ _ _ h3, fil_get _ _ _ _ h3, if_neg (by omega), if_neg (by omega)]
      · rw [List.getElem?_eq_none (by rw [L]; omega), List.getElem?_eq_none (by rw [fil_len]; omega)]
theorem copy_part (W : World) (r g p n k : Nat) (f : Nat → Nat) (t : TypeId) (bl : List Nat) (hr : BRow W r (fil f n p)) (hb : ARow W g t bl) (hl : bl.length = 16) (hp : p < n) (hk : k = Nat.min 16 (n - p)) (hf : ∀ j, j < 16 → bl.getD j 0 = f (p + j)) (ty : TypeId) :
    (Builtin.copy_ #[22, 22] ty #[.slice (some ⟨r, p, none⟩) (n - p) (n - p), .slice (some ⟨g, 0, none⟩) 16 16]).run Try.prog W = .ok (.int .i64 (k : Int)) (W.setRow r (bcells (fil f n (p + k)))) := by
  have k1 : k ≤ 16 := by rw [hk]; exact Nat.min_le_left _ _
  have k2 : k ≤ n - p := by rw [hk]; exact Nat.min_le_right _ _
  have cl : (bcells (bl.take k)).toList.length = k := by simp [bcells]; omega
  have e := run_copy_row (P := Try.prog) W 22 22 ty 5 r p (n - p) (n - p) ⟨g, 0, none⟩ 16 16 (bcells (fil f n p)) 5 (bcells (bl.take k)).toList Try.underlying22 (by kernel_rfl) hr (by rw [cl, hk]) ?_ ?_ ?_
  · rw [e, cl]
    have e2 : ((bcells (fil f n p)).toList.take p ++ (bcells (bl.take k)).toList ++ (bcells (fil f n p)).toList.drop (p + k)).toArray = bcells (fil f n (p + k)) := by
      rw [← fil_copy f n p k bl (by omega) (by omega) fun j hj => hf j (by omega)]
      simp [bcells, List.map_drop, List.map_take]
    rw [e2]
    rfl
  · intro j v hv
    obtain ⟨hj, rfl⟩ := bcells_mem hv
    have hj' : j < bl.length := by rw [List.length_take] at hj; omega
    rw [add_plain, Nat.zero_add, hb.cell j hj', List.getD_eq_getElem?_getD, List.getD_eq_getElem?_getD, List.getElem?_take, if_pos (by rw [List.length_take] at hj; omega)]
  · rw [cl, show (bcells (fil f n p)).size = (fil f n p).length by simp [bcells], fil_len]; omega
  · intro v hv
    obtain ⟨z, _, rfl⟩ := List.mem_map.1 (show v ∈ (bl.take k).map (fun n : Nat => Value.int .u8 (n : Int)) from by simpa only [bcells] using hv)
    rfl

/-- Between two rounds: the row, its box, the place's box. -/
structure Rnd (w : World) (r : Nat) (n p : Nat) (f : Nat → Nat) (W : World) : Prop where
  row : BRow W r (fil f n p)
  str : Boxed W (r + 1) 22 (.slice (some ⟨r, 0, none⟩) n n)
  pl : Boxed W (r + 2) 3 (.int .i64 (p : Int))
  low : Below r w W
theorem Rnd.grown {w V W : World} {r n p : Nat} {f : Nat → Nat} {row : Option Nat} (h : Rnd w r n p f V) (hr : r ≤ V.heap.size) (hg : V.grownBy W row) (h1 : ∀ j, row = some j → r + 3 ≤ j) : Rnd w r n p f W :=
  ⟨Blk.grown h.row hg (fun e => by have := h1 _ e.symm; omega), h.str.kept hg (fun e => by have := h1 _ e.symm; omega), h.pl.kept hg (fun e => by have := h1 _ e.symm; omega), h.low.grown hg hr fun k e => by have := h1 _ e; omega⟩
theorem begins (w2 : World) (n : Nat) (f : Nat → Nat) (K S V : Value) (N : Int) : 
    ∃ W, boxed4 (((w2.alloc (.cells (bcells (List.replicate n 0)) 5)).alloc (.cells #[.slice (some ⟨w2.heap.size, 0, none⟩) n n] 22)).alloc (.cells #[.int .i64 0] 3)) K S V N = W ∧
    Rnd w2 w2.heap.size n 0 f W ∧ Boxed W (w2.heap.size + 3) 22 K ∧ Boxed W (w2.heap.size + 4) 22 S ∧ Boxed W (w2.heap.size + 5) 22 V ∧ Boxed W (w2.heap.size + 6) 3 (.int .i64 N) ∧ W.heap.size = w2.heap.size + 7 := by
  refine ⟨_, rfl, ?_⟩
  unfold boxed4
  have a1 := BRow.new w2 (List.replicate n 0)
  rw [← fil_zero f n] at a1 ⊢
  have s1 : (w2.alloc (.cells (bcells (fil f n 0)) 5)).heap.size = w2.heap.size + 1 := by simp
  generalize ea : w2.alloc (.cells (bcells (fil f n 0)) 5) = W1 at *
  have b1 : Below w2.heap.size w2 W1 := by rw [← ea]; exact (Below.refl _ _).alloc (Nat.le_refl _) _
  clear ea
  have a2 := Boxed.new W1 22 (.slice (some ⟨w2.heap.size, 0, none⟩) n n)
  rw [s1] at a2
  have s2 : (W1.alloc (.cells #[.slice (some ⟨w2.heap.size, 0, none⟩) n n] 22)).heap.size = w2.heap.size + 2 := by simp [s1]
  have r2 := a1.alloc (.cells #[.slice (some ⟨w2.heap.size, 0, none⟩) n n] 22)
  have b2 := b1.alloc b1.size (.cells #[.slice (some ⟨w2.heap.size, 0, none⟩) n n] 22)
  generalize W1.alloc (.cells #[.slice (some ⟨w2.heap.size, 0, none⟩) n n] 22) = W2 at *
  have a3 := Boxed.new W2 3 (.int .i64 0)
  rw [s2] at a3
  have s3 : (W2.alloc (.cells #[.int .i64 0] 3)).heap.size = w2.heap.size + 3 := by simp [s2]
  have a4 := Boxed.new (W2.alloc (.cells #[.int .i64 0] 3)) 22 K
  have R3 : Rnd w2 w2.heap.size n 0 f (W2.alloc (.cells #[.int .i64 0] 3)) := ⟨r2.alloc _, a2.alloc _, a3, b2.alloc b2.size _⟩
  generalize W2.alloc (.cells #[.int .i64 0] 3) = W3 at *
  rw [s3] at a4
  have s4 : (W3.alloc (.cells #[K] 22)).heap.size = w2.heap.size + 4 := by simp [s3]
  have R4 := R3.grown (by omega) (World.grownBy_alloc W3 (.cells #[K] 22) none) (fun j e => by cases e)
  generalize W3.alloc (.cells #[K] 22) = W4 at *
  have a5 := Boxed.new W4 22 S
  rw [s4] at a5
  have s5 : (W4.alloc (.cells #[S] 22)).heap.size = w2.heap.size + 5 := by simp [s4]
  have R5 := R4.grown (by omega) (World.grownBy_alloc W4 (.cells #[S] 22) none) (fun j e => by cases e)
  have k5 := a4.alloc (.cells #[S] 22)
  generalize W4.alloc (.cells #[S] 22) = W5 at *
  have a6 := Boxed.new W5 22 V
  rw [s5] at a6
  have s6 : (W5.alloc (.cells #[V] 22)).heap.size = w2.heap.size + 6 := by simp [s5]
  have R6 := R5.grown (by omega) (World.grownBy_alloc W5 (.cells #[V] 22) none) (fun j e => by cases e)
  have k6 := k5.alloc (.cells #[V] 22)
  have l6 := a5.alloc (.cells #[V] 22)
  generalize W5.alloc (.cells #[V] 22) = W6 at *
  have a7 := Boxed.new W6 3 (.int .i64 N)
  rw [s6] at a7
  exact ⟨R6.grown (by omega) (World.grownBy_alloc W6 (.cells #[.int .i64 N] 3) none) (fun j e => by cases e), k6.alloc _, l6.alloc _, a6.alloc _, a7, by simp [s6]⟩

set_option maxRecDepth 100000 in
set_option maxHeartbeats 2000000 in
theorem stream_in (Ak : Option Addr) (kn ck : Nat) (ky : List Int) (As : Option Addr) (cs : Nat) (sa : List Int) (Av : Option Addr) (cv : Nat) (iv : List Int) (n : Nat) (w : World) (B : Nat) (hk : Holds w B Ak kn ck ky) (hs : Holds w B As 4 cs sa) (hv : Holds w B Av 8 cv iv) (hB : B ≤ w.heap.size) (hkn : kn = 16 ∨ kn = 32) (hn : n ≤ 65536) :
    CallsIn Fence.wide 5 Try.prog 11 #[.slice Ak kn ck, .slice As 4 cs, .slice Av 8 cv, .int .i64 (n : Int)] w fun e w' => ∃ g, e = .returned (.tuple #[.slice (some ⟨g, 0, none⟩) n n, .int .i64 0]) ∧ w.heap.size ≤ g ∧ BRow w' g (strm (keys (nats ky)) (nats sa) (nats iv) n) ∧ Below w.heap.size w w' := by
  have hf1 : Fence.wide.fn 18 := trivial
  have hf2 : Fence.wide.fn 19 := trivial
  have hf3 : Fence.wide.fn 20 := trivial
  have h1n : (1 : Nat) ≤ 5 := by omega
  have C := Lib.hid (keys_ok Ak kn ck ky w B hk hB hkn)
  have KB := Lib.hid (keys_byt (nats_byt hk.2.2.2.1))
  have HS := Lib.hid hs
  have HV := Lib.hid hv
  have E : Hid (errE 4 8 (n : Int) = 0) := Lib.hid (by unfold errE; rw [if_pos ⟨rfl, rfl⟩, if_neg (by omega), if_pos (by omega)])
  have X : Hid (∀ W, Below w.heap.size w W → Calls Try.prog 19 #[.slice As 4 cs, .slice Av 8 cv, .int .i64 (n : Int)] W fun e w' => e = .returned (.int .i64 0) ∧ Below W.heap.size W w') := Lib.hid fun W hW => by
    have := examine_any As Av 4 cs 8 cv sa iv (n : Int) W B (HS.out.below (hW.mono hB)) (HV.out.below (hW.mono hB)) (by have := hW.size; omega)
    rwa [E.out] at this
  clear hk hs hv
  obtain ⟨KS, hKS⟩ : ∃ KS, KS = keys (nats ky) := ⟨_, rfl⟩
  rw [← hKS] at C KB ⊢
  clear hKS
  refine callsIn_of_wp_marks Try.func11 rfl trivial ?_ rfl
  simp only [Try.ntmps11, List.size_toArray, List.length_cons, List.length_nil, Nat.reduceAdd, Nat.reduceSub, Array.replicate_succ, Array.replicate_zero, List.push_toArray, List.append_toArray, List.nil_append, List.cons_append]
  gi_wp2_with (first
    | (gi_at_call 18
       refine (callsIn_wide.2 C.out).mono ?_
       rintro e w1 ⟨gk, L, rfl, hL, hL2, hg, hrow, hb1⟩
       have H2 := Lib.hid hL2
       have B1 := Lib.hid hb1
       have HK : Hid (Holds w1 w1.heap.size (some ⟨gk, 0, none⟩) L L (ints KS)) := Lib.hid (by have := BRow.holds hrow KB.out (by omega); rwa [hL] at this)
       clear hL hL2 hg hrow hb1 C)
    | (gi_at_call 19
       refine (callsIn_wide.2 (X.out _ B1.out)).mono ?_
       rintro e w2 ⟨rfl, hb2⟩
       have B2 := Lib.hid (B1.out.trans (hb2.mono B1.out.size))
       have HK2 := Lib.hid ((HK.out.below hb2).more hb2.size)
       have mk := make_b n (by omega) w2
       clear HK hb2)
    | (gi_at_call 20
       refine (callsIn_wide.2 (blocks_any _ _ _ _ _ _ _ _ _ _ _)).mono ?_
       rintro e w3 ⟨rfl, hw3⟩))
  obtain ⟨W0, hW0, R0, x1, x2, x3, x4, sz⟩ := begins w2 n (kb KS (nats sa) (nats iv)) (.slice (some ⟨gk, 0, none⟩) L L) (.slice As 4 cs) (.slice Av 8 cv) (n : Int)
  rw [hW0] at hw3
  subst hw3
  have LD : Hid (Laid W0 w2.heap.size (w2.heap.size + 3) (some ⟨gk, 0, none⟩) L L KS As cs sa Av cv iv n) := Lib.hid ⟨x1, x2, x3, x4, HK2.out.below R0.low, ((HS.out.below (B2.out.mono hB)).more (by have := B2.out.size; omega)).below R0.low, ((HV.out.below (B2.out.mono hB)).more (by have := B2.out.size; omega)).below R0.low⟩
  clear hW0 x1 x2 x3 x4 mk
  obtain ⟨m, hm⟩ : ∃ m, m = (n + 15) / 16 := ⟨_, rfl⟩
  obtain ⟨r, hr⟩ : ∃ r, r = w2.heap.size := ⟨_, rfl⟩
  have HM := Lib.hid hm
  have HR := Lib.hid hr
  rw [← hr] at LD R0 sz ⊢
  clear hr hm
  have fK := kb_lt (ks := KS) (sa := nats sa) (iv := nats iv) KB.out (nats_byt HS.out.2.2.2.1) (nats_byt HV.out.2.2.2.1)
  refine wpIn_rangeFunc_told h1n (gf := 31) (lb := #[.pointer (some ⟨r + 3 + 3, 0, none⟩), .pointer (some ⟨r + 3 + 1, 0, none⟩), .pointer (some ⟨r + 3 + 2, 0, none⟩), .pointer (some ⟨r + 3, 0, none⟩)]) rfl (enters_of Try.func31 (by kernel_rfl) rfl)
    (blk_told 4 (by omega) r (r + 3) (some ⟨gk, 0, none⟩) L L KS As cs sa Av cv iv n m hn HM.out H2.out (by omega) W0 (by omega) LD.out) (Below.refl _ _) rfl
    (fun pre x W l o o' hl ho hc h => h.put ho hc) (fun h k => h.trans k) (fun W l o o' hl ho => Kp.put (by omega) (by omega) ho o')
    (fun pre W => Rnd w2 r n (Nat.min (16 * pre.length) n) (kb KS (nats sa) (nats iv)) W ∧ r + 7 ≤ W.heap.size) ?own ?zero
    (fun x => { tmps := #[.slice Ak kn ck, .slice As 4 cs, .slice Av 8 cv, .int .i64 (n : Int), undef, undef, undef, undef, .slice none 0 0, .int .i64 0, .slice (some ⟨gk, 0, none⟩) L L, .int .i64 0, .int .i64 0, .pointer (some ⟨r + 1, 0, none⟩), .pointer (some ⟨r + 1 + 1, 0, none⟩), .slice (some ⟨x, 0, none⟩) 16 16,
      .tuple #[.slice (some ⟨gk, 0, none⟩) L L, .int .i64 0], .slice Ak kn ck, .tuple #[.slice (some ⟨gk, 0, none⟩) L L, .int .i64 0], .slice (some ⟨gk, 0, none⟩) L L, .int .i64 0, .int .i64 0, .bool false, undef, .slice As 4 cs, .slice Av 8 cv, .int .i64 (n : Int), .int .i64 0, .int .i64 0, .bool false, undef, .int .i64 (n : Int),
      .slice (some ⟨r, 0, none⟩) n n, .slice (some ⟨gk, 0, none⟩) L L, .slice As 4 cs, .slice Av 8 cv, .int .i64 (n : Int), .func (.func 31) #[] #[.pointer (some ⟨r + 1 + 1 + 1 + 3, 0, none⟩), .pointer (some ⟨r + 1 + 1 + 1 + 1, 0, none⟩), .pointer (some ⟨r + 1 + 1 + 1 + 2, 0, none⟩), .pointer (some ⟨r + 1 + 1 + 1, 0, none⟩)],
      .slice (some ⟨x, 0, none⟩) 16 16, undef, undef, undef, undef, undef, undef, undef, undef], defers := [] }) ?assign ?body ?done
  case own =>
    rintro s V W row ⟨h1, h2⟩ hg hrow
    exact ⟨h1.grown (by omega) hg fun j e => by have := (hrow j e).1; omega, by have := hg.size; omega⟩
  case zero => exact ⟨by simpa using R0, by omega⟩
  case assign =>
    intro l x W K hK
    gi_wp2
    exact hK
  case body =>
    rintro l pre x W ⟨hR, hsz⟩ ⟨hlen, hrow⟩
    have hlt : 16 * pre.length < n := by have := HM.out; omega
    obtain ⟨p, hp⟩ : ∃ p, p = 16 * pre.length := ⟨_, rfl⟩
    obtain ⟨k, hk⟩ : ∃ k, k = Nat.min 16 (n - p) := ⟨_, rfl⟩
    have hm1 : Nat.min (16 * pre.length) n = p := by rw [hp]; exact Nat.min_eq_left (by omega)
    have hm2 : Nat.min (16 * (pre ++ [x]).length) n = p + k := by
      rw [hk, hp]
      simp only [List.length_append, List.length_cons, List.length_nil, Nat.min_def]
      split <;> split <;> omega
    have k16 : k ≤ 16 := by rw [hk]; exact Nat.min_le_left _ _
    have kn' : k ≤ n - p := by rw [hk]; exact Nat.min_le_right _ _
    rw [hm1] at hR
    have hbl : ∀ j, j < 16 → (block KS (cnt (nats sa) (nats iv) (pre.length + 1))).getD j 0 = kb KS (nats sa) (nats iv) (p + j) := fun j hj => by
      unfold kb
      rw [show (p + j) / 16 + 1 = pre.length + 1 by omega, show (p + j) % 16 = j by omega]
    have cp := copy_part W.drew r x p n k (kb KS (nats sa) (nats iv)) 59 _ hR.row hrow (block_len _ _) (by omega) hk hbl 3
    have sl := cut_l r 0 n n p W.drew (by omega) (Nat.le_refl _) (by omega)
    rw [Nat.zero_add] at sl
    have c1 : W.drew.cell? ⟨r + 1, 0, none⟩ = some (.slice (some ⟨r, 0, none⟩) n n) := hR.str.cell
    have c2 : W.drew.cell? ⟨r + 1 + 1, 0, none⟩ = some (.int .i64 (p : Int)) := hR.pl.cell
    obtain ⟨V, hV⟩ : ∃ V, V = W.drew.setRow r (bcells (fil (kb KS (nats sa) (nats iv)) n (p + k))) := ⟨_, rfl⟩
    have gV : W.grownBy V (some r) := by rw [hV]; exact ⟨rfl, rfl, rfl, by show W.heap.size ≤ (W.heap.modify r _).size; simp, fun j hj hne => setRow_other W.drew r j _ (fun e => hne (by rw [e]))⟩
    have p3 : Boxed V (r + 2) 3 (.int .i64 (p : Int)) := hR.pl.kept gV (by simp)
    have c3 : V.cell? ⟨r + 1 + 1, 0, none⟩ = some (.int .i64 (p : Int)) := p3.cell
    have f3 : V.frozen? ⟨r + 1 + 1, 0, none⟩ = false := p3.frozen
    rw [← hV] at cp
    have e1 : IntKind.i64.wrap ((p : Int) + (k : Int)) = ((p + k : Nat) : Int) := by rw [IntWalk.i64_in _ (by omega)]; omega
    have PP : Hid (KeepsFrom W0.heap.size W (V.setCell ⟨r + 2, 0, none⟩ (.int .i64 ((p + k : Nat) : Int))) ∧ Kp r (r + 3) W (V.setCell ⟨r + 2, 0, none⟩ (.int .i64 ((p + k : Nat) : Int))) ∧ Rnd w2 r n (p + k) (kb KS (nats sa) (nats iv)) (V.setCell ⟨r + 2, 0, none⟩ (.int .i64 ((p + k : Nat) : Int))) ∧ r + 7 ≤ (V.setCell ⟨r + 2, 0, none⟩ (.int .i64 ((p + k : Nat) : Int))).heap.size) := Lib.hid (by
      have gS := grownBy_setCell' V (r + 2) (.int .i64 ((p + k : Nat) : Int))
      refine ⟨(KeepsFrom.of_grownBy gV fun j e => by cases e; omega).trans (KeepsFrom.of_grownBy gS fun j e => by cases e; omega), ⟨((Below.refl r W).grown gV (by omega) fun j e => by cases e; omega).grown gS (by have := gV.size; omega) fun j e => by cases e; omega, fun j h1 h2 => ?_⟩, ⟨?_, (hR.str.kept gV (by simp)).kept gS (by simp), p3.set _, (hR.low.grown gV (by omega) fun j e => by cases e; omega).grown gS (by have := gV.size; omega) fun j e => by cases e; omega⟩, by have := gV.size; have := gS.size; omega⟩
      · rw [gS.block j (by have := gV.size; omega) (by simp; omega), gV.block j (by omega) (by simp; omega)]
      · have : BRow V r (fil (kb KS (nats sa) (nats iv)) n (p + k)) := by rw [hV]; exact BRow.setRow (show BRow W.drew r _ from hR.row) _
        exact this.far (p := ⟨r + 2, 0, none⟩) (by simp) _)
    rw [hm2]
    rw [show ((p + k : Nat) : Int) = (p : Int) + (k : Int) by omega] at PP e1
    have HK0 := Lib.hid hk
    have hmix : Try.prog.follows .mixedOrders = true := by kernel_rfl
    clear hp hm1 hm2 hk hV hbl gV p3 hR hrow LD R0
    clear HK0
    gi_wp2
    gi_region_with_o (fail)
    all_goals exact ⟨rfl, PP.out⟩
  case done =>
    rintro D xs W hD hxs ⟨hR, hsz⟩ hK
    have hfin : Nat.min (16 * xs.length) n = n := Nat.min_eq_right (by have := HM.out; omega)
    rw [hfin] at hR
    have c1 := hR.str.cell
    gi_wp2
    refine ⟨by simp, .inl ⟨_, _, rfl, run_takeDeferred hK, ?_⟩⟩
    have hF := hR.grown (by omega) (grownBy_putObj' W D (.deferred none)) (fun j e => by cases e; omega)
    exact ⟨_, results_tmp2 rfl _ _ _, r, rfl, by rw [HR.out]; exact B2.out.size, by
      have := hF.row
      rwa [fil_full] at this, by
      have := hF.low
      rw [HR.out] at this
      exact B2.out.trans (this.mono B2.out.size)⟩

theorem stream_ok (Ak : Option Addr) (kn ck : Nat) (ky : List Int) (As : Option Addr) (cs : Nat) (sa : List Int) (Av : Option Addr) (cv : Nat) (iv : List Int) (n : Nat) (w : World) (B : Nat) (hk : Holds w B Ak kn ck ky) (hs : Holds w B As 4 cs sa) (hv : Holds w B Av 8 cv iv) (hB : B ≤ w.heap.size) (hkn : kn = 16 ∨ kn = 32) (hn : n ≤ 65536) :
    Calls Try.prog 11 #[.slice Ak kn ck, .slice As 4 cs, .slice Av 8 cv, .int .i64 (n : Int)] w fun e w' => ∃ g, e = .returned (.tuple #[.slice (some ⟨g, 0, none⟩) n n, .int .i64 0]) ∧ w.heap.size ≤ g ∧ BRow w' g (strm (keys (nats ky)) (nats sa) (nats iv) n) ∧ Below w.heap.size w w' :=
  callsIn_wide.1 (stream_in Ak kn ck ky As cs sa Av cv iv n w B hk hs hv hB hkn hn)
end Go.Proofs.Ythjbcdjphokjbaa.Ctr4
