/- The contract of the code's Stream. -/
import Derived.Test.YtdnkbefpbehllaaDoorM31
import Derived.LoopTactic
import Derived.Lib.SlBytesConst
set_option linter.unusedVariables false
namespace Go.Proofs.YtdnkbefpbehllaaDoor.Ctr4
open Go.RowKit Go.Shelf Go.PlainAid Go.Proofs.YtdnkbefpbehllaaDoor.Sums Go.Proofs.YtdnkbefpbehllaaDoor.Mem Go.Proofs.YtdnkbefpbehllaaDoor.Blk Go.Proofs.YtdnkbefpbehllaaDoor.Bits3 Go.Proofs.YtdnkbefpbehllaaDoor.Ints Go.Proofs.YtdnkbefpbehllaaDoor.CutA Go.Proofs.YtdnkbefpbehllaaDoor.CtrD Go.Proofs.YtdnkbefpbehllaaDoor.AesB Go.Proofs.YtdnkbefpbehllaaDoor.AesK Go.Proofs.YtdnkbefpbehllaaDoor.AesR3 Go.Proofs.YtdnkbefpbehllaaDoor.Aes2 Go.Proofs.YtdnkbefpbehllaaDoor.Aes6 Go.Proofs.YtdnkbefpbehllaaDoor.Aes7 Go.Proofs.YtdnkbefpbehllaaDoor.Aes8 Go.Proofs.YtdnkbefpbehllaaDoor.Aes9 Go.Proofs.YtdnkbefpbehllaaDoor.Ctr1 Go.Proofs.YtdnkbefpbehllaaDoor.Ctr2 Go.Proofs.YtdnkbefpbehllaaDoor.Ctr3 Go.Proofs.YtdnkbefpbehllaaDoor.Yield
attribute [local go_sem] Oper.semAt_some

theorem err_key {kn sn vn : Nat} {n : Int} (h : ¬ (kn = 16 ∨ kn = 32)) : errS kn sn vn n = 1 := by simp [errS, h]
theorem err_rest {kn sn vn : Nat} {n : Int} (h : kn = 16 ∨ kn = 32) : errS kn sn vn n = errE sn vn n := by
  unfold errS errE
  by_cases a : sn = 4 ∧ vn = 8
  · rw [if_pos a]
    by_cases b : n < 0
    · rw [if_pos b, if_neg (by omega)]
    · rw [if_neg b, if_pos ⟨h, a.1, a.2, by omega⟩]
  · rw [if_neg a, if_neg (by omega)]
theorem errE_in (sn vn : Nat) (n : Int) : errE sn vn n = 0 ∨ errE sn vn n = 1 ∨ errE sn vn n = 2 := by
  unfold errE; split <;> (try split) <;> (try split) <;> simp

set_option maxHeartbeats 1000000 in
theorem stream_bad (Ak : Option Addr) (kn ck : Nat) (ky : List Int) (As : Option Addr) (sn cs : Nat) (sa : List Int) (Av : Option Addr) (vn cv : Nat) (iv : List Int) (n : Int) (w : World) (B : Nat) (hk : Holds w B Ak kn ck ky) (hs : Holds w B As sn cs sa) (hv : Holds w B Av vn cv iv) (hB : B ≤ w.heap.size) (hkn : kn ≤ 140737488355328) (he : errS kn sn vn n ≠ 0) :
    Calls Tryd.prog 39 #[.slice Ak kn ck, .slice As sn cs, .slice Av vn cv, .int .i64 n] w fun e w' => e = .returned (.tuple #[.slice none 0 0, .int .i64 (errS kn sn vn n)]) ∧ Below w.heap.size w w' := by
  by_cases h : kn = 16 ∨ kn = 32
  · have C := Lib.hid (keys_ok Ak kn ck ky w B hk hB h)
    have HS := Lib.hid hs
    have HV := Lib.hid hv
    have E := Lib.hid (err_rest (sn := sn) (vn := vn) (n := n) h)
    rw [E.out] at he ⊢
    have X : Hid (∀ W, Below w.heap.size w W → Calls Tryd.prog 46 #[.slice As sn cs, .slice Av vn cv, .int .i64 n] W fun e w' => e = .returned (.int .i64 (errE sn vn n)) ∧ Below W.heap.size W w') := Lib.hid fun W hW => examine_any As Av sn cs vn cv sa iv n W B (HS.out.below (hW.mono hB)) (HV.out.below (hW.mono hB)) (by have := hW.size; omega)
    have g1 : (errE sn vn n != 0) = true := by simpa using he
    generalize errE sn vn n = er at *
    clear hk hs hv E h he
    go_enter Tryd.func39, Tryd.ntmps39
    go_wp2_with fail
    refine C.out.mono ?_
    rintro e w1 ⟨g, L, rfl, hL, hL2, hg, hrow, hb⟩
    have HB := Lib.hid hb
    clear hL hL2 hg hrow hb C
    go_wp2_with fail
    refine (X.out _ HB.out).mono ?_
    rintro e w2 ⟨rfl, hb⟩
    have HB2 := Lib.hid (HB.out.trans (hb.mono HB.out.size))
    clear hb
    go_wp2_with fail
    go_ret2
    exact ⟨rfl, HB2.out⟩
  · have C := Lib.hid (keys_bad Ak kn ck w hkn (fun e => h (.inl e)) (fun e => h (.inr e)))
    rw [err_key h]
    clear hk hs hv h he
    go_enter Tryd.func39, Tryd.ntmps39
    go_wp2_with fail
    refine C.out.mono ?_
    rintro e w1 ⟨rfl, rfl⟩
    go_wp2_with fail
    go_ret2
    exact ⟨rfl, Below.refl _ _⟩

theorem fil_get (f : Nat → Nat) (n j i : Nat) (h : i < n) : (fil f n j)[i]? = some (if i < j then f i else 0) := by
  unfold fil
  rw [List.getElem?_map, List.getElem?_range h]
  rfl
/-- A block copied to its place. -/
theorem fil_copy (f : Nat → Nat) (n p k : Nat) (bl : List Nat) (hk : k ≤ bl.length) (hp : p + k ≤ n) (hf : ∀ j, j < k → bl.getD j 0 = f (p + j)) :
    (fil f n p).take p ++ (bl.take k ++ (fil f n p).drop (p + k)) = fil f n (p + k) := by
  have L := fil_len f n p
  apply List.ext_getElem?
  intro i
  have lt : ((fil f n p).take p).length = p := by rw [List.length_take, L]; omega
  have lb : (bl.take k).length = k := by rw [List.length_take]; omega
  by_cases h1 : i < p
  · rw [List.getElem?_append_left (by omega), List.getElem?_take, if_pos h1, fil_get _ _ _ _ (by omega), fil_get _ _ _ _ (by omega), if_pos h1, if_pos (by omega)]
  · rw [List.getElem?_append_right (by omega), lt]
    by_cases h2 : i < p + k
    · rw [List.getElem?_append_left (by omega), List.getElem?_take, if_pos (by omega), fil_get _ _ _ _ (by omega), if_pos h2]
      have := hf (i - p) (by omega)
      rw [List.getD_eq_getElem?_getD, List.getElem?_eq_getElem (by omega)] at this
      rw [List.getElem?_eq_getElem (by omega)]
      simp only [Option.getD_some] at this
      rw [this, show p + (i - p) = i by omega]
    · rw [List.getElem?_append_right (by omega), lb, List.getElem?_drop, show p + k + (i - p - k) = i by omega]
      by_cases h3 : i < n
      · rw [fil_get _ _ _ _ h3, fil_get _ _ _ _ h3, if_neg (by omega), if_neg (by omega)]
      · rw [List.getElem?_eq_none (by rw [L]; omega), List.getElem?_eq_none (by rw [fil_len]; omega)]
theorem copy_part (W : World) (r g p n k : Nat) (f : Nat → Nat) (t : TypeId) (bl : List Nat) (hr : BRow W r (fil f n p)) (hb : ARow W g t bl) (hl : bl.length = 16) (hp : p < n) (hk : k = Nat.min 16 (n - p)) (hf : ∀ j, j < 16 → bl.getD j 0 = f (p + j)) (ty : TypeId) :
    (Builtin.copy_ #[25, 25] ty #[.slice (some ⟨r, p, none⟩) (n - p) (n - p), .slice (some ⟨g, 0, none⟩) 16 16]).run Tryd.prog W = .ok (.int .i64 (k : Int)) (W.setRow r (bcells (fil f n (p + k)))) := by
  have k1 : k ≤ 16 := by rw [hk]; exact Nat.min_le_left _ _
  have k2 : k ≤ n - p := by rw [hk]; exact Nat.min_le_right _ _
  have cl : (bcells (bl.take k)).toList.length = k := by simp [bcells]; omega
  have e := run_copy_row (P := Tryd.prog) W 25 25 ty 5 r p (n - p) (n - p) ⟨g, 0, none⟩ 16 16 (bcells (fil f n p)) 5 (bcells (bl.take k)).toList Tryd.underlying25 (by kernel_rfl) hr (by rw [cl, hk]) ?_ ?_ ?_
  · rw [e, cl]
    have e2 : ((bcells (fil f n p)).toList.take p ++ (bcells (bl.take k)).toList ++ (bcells (fil f n p)).toList.drop (p + k)).toArray = bcells (fil f n (p + k)) := by
      rw [← fil_copy f n p k bl (by omega) (by omega) fun j hj => hf j (by omega)]
      simp [bcells, List.map_drop, List.map_take]
    rw [e2]
    rfl
  · intro j v hv
    obtain ⟨hj, rfl⟩ := bcells_mem hv
    have hj' : j < bl.length := by rw [List.length_take] at hj; omega
    rw [add_plain, Nat.zero_add, hb.cell j hj', List.getD_eq_getElem?_getD, List.getD_eq_getElem?_getD, List.getElem?_take, if_pos (by rw [List.length_take] at hj; omega)]
  · rw [cl, show (bcells (fil f n p)).size = (fil f n p).length by simp [bcells], fil_len]; omega
  · intro v hv
    obtain ⟨z, _, rfl⟩ := List.mem_map.1 (show v ∈ (bl.take k).map (fun n : Nat => Value.int .u8 (n : Int)) from by simpa only [bcells] using hv)
    rfl

/-- Between two rounds: the row, its box, the place's box. -/
structure Rnd (w : World) (r : Nat) (n p : Nat) (f : Nat → Nat) (W : World) : Prop where
  row : BRow W r (fil f n p)
  str : Boxed W (r + 1) 25 (.slice (some ⟨r, 0, none⟩) n n)
  pl : Boxed W (r + 2) 3 (.int .i64 (p : Int))
  low : Below r w W
theorem Rnd.grown {w V W : World} {r n p : Nat} {f : Nat → Nat} {row : Option Nat} (h : Rnd w r n p f V) (hr : r ≤ V.heap.size) (hg : V.grownBy W row) (h1 : ∀ j, row = some j → r + 3 ≤ j) : Rnd w r n p f W :=
  ⟨Blk.grown h.row hg (fun e => by have := h1 _ e.symm; omega), h.str.kept hg (fun e => by have := h1 _ e.symm; omega), h.pl.kept hg (fun e => by have := h1 _ e.symm; omega), h.low.grown hg hr fun k e => by have := h1 _ e; omega⟩
theorem begins (w2 : World) (n : Nat) (f : Nat → Nat) (K S V : Value) (N : Int) : 
    ∃ W, boxed4 (((w2.alloc (.cells (bcells (List.replicate n 0)) 5)).alloc (.cells #[.slice (some ⟨w2.heap.size, 0, none⟩) n n] 25)).alloc (.cells #[.int .i64 0] 3)) K S V N = W ∧
    Rnd w2 w2.heap.size n 0 f W ∧ Boxed W (w2.heap.size + 3) 25 K ∧ Boxed W (w2.heap.size + 4) 25 S ∧ Boxed W (w2.heap.size + 5) 25 V ∧ Boxed W (w2.heap.size + 6) 3 (.int .i64 N) ∧ W.heap.size = w2.heap.size + 7 := by
  refine ⟨_, rfl, ?_⟩
  unfold boxed4
  have a1 := BRow.new w2 (List.replicate n 0)
  rw [← fil_zero f n] at a1 ⊢
  have s1 : (w2.alloc (.cells (bcells (fil f n 0)) 5)).heap.size = w2.heap.size + 1 := by simp
  generalize ea : w2.alloc (.cells (bcells (fil f n 0)) 5) = W1 at *
  have b1 : Below w2.heap.size w2 W1 := by rw [← ea]; exact (Below.refl _ _).alloc (Nat.le_refl _) _
  clear ea
  have a2 := Boxed.new W1 25 (.slice (some ⟨w2.heap.size, 0, none⟩) n n)
  rw [s1] at a2
  have s2 : (W1.alloc (.cells #[.slice (some ⟨w2.heap.size, 0, none⟩) n n] 25)).heap.size = w2.heap.size + 2 := by simp [s1]
  have r2 := a1.alloc (.cells #[.slice (some ⟨w2.heap.size, 0, none⟩) n n] 25)
  have b2 := b1.alloc b1.size (.cells #[.slice (some ⟨w2.heap.size, 0, none⟩) n n] 25)
  generalize W1.alloc (.cells #[.slice (some ⟨w2.heap.size, 0, none⟩) n n] 25) = W2 at *
  have a3 := Boxed.new W2 3 (.int .i64 0)
  rw [s2] at a3
  have s3 : (W2.alloc (.cells #[.int .i64 0] 3)).heap.size = w2.heap.size + 3 := by simp [s2]
  have a4 := Boxed.new (W2.alloc (.cells #[.int .i64 0] 3)) 25 K
  have R3 : Rnd w2 w2.heap.size n 0 f (W2.alloc (.cells #[.int .i64 0] 3)) := ⟨r2.alloc _, a2.alloc _, a3, b2.alloc b2.size _⟩
  generalize W2.alloc (.cells #[.int .i64 0] 3) = W3 at *
  rw [s3] at a4
  have s4 : (W3.alloc (.cells #[K] 25)).heap.size = w2.heap.size + 4 := by simp [s3]
  have R4 := R3.grown (by omega) (World.grownBy_alloc W3 (.cells #[K] 25) none) (fun j e => by cases e)
  generalize W3.alloc (.cells #[K] 25) = W4 at *
  have a5 := Boxed.new W4 25 S
  rw [s4] at a5
  have s5 : (W4.alloc (.cells #[S] 25)).heap.size = w2.heap.size + 5 := by simp [s4]
  have R5 := R4.grown (by omega) (World.grownBy_alloc W4 (.cells #[S] 25) none) (fun j e => by cases e)
  have k5 := a4.alloc (.cells #[S] 25)
  generalize W4.alloc (.cells #[S] 25) = W5 at *
  have a6 := Boxed.new W5 25 V
  rw [s5] at a6
  have s6 : (W5.alloc (.cells #[V] 25)).heap.size = w2.heap.size + 6 := by simp [s5]
  have R6 := R5.grown (by omega) (World.grownBy_alloc W5 (.cells #[V] 25) none) (fun j e => by cases e)
  have k6 := k5.alloc (.cells #[V] 25)
  have l6 := a5.alloc (.cells #[V] 25)
  generalize W5.alloc (.cells #[V] 25) = W6 at *
  have a7 := Boxed.new W6 3 (.int .i64 N)
  rw [s6] at a7
  exact ⟨R6.grown (by omega) (World.grownBy_alloc W6 (.cells #[.int .i64 N] 3) none) (fun j e => by cases e), k6.alloc _, l6.alloc _, a6.alloc _, a7, by simp [s6]⟩

set_option maxRecDepth 100000 in
set_option maxHeartbeats 2000000 in
theorem stream_in (Ak : Option Addr) (kn ck : Nat) (ky : List Int) (As : Option Addr) (cs : Nat) (sa : List Int) (Av : Option Addr) (cv : Nat) (iv : List Int) (n : Nat) (w : World) (B : Nat) (hk : Holds w B Ak kn ck ky) (hs : Holds w B As 4 cs sa) (hv : Holds w B Av 8 cv iv) (hB : B ≤ w.heap.size) (hkn : kn = 16 ∨ kn = 32) (hn : n ≤ 65536) :
    CallsIn Fence.wide 5 Tryd.prog 39 #[.slice Ak kn ck, .slice As 4 cs, .slice Av 8 cv, .int .i64 (n : Int)] w fun e w' => ∃ g, e = .returned (.tuple #[.slice (some ⟨g, 0, none⟩) n n, .int .i64 0]) ∧ w.heap.size ≤ g ∧ BRow w' g (strm (keys (nats ky)) (nats sa) (nats iv) n) ∧ Below w.heap.size w w' := by
  have hf1 : Fence.wide.fn 45 := trivial
  have hf2 : Fence.wide.fn 46 := trivial
  have hf3 : Fence.wide.fn 47 := trivial
  have h1n : (1 : Nat) ≤ 5 := by omega
  have C := Lib.hid (keys_ok Ak kn ck ky w B hk hB hkn)
  have KB := Lib.hid (keys_byt (nats_byt hk.2.2.2.1))
  have HS := Lib.hid hs
  have HV := Lib.hid hv
  have E : Hid (errE 4 8 (n : Int) = 0) := Lib.hid (by unfold errE; rw [if_pos ⟨rfl, rfl⟩, if_neg (by omega), if_pos (by omega)])
  have X : Hid (∀ W, Below w.heap.size w W → Calls Tryd.prog 46 #[.slice As 4 cs, .slice Av 8 cv, .int .i64 (n : Int)] W fun e w' => e = .returned (.int .i64 0) ∧ Below W.heap.size W w') := Lib.hid fun W hW => by
    have := examine_any As Av 4 cs 8 cv sa iv (n : Int) W B (HS.out.below (hW.mono hB)) (HV.out.below (hW.mono hB)) (by have := hW.size; omega)
    rwa [E.out] at this
  clear hk hs hv
  obtain ⟨KS, hKS⟩ : ∃ KS, KS = keys (nats ky) := ⟨_, rfl⟩
  rw [← hKS] at C KB ⊢
  clear hKS
  refine callsIn_of_wp_marks Tryd.func39 rfl trivial ?_ rfl
  simp only [Tryd.ntmps39, List.size_toArray, List.length_cons, List.length_nil, Nat.reduceAdd, Nat.reduceSub, Array.replicate_succ, Array.replicate_zero, List.push_toArray, List.append_toArray, List.nil_append, List.cons_append]
  gi_wp2_with (first
    | (gi_at_call 45
       refine (callsIn_wide.2 C.out).mono ?_
       rintro e w1 ⟨gk, L, rfl, hL, hL2, hg, hrow, hb1⟩
       have H2 := Lib.hid hL2
       have B1 := Lib.hid hb1
       have HK : Hid (Holds w1 w1.heap.size (some ⟨gk, 0, none⟩) L L (ints KS)) := Lib.hid (by have := BRow.holds hrow KB.out (by omega); rwa [hL] at this)
       clear hL hL2 hg hrow hb1 C)
    | (gi_at_call 46
       refine (callsIn_wide.2 (X.out _ B1.out)).mono ?_
       rintro e w2 ⟨rfl, hb2⟩
       have B2 := Lib.hid (B1.out.trans (hb2.mono B1.out.size))
       have HK2 := Lib.hid ((HK.out.below hb2).more hb2.size)
       have mk := make_b n (by omega) w2
       clear HK hb2)
    | (gi_at_call 47
       refine (callsIn_wide.2 (blocks_any _ _ _ _ _ _ _ _ _ _ _)).mono ?_
       rintro e w3 ⟨rfl, hw3⟩))
  obtain ⟨W0, hW0, R0, x1, x2, x3, x4, sz⟩ := begins w2 n (kb KS (nats sa) (nats iv)) (.slice (some ⟨gk, 0, none⟩) L L) (.slice As 4 cs) (.slice Av 8 cv) (n : Int)
  rw [hW0] at hw3
  subst hw3
  have LD : Hid (Laid W0 w2.heap.size (w2.heap.size + 3) (some ⟨gk, 0, none⟩) L L KS As cs sa Av cv iv n) := Lib.hid ⟨x1, x2, x3, x4, HK2.out.below R0.low, ((HS.out.below (B2.out.mono hB)).more (by have := B2.out.size; omega)).below R0.low, ((HV.out.below (B2.out.mono hB)).more (by have := B2.out.size; omega)).below R0.low⟩
  clear hW0 x1 x2 x3 x4 mk
  obtain ⟨m, hm⟩ : ∃ m, m = (n + 15) / 16 := ⟨_, rfl⟩
  obtain ⟨r, hr⟩ : ∃ r, r = w2.heap.size := ⟨_, rfl⟩
  have HM := Lib.hid hm
  have HR := Lib.hid hr
  rw [← hr] at LD R0 sz ⊢
  clear hr hm
  have fK := kb_lt (ks := KS) (sa := nats sa) (iv := nats iv) KB.out (nats_byt HS.out.2.2.2.1) (nats_byt HV.out.2.2.2.1)
  refine wpIn_rangeFunc_told h1n (gf := 58) (lb := #[.pointer (some ⟨r + 3 + 3, 0, none⟩), .pointer (some ⟨r + 3 + 1, 0, none⟩), .pointer (some ⟨r + 3 + 2, 0, none⟩), .pointer (some ⟨r + 3, 0, none⟩)]) rfl (enters_of Tryd.func58 (by kernel_rfl) rfl)
    (blk_told 4 (by omega) r (r + 3) (some ⟨gk, 0, none⟩) L L KS As cs sa Av cv iv n m hn HM.out H2.out (by omega) W0 (by omega) LD.out) (Below.refl _ _) rfl
    (fun pre x W l o o' hl ho hc h => h.put ho hc) (fun h k => h.trans k) (fun W l o o' hl ho => Kp.put (by omega) (by omega) ho o')
    (fun pre W => Rnd w2 r n (Nat.min (16 * pre.length) n) (kb KS (nats sa) (nats iv)) W ∧ r + 7 ≤ W.heap.size) ?own ?zero
    (fun x => { tmps := #[.slice Ak kn ck, .slice As 4 cs, .slice Av 8 cv, .int .i64 (n : Int), undef, undef, undef, undef, .slice none 0 0, .int .i64 0, .slice (some ⟨gk, 0, none⟩) L L, .int .i64 0, .int .i64 0, .pointer (some ⟨r + 1, 0, none⟩), .pointer (some ⟨r + 1 + 1, 0, none⟩), .slice (some ⟨x, 0, none⟩) 16 16,
      .tuple #[.slice (some ⟨gk, 0, none⟩) L L, .int .i64 0], .slice Ak kn ck, .tuple #[.slice (some ⟨gk, 0, none⟩) L L, .int .i64 0], .slice (some ⟨gk, 0, none⟩) L L, .int .i64 0, .int .i64 0, .bool false, undef, .slice As 4 cs, .slice Av 8 cv, .int .i64 (n : Int), .int .i64 0, .int .i64 0, .bool false, undef, .int .i64 (n : Int),
      .slice (some ⟨r, 0, none⟩) n n, .slice (some ⟨gk, 0, none⟩) L L, .slice As 4 cs, .slice Av 8 cv, .int .i64 (n : Int), .func (.func 58) #[] #[.pointer (some ⟨r + 1 + 1 + 1 + 3, 0, none⟩), .pointer (some ⟨r + 1 + 1 + 1 + 1, 0, none⟩), .pointer (some ⟨r + 1 + 1 + 1 + 2, 0, none⟩), .pointer (some ⟨r + 1 + 1 + 1, 0, none⟩)],
      .slice (some ⟨x, 0, none⟩) 16 16, undef, undef, undef, undef, undef, undef, undef, undef], defers := [] }) ?assign ?body ?done
  case own =>
    rintro s V W row ⟨h1, h2⟩ hg hrow
    exact ⟨h1.grown (by omega) hg fun j e => by have := (hrow j e).1; omega, by have := hg.size; omega⟩
  case zero => exact ⟨by simpa using R0, by omega⟩
  case assign =>
    intro l x W K hK
    gi_wp2
    exact hK
  case body =>
    rintro l pre x W ⟨hR, hsz⟩ ⟨hlen, hrow⟩
    have hlt : 16 * pre.length < n := by have := HM.out; omega
    obtain ⟨p, hp⟩ : ∃ p, p = 16 * pre.length := ⟨_, rfl⟩
    obtain ⟨k, hk⟩ : ∃ k, k = Nat.min 16 (n - p) := ⟨_, rfl⟩
    have hm1 : Nat.min (16 * pre.length) n = p := by rw [hp]; exact Nat.min_eq_left (by omega)
    have hm2 : Nat.min (16 * (pre ++ [x]).length) n = p + k := by
      rw [hk, hp]
      simp only [List.length_append, List.length_cons, List.length_nil, Nat.min_def]
      split <;> split <;> omega
    have k16 : k ≤ 16 := by rw [hk]; exact Nat.min_le_left _ _
    have kn' : k ≤ n - p := by rw [hk]; exact Nat.min_le_right _ _
    rw [hm1] at hR
    have hbl : ∀ j, j < 16 → (block KS (cnt (nats sa) (nats iv) (pre.length + 1))).getD j 0 = kb KS (nats sa) (nats iv) (p + j) := fun j hj => by
      unfold kb
      rw [show (p + j) / 16 + 1 = pre.length + 1 by omega, show (p + j) % 16 = j by omega]
    have cp := copy_part W.drew r x p n k (kb KS (nats sa) (nats iv)) 116 _ hR.row hrow (block_len _ _) (by omega) hk hbl 3
    have sl := cut_l r 0 n n p W.drew (by omega) (Nat.le_refl _) (by omega)
    rw [Nat.zero_add] at sl
    have c1 : W.drew.cell? ⟨r + 1, 0, none⟩ = some (.slice (some ⟨r, 0, none⟩) n n) := hR.str.cell
    have c2 : W.drew.cell? ⟨r + 1 + 1, 0, none⟩ = some (.int .i64 (p : Int)) := hR.pl.cell
    obtain ⟨V, hV⟩ : ∃ V, V = W.drew.setRow r (bcells (fil (kb KS (nats sa) (nats iv)) n (p + k))) := ⟨_, rfl⟩
    have gV : W.grownBy V (some r) := by rw [hV]; exact ⟨rfl, rfl, rfl, by show W.heap.size ≤ (W.heap.modify r _).size; simp, fun j hj hne => setRow_other W.drew r j _ (fun e => hne (by rw [e]))⟩
    have p3 : Boxed V (r + 2) 3 (.int .i64 (p : Int)) := hR.pl.kept gV (by simp)
    have c3 : V.cell? ⟨r + 1 + 1, 0, none⟩ = some (.int .i64 (p : Int)) := p3.cell
    have f3 : V.frozen? ⟨r + 1 + 1, 0, none⟩ = false := p3.frozen
    rw [← hV] at cp
    have e1 : IntKind.i64.wrap ((p : Int) + (k : Int)) = ((p + k : Nat) : Int) := by rw [IntWalk.i64_in _ (by omega)]; omega
    have PP : Hid (KeepsFrom W0.heap.size W (V.setCell ⟨r + 2, 0, none⟩ (.int .i64 ((p + k : Nat) : Int))) ∧ Kp r (r + 3) W (V.setCell ⟨r + 2, 0, none⟩ (.int .i64 ((p + k : Nat) : Int))) ∧ Rnd w2 r n (p + k) (kb KS (nats sa) (nats iv)) (V.setCell ⟨r + 2, 0, none⟩ (.int .i64 ((p + k : Nat) : Int))) ∧ r + 7 ≤ (V.setCell ⟨r + 2, 0, none⟩ (.int .i64 ((p + k : Nat) : Int))).heap.size) := Lib.hid (by
      have gS := grownBy_setCell' V (r + 2) (.int .i64 ((p + k : Nat) : Int))
      refine ⟨(KeepsFrom.of_grownBy gV fun j e => by cases e; omega).trans (KeepsFrom.of_grownBy gS fun j e => by cases e; omega), ⟨((Below.refl r W).grown gV (by omega) fun j e => by cases e; omega).grown gS (by have := gV.size; omega) fun j e => by cases e; omega, fun j h1 h2 => ?_⟩, ⟨?_, (hR.str.kept gV (by simp)).kept gS (by simp), p3.set _, (hR.low.grown gV (by omega) fun j e => by cases e; omega).grown gS (by have := gV.size; omega) fun j e => by cases e; omega⟩, by have := gV.size; have := gS.size; omega⟩
      · rw [gS.block j (by have := gV.size; omega) (by simp; omega), gV.block j (by omega) (by simp; omega)]
      · have : BRow V r (fil (kb KS (nats sa) (nats iv)) n (p + k)) := by rw [hV]; exact BRow.setRow (show BRow W.drew r _ from hR.row) _
        exact this.far (p := ⟨r + 2, 0, none⟩) (by simp) _)
    rw [hm2]
    rw [show ((p + k : Nat) : Int) = (p : Int) + (k : Int) by omega] at PP e1
    have HK0 := Lib.hid hk
    have hmix : Tryd.prog.follows .mixedOrders = true := by kernel_rfl
    clear hp hm1 hm2 hk hV hbl gV p3 hR hrow LD R0
    clear HK0
    gi_wp2
    gi_region_with_o (fail)
    all_goals exact ⟨rfl, PP.out⟩
  case done =>
    rintro D xs W hD hxs ⟨hR, hsz⟩ hK
    have hfin : Nat.min (16 * xs.length) n = n := Nat.min_eq_right (by have := HM.out; omega)
    rw [hfin] at hR
    have c1 := hR.str.cell
    gi_wp2
    refine ⟨by simp, .inl ⟨_, _, rfl, run_takeDeferred hK, ?_⟩⟩
    have hF := hR.grown (by omega) (grownBy_putObj' W D (.deferred none)) (fun j e => by cases e; omega)
    exact ⟨_, results_tmp2 rfl _ _ _, r, rfl, by rw [HR.out]; exact B2.out.size, by
      have := hF.row
      rwa [fil_full] at this, by
      have := hF.low
      rw [HR.out] at this
      exact B2.out.trans (this.mono B2.out.size)⟩

theorem stream_ok (Ak : Option Addr) (kn ck : Nat) (ky : List Int) (As : Option Addr) (cs : Nat) (sa : List Int) (Av : Option Addr) (cv : Nat) (iv : List Int) (n : Nat) (w : World) (B : Nat) (hk : Holds w B Ak kn ck ky) (hs : Holds w B As 4 cs sa) (hv : Holds w B Av 8 cv iv) (hB : B ≤ w.heap.size) (hkn : kn = 16 ∨ kn = 32) (hn : n ≤ 65536) :
    Calls Tryd.prog 39 #[.slice Ak kn ck, .slice As 4 cs, .slice Av 8 cv, .int .i64 (n : Int)] w fun e w' => ∃ g, e = .returned (.tuple #[.slice (some ⟨g, 0, none⟩) n n, .int .i64 0]) ∧ w.heap.size ≤ g ∧ BRow w' g (strm (keys (nats ky)) (nats sa) (nats iv) n) ∧ Below w.heap.size w w' :=
  callsIn_wide.1 (stream_in Ak kn ck ky As cs sa Av cv iv n w B hk hs hv hB hkn hn)
end Go.Proofs.YtdnkbefpbehllaaDoor.Ctr4

/- The contract of the code's Turn. -/
set_option linter.unusedVariables false
namespace Go.Proofs.YtdnkbefpbehllaaDoor.Ctr5
open Go.RowKit Go.PlainAid Go.Proofs.YtdnkbefpbehllaaDoor.Sums Go.Proofs.YtdnkbefpbehllaaDoor.Mem Go.Proofs.YtdnkbefpbehllaaDoor.Blk Go.Proofs.YtdnkbefpbehllaaDoor.Bits3 Go.Proofs.YtdnkbefpbehllaaDoor.Ints Go.Proofs.YtdnkbefpbehllaaDoor.CutA Go.Proofs.YtdnkbefpbehllaaDoor.AesF Go.Proofs.YtdnkbefpbehllaaDoor.CtrD Go.Proofs.YtdnkbefpbehllaaDoor.AesB Go.Proofs.YtdnkbefpbehllaaDoor.AesK Go.Proofs.YtdnkbefpbehllaaDoor.AesR3 Go.Proofs.YtdnkbefpbehllaaDoor.Aes2 Go.Proofs.YtdnkbefpbehllaaDoor.Aes9 Go.Proofs.YtdnkbefpbehllaaDoor.Ctr1 Go.Proofs.YtdnkbefpbehllaaDoor.Ctr2 Go.Proofs.YtdnkbefpbehllaaDoor.Ctr3 Go.Proofs.YtdnkbefpbehllaaDoor.Ctr4

/-- The first j are f's, the others g's. -/
def mixd (f g : Nat → Nat) (n j : Nat) : List Nat := (List.range n).map fun i => if i < j then f i else g i
theorem mixd_len (f g : Nat → Nat) (n j : Nat) : (mixd f g n j).length = n := by simp [mixd]
theorem mixd_zero (f g : Nat → Nat) (n : Nat) : mixd f g n 0 = (List.range n).map g := by simp [mixd]
theorem mixd_full (f g : Nat → Nat) (n : Nat) : mixd f g n n = (List.range n).map f := by
  unfold mixd
  refine List.map_congr_left fun i hi => ?_
  rw [if_pos (List.mem_range.1 hi)]
theorem mixd_get (f g : Nat → Nat) {n j : Nat} (h : j < n) : (mixd f g n j).getD j 0 = g j := by
  unfold mixd
  rw [range_get _ h, if_neg (by omega)]
theorem mixd_set (f g : Nat → Nat) (n j : Nat) : (mixd f g n j).set j (f j) = mixd f g n (j + 1) := by
  apply List.ext_getElem
  · simp [mixd]
  · intro i h1 h2
    simp only [mixd, List.length_set, List.length_map, List.length_range] at h1
    simp only [mixd, List.getElem_set, List.getElem_map, List.getElem_range]
    by_cases e : j = i
    · subst e; simp
    · rw [if_neg e]
      by_cases l : i < j
      · rw [if_pos l, if_pos (by omega)]
      · rw [if_neg l, if_neg (by omega)]

set_option maxHeartbeats 1000000 in
theorem turn_bad (Ak : Option Addr) (kn ck : Nat) (ky : List Int) (As : Option Addr) (sn cs : Nat) (sa : List Int) (Av : Option Addr) (vn cv : Nat) (iv : List Int) (Ab : Option Addr) (n cb : Nat) (w : World) (B : Nat) (hk : Holds w B Ak kn ck ky) (hs : Holds w B As sn cs sa) (hv : Holds w B Av vn cv iv) (hB : B ≤ w.heap.size) (hkn : kn ≤ 140737488355328) (he : errS kn sn vn (n : Int) ≠ 0) :
    Calls Tryd.prog 33 #[.slice Ak kn ck, .slice As sn cs, .slice Av vn cv, .slice Ab n cb] w fun e w' => e = .returned (.tuple #[.slice none 0 0, .int .i64 (errS kn sn vn (n : Int))]) ∧ Below w.heap.size w w' := by
  have C := Lib.hid (stream_bad Ak kn ck ky As sn cs sa Av vn cv iv (n : Int) w B hk hs hv hB hkn he)
  have g1 : (errS kn sn vn (n : Int) != 0) = true := by simpa using he
  generalize errS kn sn vn (n : Int) = er at *
  clear hk hs hv he
  go_enter Tryd.func33, Tryd.ntmps33
  go_wp2_with fail
  refine C.out.mono ?_
  rintro e w1 ⟨rfl, hb⟩
  have HB := Lib.hid hb
  clear hb
  go_wp2_with fail
  go_ret2
  exact ⟨rfl, HB.out⟩

set_option maxHeartbeats 1000000 in
theorem turn_ok (Ak : Option Addr) (kn ck : Nat) (ky : List Int) (As : Option Addr) (cs : Nat) (sa : List Int) (Av : Option Addr) (cv : Nat) (iv : List Int) (Ab : Option Addr) (n cb : Nat) (l : List Int) (w : World) (B : Nat) (hk : Holds w B Ak kn ck ky) (hs : Holds w B As 4 cs sa) (hv : Holds w B Av 8 cv iv) (hb : Holds w B Ab n cb l) (hB : B ≤ w.heap.size) (hkn : kn = 16 ∨ kn = 32) (hn : n ≤ 65536) :
    Calls Tryd.prog 33 #[.slice Ak kn ck, .slice As 4 cs, .slice Av 8 cv, .slice Ab n cb] w fun e w' => ∃ g, e = .returned (.tuple #[.slice (some ⟨g, 0, none⟩) n n, .int .i64 0]) ∧ w.heap.size ≤ g ∧ BRow w' g (trn (keys (nats ky)) (nats sa) (nats iv) (nats l)) ∧ Below w.heap.size w w' := by
  have C := Lib.hid (stream_ok Ak kn ck ky As cs sa Av cv iv n w B hk hs hv hB hkn hn)
  obtain ⟨kf, hkf⟩ : ∃ kf, kf = kb (keys (nats ky)) (nats sa) (nats iv) := ⟨_, rfl⟩
  obtain ⟨f, hf⟩ : ∃ f : Nat → Nat, f = fun j => (nats l).getD j 0 ^^^ kf j := ⟨_, rfl⟩
  have FK : Hid (∀ j, kf j < 256) := Lib.hid fun j => by rw [hkf]; exact kb_lt (keys_byt (nats_byt hk.2.2.2.1)) (nats_byt hs.2.2.2.1) (nats_byt hv.2.2.2.1) j
  have HL := Lib.hid hb
  have E1 : Hid (strm (keys (nats ky)) (nats sa) (nats iv) n = mixd f kf n 0) := Lib.hid (by rw [mixd_zero, hkf]; rfl)
  have E2 : Hid (mixd f kf n n = trn (keys (nats ky)) (nats sa) (nats iv) (nats l)) := Lib.hid (by
    rw [mixd_full, hf, hkf, trn, nats_len, hb.1])
  have FX : Hid (∀ j, f j = kf j ^^^ (nats l).getD j 0) := Lib.hid fun j => by rw [hf, Nat.xor_comm]
  rw [E1.out] at C
  obtain ⟨R, hR⟩ : ∃ R, R = trn (keys (nats ky)) (nats sa) (nats iv) (nats l) := ⟨_, rfl⟩
  rw [← hR] at E2 ⊢
  clear hk hs hv hb E1 hkf hf hR
  go_enter Tryd.func33, Tryd.ntmps33
  go_wp2_with fail
  refine C.out.mono ?_
  rintro e w1 ⟨g, rfl, hg, hrow, hb1⟩
  have G1 := Lib.hid hg
  have R1 := Lib.hid hrow
  have B1 := Lib.hid hb1
  clear hg hrow hb1 C
  go_wp2_with fail
  go_loopw [28] (fun kv wr => ∃ j : Nat, kv = .int .i64 (j : Int) ∧ j ≤ n ∧ Hid (BRow wr g (mixd f kf n j)) ∧ Hid (Below w.heap.size w wr)) (fun kv _ => n - (intOf kv).toNat)
  case atStart => exact ⟨0, rfl, by omega, R1, B1⟩
  case round =>
    obtain ⟨j, rfl, hj, HR, HB⟩ := hrel
    clear R1 B1
    by_cases hlt : j < n
    · have h2 := HL.out.below (HB.out.mono hB)
      obtain ⟨q, p, hq, _⟩ := h2.2.2.2.2 (by omega)
      subst hq
      have c0 := cell_getD h2 j hlt
      rw [nats_getD h2.2.2.2.1 j] at c0
      have bx := (nats_byt h2.2.2.2.1).get j
      have c1 := HR.out.cell j (by rw [mixd_len]; exact hlt)
      rw [mixd_get _ _ hlt] at c1
      have f1 := HR.out.free j
      have e1 : bits .xor .u8 ((kf j : Nat) : Int) (((nats l).getD j 0 : Nat) : Int) = ((f j : Nat) : Int) := by rw [FX.out]; exact Bits3.u8_xor (FK.out j) bx
      have R2 : Hid (BRow (wr.setCell ⟨g, j, none⟩ (.int .u8 ((f j : Nat) : Int))) g (mixd f kf n (j + 1))) := Lib.hid (by have := HR.out.put j (f j); rwa [mixd_set] at this)
      have B2 := Lib.hid (HB.out.setCell (p := ⟨g, j, none⟩) G1.out (.int .u8 ((f j : Nat) : Int)))
      generalize (nats l).getD j 0 = x at *
      generalize kf j = y at *
      generalize f j = z at *
      clear HR HB h2 bx FX FK HL
      go_wp2_with fail
      go_roundw
      case rel => exact ⟨j + 1, by go_num, by omega, R2, B2⟩
      case measure => simp [intOf]; omega
    · obtain rfl : j = n := by omega
      have R3 : Hid (BRow wr g R) := Lib.hid (by rw [← E2.out]; exact HR.out)
      clear HR hlt
      go_wp2_with fail
      go_ret2
      exact ⟨g, rfl, G1.out, R3.out, HB.out⟩
end Go.Proofs.YtdnkbefpbehllaaDoor.Ctr5

/- The document's examples hold. -/
set_option linter.unusedVariables false
namespace Go.Proofs.YtdnkbefpbehllaaDoor.CtrA
open Go.RowKit Go.PlainAid Go.Proofs.YtdnkbefpbehllaaDoor.Sums Go.Proofs.YtdnkbefpbehllaaDoor.Mem Go.Proofs.YtdnkbefpbehllaaDoor.Blk Go.Proofs.YtdnkbefpbehllaaDoor.Bits3 Go.Proofs.YtdnkbefpbehllaaDoor.Ints Go.Proofs.YtdnkbefpbehllaaDoor.AesF Go.Proofs.YtdnkbefpbehllaaDoor.AesB Go.Proofs.YtdnkbefpbehllaaDoor.AesK Go.Proofs.YtdnkbefpbehllaaDoor.AesR3 Go.Proofs.YtdnkbefpbehllaaDoor.Aes9 Go.Proofs.YtdnkbefpbehllaaDoor.CtrD Go.Proofs.YtdnkbefpbehllaaDoor.Ctr1 Go.Proofs.YtdnkbefpbehllaaDoor.Ctr2 Go.Proofs.YtdnkbefpbehllaaDoor.Ctr3 Go.Proofs.YtdnkbefpbehllaaDoor.Ctr4 Go.Proofs.YtdnkbefpbehllaaDoor.Ctr5

theorem nums_str {l : List Int} (h : Bytes l) : nums (strOfNums l) = l := by
  simp only [strOfNums, nums, List.map_map]
  refine (List.map_congr_left fun z hz => ?_).trans (List.map_id l)
  have := h z hz
  simp only [Function.comp, id]
  rw [UInt8.toNat_ofNat_of_lt' (by simp [UInt8.size]; omega)]
  omega
theorem str_inj {a b : List Int} (ha : Bytes a) (hb : Bytes b) (h : strOfNums a = strOfNums b) : a = b := by rw [← nums_str ha, ← nums_str hb, h]
/-- Bytes that a block holds, frozen or not. -/
theorem Holds.laid (w : World) (l : List Nat) (cs : Array Value) (fz : Nat × Nat) (n g : Nat) (hc : cs = bcells l) (hb : Byt l) (hn : l.length = n) (hg : w.heap.size = g) (hm : n ≤ 1048576) : Holds (w.alloc (.cells cs 5 fz)) (g + 1) (some ⟨g, 0, none⟩) n n (ints l) := by
  subst hc hn hg
  refine ⟨by simp [ints], Nat.le_refl _, by simp only [maxLen]; omega, fun z hz => ints_in hb z hz, fun _ => ⟨w.heap.size, 0, rfl, by omega, fun j z hz => ?_⟩⟩
  have hj : j < l.length := by
    rcases Nat.lt_or_ge j l.length with h' | h'
    · exact h'
    · rw [List.getElem?_eq_none (by simpa [ints] using h')] at hz; cases hz
  rw [Nat.zero_add, cell_of_row _ w.heap.size j _ 5 fz (heap_alloc_new w _), bcells_get l j hj, ← ints_getD, List.getD_eq_getElem?_getD, hz]
  rfl
theorem cvt (w : World) (C : Array Value) (n : Nat) : (convert 25 25 (.slice (some ⟨w.heap.size, 0, none⟩) n n)).run Tryd.prog (w.alloc (.cells C 5)) = .ok (.slice (some ⟨w.heap.size, 0, none⟩) n n) (w.alloc (.cells C 5 (C.size, C.size + 1))) :=
  Lib.run_convert_bytes_const w 25 5 C n n Tryd.underlying25 Tryd.underlying5
theorem byt_all {l : List Nat} (h : l.all (fun z => decide (z < 256)) = true) : Byt l := fun x hx => of_decide_eq_true (List.all_eq_true.1 h x hx)
theorem ex_str : strOfNums (ints exR) = ⟨#[228, 9, 93, 79, 183, 167, 179, 121, 45, 97, 117, 163, 38, 19, 17, 184]⟩ := by kernel_rfl
theorem ex_cnt : ints (cnt (nats (ints [97, 98, 99, 100])) (nats (ints [49, 50, 51, 52, 53, 54, 55, 56])) 258) = ints [97, 98, 99, 100, 49, 50, 51, 52, 53, 54, 55, 56, 0, 0, 1, 2] := by kernel_rfl
theorem ex_str2 : strOfNums (ints [97, 98, 99, 100, 49, 50, 51, 52, 53, 54, 55, 56, 0, 0, 1, 2]) = ⟨#[97, 98, 99, 100, 49, 50, 51, 52, 53, 54, 55, 56, 0, 0, 1, 2]⟩ := by kernel_rfl

/-- The four literals of the first example, the two of the second. -/
theorem four_lits (w : World) : ∃ w4, ((((w.alloc (.cells #[.int .u8 174, .int .u8 104, .int .u8 82, .int .u8 248, .int .u8 18, .int .u8 16, .int .u8 103, .int .u8 204, .int .u8 75, .int .u8 247, .int .u8 165, .int .u8 118, .int .u8 85, .int .u8 119, .int .u8 243, .int .u8 158] 5 (16, 17))).alloc (.cells #[.int .u8 0, .int .u8 0, .int .u8 0, .int .u8 48] 5)).alloc (.cells (bcells (List.replicate 8 0)) 5)).alloc (.cells #[.int .u8 83, .int .u8 105, .int .u8 110, .int .u8 103, .int .u8 108, .int .u8 101, .int .u8 32, .int .u8 98, .int .u8 108, .int .u8 111, .int .u8 99, .int .u8 107, .int .u8 32, .int .u8 109, .int .u8 115, .int .u8 103] 5 (16, 17))) = w4 ∧
    Holds w4 w4.heap.size (some ⟨w.heap.size, 0, none⟩) 16 16 (ints exK) ∧ Holds w4 w4.heap.size (some ⟨w.heap.size + 1, 0, none⟩) 4 4 (ints [0, 0, 0, 48]) ∧ Holds w4 w4.heap.size (some ⟨w.heap.size + 1 + 1, 0, none⟩) 8 8 (ints (List.replicate 8 0)) ∧ Holds w4 w4.heap.size (some ⟨w.heap.size + 1 + 1 + 1, 0, none⟩) 16 16 (ints exB) ∧ Below w.heap.size w w4 := by
  refine ⟨_, rfl, ?_⟩
  have a1 := Holds.laid w exK #[.int .u8 174, .int .u8 104, .int .u8 82, .int .u8 248, .int .u8 18, .int .u8 16, .int .u8 103, .int .u8 204, .int .u8 75, .int .u8 247, .int .u8 165, .int .u8 118, .int .u8 85, .int .u8 119, .int .u8 243, .int .u8 158] (16, 17) 16 _ rfl (byt_all rfl) rfl rfl (by decide)
  have b1 := (Below.refl w.heap.size w).alloc (Nat.le_refl _) (.cells #[.int .u8 174, .int .u8 104, .int .u8 82, .int .u8 248, .int .u8 18, .int .u8 16, .int .u8 103, .int .u8 204, .int .u8 75, .int .u8 247, .int .u8 165, .int .u8 118, .int .u8 85, .int .u8 119, .int .u8 243, .int .u8 158] 5 (16, 17))
  have s1 : (w.alloc (.cells #[.int .u8 174, .int .u8 104, .int .u8 82, .int .u8 248, .int .u8 18, .int .u8 16, .int .u8 103, .int .u8 204, .int .u8 75, .int .u8 247, .int .u8 165, .int .u8 118, .int .u8 85, .int .u8 119, .int .u8 243, .int .u8 158] 5 (16, 17))).heap.size = w.heap.size + 1 := by simp
  generalize w.alloc (.cells #[.int .u8 174, .int .u8 104, .int .u8 82, .int .u8 248, .int .u8 18, .int .u8 16, .int .u8 103, .int .u8 204, .int .u8 75, .int .u8 247, .int .u8 165, .int .u8 118, .int .u8 85, .int .u8 119, .int .u8 243, .int .u8 158] 5 (16, 17)) = w1 at *
  have a2 := Holds.laid w1 [0, 0, 0, 48] #[.int .u8 0, .int .u8 0, .int .u8 0, .int .u8 48] (0, 0) 4 _ rfl (byt_all rfl) rfl s1 (by decide)
  have q2 := (Below.refl w1.heap.size w1).alloc (Nat.le_refl _) (.cells #[.int .u8 0, .int .u8 0, .int .u8 0, .int .u8 48] 5)
  have s2 : (w1.alloc (.cells #[.int .u8 0, .int .u8 0, .int .u8 0, .int .u8 48] 5)).heap.size = w.heap.size + 1 + 1 := by simp [s1]
  generalize w1.alloc (.cells #[.int .u8 0, .int .u8 0, .int .u8 0, .int .u8 48] 5) = w2 at *
  have a3 := Holds.laid w2 (List.replicate 8 0) (bcells (List.replicate 8 0)) (0, 0) 8 _ rfl (byt_all rfl) rfl s2 (by decide)
  have q3 := (Below.refl w2.heap.size w2).alloc (Nat.le_refl _) (.cells (bcells (List.replicate 8 0)) 5)
  have s3 : (w2.alloc (.cells (bcells (List.replicate 8 0)) 5)).heap.size = w.heap.size + 1 + 1 + 1 := by simp [s2]
  generalize w2.alloc (.cells (bcells (List.replicate 8 0)) 5) = w3 at *
  have a4 := Holds.laid w3 exB #[.int .u8 83, .int .u8 105, .int .u8 110, .int .u8 103, .int .u8 108, .int .u8 101, .int .u8 32, .int .u8 98, .int .u8 108, .int .u8 111, .int .u8 99, .int .u8 107, .int .u8 32, .int .u8 109, .int .u8 115, .int .u8 103] (16, 17) 16 _ rfl (byt_all rfl) rfl s3 (by decide)
  have q4 := (Below.refl w3.heap.size w3).alloc (Nat.le_refl _) (.cells #[.int .u8 83, .int .u8 105, .int .u8 110, .int .u8 103, .int .u8 108, .int .u8 101, .int .u8 32, .int .u8 98, .int .u8 108, .int .u8 111, .int .u8 99, .int .u8 107, .int .u8 32, .int .u8 109, .int .u8 115, .int .u8 103] 5 (16, 17))
  have s4 : (w3.alloc (.cells #[.int .u8 83, .int .u8 105, .int .u8 110, .int .u8 103, .int .u8 108, .int .u8 101, .int .u8 32, .int .u8 98, .int .u8 108, .int .u8 111, .int .u8 99, .int .u8 107, .int .u8 32, .int .u8 109, .int .u8 115, .int .u8 103] 5 (16, 17))).heap.size = w.heap.size + 1 + 1 + 1 + 1 := by simp [s3]
  generalize w3.alloc (.cells #[.int .u8 83, .int .u8 105, .int .u8 110, .int .u8 103, .int .u8 108, .int .u8 101, .int .u8 32, .int .u8 98, .int .u8 108, .int .u8 111, .int .u8 99, .int .u8 107, .int .u8 32, .int .u8 109, .int .u8 115, .int .u8 103] 5 (16, 17)) = w4 at *
  exact ⟨(a1.below ((q2.mono (by omega)).trans ((q3.mono (by omega)).trans (q4.mono (by omega))))).more (by omega), (a2.below ((q3.mono (by omega)).trans (q4.mono (by omega)))).more (by omega), (a3.below (q4.mono (by omega))).more (by omega), a4.more (by omega), ((b1.trans (q2.mono (by omega))).trans (q3.mono (by omega))).trans (q4.mono (by omega))⟩
theorem two_lits (w : World) : ∃ w2, ((w.alloc (.cells #[.int .u8 97, .int .u8 98, .int .u8 99, .int .u8 100] 5 (4, 5))).alloc (.cells #[.int .u8 49, .int .u8 50, .int .u8 51, .int .u8 52, .int .u8 53, .int .u8 54, .int .u8 55, .int .u8 56] 5 (8, 9))) = w2 ∧
    Holds w2 w2.heap.size (some ⟨w.heap.size, 0, none⟩) 4 4 (ints [97, 98, 99, 100]) ∧ Holds w2 w2.heap.size (some ⟨w.heap.size + 1, 0, none⟩) 8 8 (ints [49, 50, 51, 52, 53, 54, 55, 56]) ∧ Below w.heap.size w w2 := by
  refine ⟨_, rfl, ?_⟩
  have a1 := Holds.laid w [97, 98, 99, 100] #[.int .u8 97, .int .u8 98, .int .u8 99, .int .u8 100] (4, 5) 4 _ rfl (byt_all rfl) rfl rfl (by decide)
  have b1 := (Below.refl w.heap.size w).alloc (Nat.le_refl _) (.cells #[.int .u8 97, .int .u8 98, .int .u8 99, .int .u8 100] 5 (4, 5))
  have s1 : (w.alloc (.cells #[.int .u8 97, .int .u8 98, .int .u8 99, .int .u8 100] 5 (4, 5))).heap.size = w.heap.size + 1 := by simp
  generalize w.alloc (.cells #[.int .u8 97, .int .u8 98, .int .u8 99, .int .u8 100] 5 (4, 5)) = w1 at *
  have a2 := Holds.laid w1 [49, 50, 51, 52, 53, 54, 55, 56] #[.int .u8 49, .int .u8 50, .int .u8 51, .int .u8 52, .int .u8 53, .int .u8 54, .int .u8 55, .int .u8 56] (8, 9) 8 _ rfl (byt_all rfl) rfl s1 (by decide)
  have q2 := (Below.refl w1.heap.size w1).alloc (Nat.le_refl _) (.cells #[.int .u8 49, .int .u8 50, .int .u8 51, .int .u8 52, .int .u8 53, .int .u8 54, .int .u8 55, .int .u8 56] 5 (8, 9))
  have s2 : (w1.alloc (.cells #[.int .u8 49, .int .u8 50, .int .u8 51, .int .u8 52, .int .u8 53, .int .u8 54, .int .u8 55, .int .u8 56] 5 (8, 9))).heap.size = w.heap.size + 1 + 1 := by simp [s1]
  generalize w1.alloc (.cells #[.int .u8 49, .int .u8 50, .int .u8 51, .int .u8 52, .int .u8 53, .int .u8 54, .int .u8 55, .int .u8 56] 5 (8, 9)) = w2 at *
  exact ⟨(a1.below (q2.mono (by omega))).more (by omega), a2.more (by omega), b1.trans (q2.mono (by omega))⟩

end Go.Proofs.YtdnkbefpbehllaaDoor.CtrA

