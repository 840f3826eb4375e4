/- The document's examples hold. -/
import Derived.Test.YtjhfginopbjldaaDoorAwakeFacts
import Derived.Test.YtjhfginopbjldaaDoorExts
import Derived.Test.YtjhfginopbjldaaDoorSame
import Derived.Lib.SlBytesConst
set_option linter.unusedVariables false
namespace Go.Proofs.YtjhfginopbjldaaDoor.Awake
open Go.RowKit Go.Proofs.YtjhfginopbjldaaDoor.Sums Go.Proofs.YtjhfginopbjldaaDoor.Mem Go.Proofs.YtjhfginopbjldaaDoor.Blk Go.Proofs.YtjhfginopbjldaaDoor.Free Go.Proofs.YtjhfginopbjldaaDoor.Steps Go.Proofs.YtjhfginopbjldaaDoor.Pkt Go.Proofs.YtjhfginopbjldaaDoor.Check Go.Proofs.YtjhfginopbjldaaDoor.Errno Go.Proofs.YtjhfginopbjldaaDoor.Decode Go.Proofs.YtjhfginopbjldaaDoor.ParseCode Go.Proofs.YtjhfginopbjldaaDoor.Same Go.Proofs.YtjhfginopbjldaaDoor.Opts Go.Proofs.YtjhfginopbjldaaDoor.Exts Go.Proofs.YtjhfginopbjldaaDoor.BytesCode

theorem eql_str (x y : Operand) (w : World) : (do eqGuard .eql 9 x y (.string ⟨#[69, 0, 0, 20, 0, 0, 0, 0, 64, 17, 102, 215, 10, 0, 0, 1, 10, 0, 0, 2]⟩) (.string ⟨#[69, 0, 0, 20, 0, 0, 0, 0, 64, 17, 102, 215, 10, 0, 0, 1, 10, 0, 0, 2]⟩); binOp .eql 9 (.string ⟨#[69, 0, 0, 20, 0, 0, 0, 0, 64, 17, 102, 215, 10, 0, 0, 1, 10, 0, 0, 2]⟩) (.string ⟨#[69, 0, 0, 20, 0, 0, 0, 0, 64, 17, 102, 215, 10, 0, 0, 1, 10, 0, 0, 2]⟩) : Sem Value).run Tryd.prog w = .ok (.bool true) w := by
  simp [go_sem, eqGuard]
theorem eql_num (z : Int) (x y : Operand) (w : World) : (do eqGuard .eql 27 x y (.int .i64 z) (.int .i64 z); binOp .eql 27 (.int .i64 z) (.int .i64 z) : Sem Value).run Tryd.prog w = .ok (.bool true) w := by
  simp [go_sem, eqGuard]
theorem st_pick {o : Oper} {a : Act} {w : World} {K : Act → World → Prop} {Q : Exit → Act → World → Prop} (c x y : Operand) (ho : o.op = .pick c x y) (v : Value) (hc : a.eval c = .bool true) (hx : a.eval x = v) (hK : K (a.put o.dst v) w) : Step Tryd.prog o a w K Q :=
  wp_value v (by simp [execOp, ho, hc, hx, asBool]) hK
theorem two_list {a : Act} {x y : Operand} {u v : Value} (h1 : a.eval x = u) (h2 : a.eval y = v) : [x, y].map a.eval = [u, v] := by simp [h1, h2]
theorem ent_one : Enters Tryd.prog 28 := enters_of Tryd.func28 (by kernel_rfl) rfl
theorem ent_same : Enters Tryd.prog 13 := enters_of Tryd.func13 (by kernel_rfl) rfl
theorem ent_exts : Enters Tryd.prog 20 := enters_of Tryd.func20 (by kernel_rfl) rfl
def pairC : Array Value := #[.int .i64 1, .string ⟨#[]⟩, .int .i64 148, .string ⟨#[0, 0]⟩]
theorem run_slice2 (w : World) : (Instr.buildSlice 36 2 #[(0, .agg #[.int .i64 1, .string ⟨#[]⟩]), (1, .agg #[.int .i64 148, .string ⟨#[0, 0]⟩])]).run Tryd.prog w = .ok (.slice (some ⟨w.heap.size, 0, none⟩) 2 2) (w.alloc (.cells pairC 45)) := by
  kernel_rfl
theorem st_slice2 {o : Oper} {a : Act} {w : World} {K : Act → World → Prop} {Q : Exit → Act → World → Prop} (x y : Operand) (ho : o.op = .buildSlice 36 2 #[(0, x), (1, y)]) (hx : a.eval x = .agg #[.int .i64 1, .string ⟨#[]⟩]) (hy : a.eval y = .agg #[.int .i64 148, .string ⟨#[0, 0]⟩])
    (hK : K (a.put o.dst (.slice (some ⟨w.heap.size, 0, none⟩) 2 2)) (w.alloc (.cells pairC 45))) : Step Tryd.prog o a w K Q := by
  constructor
  have hr : (execOp a.eval o).run Tryd.prog w = .ok (.value (.slice (some ⟨w.heap.size, 0, none⟩) 2 2)) (w.alloc (.cells pairC 45)) := by
    simp [execOp, ho, hx, hy, run_slice2 w, Result.andThen]
  unfold Oper.wp
  rw [hr]
  exact hK
theorem row_two (w : World) : Row (w.alloc (.cells pairC 45)) (.slice (some ⟨w.heap.size, 0, none⟩) 2 2) [((1 : Int), (⟨#[]⟩ : ByteArray)), (148, ⟨#[0, 0]⟩)] := by
  have hc : ∀ i, (w.alloc (.cells pairC 45)).cell? ⟨w.heap.size, i, none⟩ = pairC[i]? := fun i => Blk.cell (Blk.new w 45 pairC) i
  refine ⟨some ⟨w.heap.size, 0, none⟩, 2, rfl, fun i k d hi => ⟨_, rfl, by simp, ?_⟩⟩
  match i, hi with
  | 0, hi =>
    simp at hi
    obtain ⟨rfl, rfl⟩ := hi
    exact ⟨(hc 0).trans rfl, (hc 1).trans rfl⟩
  | 1, hi =>
    simp at hi
    obtain ⟨rfl, rfl⟩ := hi
    exact ⟨(hc 2).trans rfl, (hc 3).trans rfl⟩

theorem Holds.marked (w : World) (l : List Int) (cs : Array Value) (n : Nat) (fr : Nat × Nat) (hc : cs.toList = l.map (Value.int .u8)) (hn : l.length = n) (hf : cs.size ≤ fr.1) (hm : n ≤ maxLen) (h : Bytes l) :
    Holds (w.alloc (.cells cs 5 fr)) (w.heap.size + 1) (some ⟨w.heap.size, 0, none⟩) n n l := by
  have hs : cs.size = n := by rw [← Array.length_toList, hc, List.length_map, hn]
  have ho : Owns (w.alloc (.cells cs 5 fr)) 0 (.slice (some ⟨w.heap.size, 0, none⟩) n n) n l := ⟨hn, h, .inr ⟨w.heap.size, n, cs, fr, rfl, Nat.zero_le _, heap_alloc_new w _, .inr hf, Nat.le_refl _, hm, hs, by
    rw [hc, List.take_of_length_le (by rw [List.length_map, hn]; omega)]⟩⟩
  obtain ⟨A, c, hv, hh⟩ := ho.slice
  injection hv with e1 _ e2
  subst e1 e2
  simpa using hh
def lit20 : Array Value := #[.int .u8 69, .int .u8 0, .int .u8 0, .int .u8 20, .int .u8 0, .int .u8 0, .int .u8 0, .int .u8 0, .int .u8 64, .int .u8 17, .int .u8 102, .int .u8 215, .int .u8 10, .int .u8 0, .int .u8 0, .int .u8 1, .int .u8 10, .int .u8 0, .int .u8 0, .int .u8 2]
theorem conv_lit (w : World) (C : Array Value) (n c : Nat) : (convert 22 22 (.slice (some ⟨w.heap.size, 0, none⟩) n c)).run Tryd.prog (w.alloc (.cells C 5)) = .ok (.slice (some ⟨w.heap.size, 0, none⟩) n c) (w.alloc (.cells C 5 (C.size, C.size + 1))) :=
  Lib.run_convert_bytes_const w 22 5 C n c Tryd.underlying22 Tryd.underlying5

set_option maxHeartbeats 2000000 in
set_option maxRecDepth 20000 in
theorem awake_any (w : World) (hg : Handle w) : Calls Tryd.prog 14 #[] w fun e w' => e = .returned (.bool true) ∧ Below w.heap.size w w' := by
  have xs1 : (⟨#[69, 0, 0, 20, 0, 0, 0, 0, 64, 17, 102, 215, 10, 0, 0, 1, 10, 0, 0, 2]⟩ : ByteArray).extract 0 19 = ⟨#[69, 0, 0, 20, 0, 0, 0, 0, 64, 17, 102, 215, 10, 0, 0, 1, 10, 0, 0]⟩ := by kernel_rfl
  have xs2 : (⟨#[69, 0, 0, 20, 0, 0, 0, 0, 64, 17, 102, 215, 10, 0, 0, 1, 10, 0, 0]⟩ : ByteArray) ++ ⟨#[3]⟩ = ⟨#[69, 0, 0, 20, 0, 0, 0, 0, 64, 17, 102, 215, 10, 0, 0, 1, 10, 0, 0, 3]⟩ := by kernel_rfl
  go_enter Tryd.func14, Tryd.ntmps14
  go_wp2_with fail
  refine (one_any w).mono ?_
  rintro e w1 ⟨rfl, hb1⟩
  have hs1 := hb1.size
  go_wp2_with fail
  refine (bytes_ok onePkt none 0 0 [] w1 (hg.keep hb1) 0 ⟨rfl, Nat.le_refl _, Nat.zero_le _, (fun _ h => by cases h), fun h => absurd h (by decide)⟩ (Nat.zero_le _) one_valid (by decide)).mono ?_
  rintro e w2 ⟨v2, rfl, o2, hb2⟩
  rw [one_bytes] at o2
  replace o2 := Lib.hid o2
  have B2 := Lib.hid (hb1.trans (hb2.mono hs1))
  have hs2 := hb2.size
  clear hb1 hb2
  have HL := Lib.hid (Holds.marked w2 txt lit20 20 (20, 21) rfl rfl (by decide) (by decide) (by unfold Bytes; decide))
  have B3 := Lib.hid (B2.out.alloc (Nat.le_trans hs1 hs2) (.cells lit20 5 (20, 21)))
  have CS := conv_lit w2 lit20 20 20
  unfold lit20 at HL B3 CS
  simp only [List.size_toArray, List.length_cons, List.length_nil, Nat.reduceAdd] at CS
  go_wp2_with fail
  refine (parse_any _ _ _ txt _ _ (hg.keep B3.out) (by simp) HL.out (by decide)).mono ?_
  rintro e w3 ⟨h3, hb3⟩
  rcases h3 with ⟨_, A', c', rfl, ho3⟩ | ⟨h, _⟩
  case inr => exact absurd txt_perr h
  rw [txt_pk] at *
  rw [txt_hd] at ho3 ⊢
  replace ho3 : Owns w3 w.heap.size (.slice A' 0 c') 0 [] := ho3.mono (by simp; omega)
  have B4 := Lib.hid (B3.out.trans (hb3.mono (by simp; omega)))
  have O2 := Lib.hid (o2.out.below (((Below.refl _ w2).alloc (Nat.le_refl _) (.cells #[.int .u8 69, .int .u8 0, .int .u8 0, .int .u8 20, .int .u8 0, .int .u8 0, .int .u8 0, .int .u8 0, .int .u8 64, .int .u8 17, .int .u8 102, .int .u8 215, .int .u8 10, .int .u8 0, .int .u8 0, .int .u8 1, .int .u8 10, .int .u8 0, .int .u8 0, .int .u8 2] 5 (20, 21))).trans (hb3.mono (by simp))) (Nat.le_refl _))
  have v1 : val onePkt (.slice A' (txt.length - 20) c') = .agg #[.int .i64 0, .int .i64 0, .int .i64 64, .int .i64 17, .bool false, .bool false, .int .i64 0, .string ⟨#[10, 0, 0, 1]⟩, .string ⟨#[10, 0, 0, 2]⟩, .string ⟨#[]⟩, .slice A' 0 c'] := rfl
  rw [v1]
  clear CS HL B3 hb3 o2 v1
  have hs3 := B4.out.size
  have hs13 := O2.out
  have B5 := Lib.hid (B4.out.alloc hs3 (.cells #[.int .i64 0, .int .i64 0, .int .i64 64, .int .i64 17, .bool false, .bool false, .int .i64 0, .string ⟨#[10, 0, 0, 1]⟩, .string ⟨#[10, 0, 0, 2]⟩, .string ⟨#[]⟩, .slice A' 0 c'] 24))
  have N5 := Lib.hid (Blk.new w3 24 #[.int .i64 0, .int .i64 0, .int .i64 64, .int .i64 17, .bool false, .bool false, .int .i64 0, .string ⟨#[10, 0, 0, 1]⟩, .string ⟨#[10, 0, 0, 2]⟩, .string ⟨#[]⟩, .slice A' 0 c'])
  have O25 := Lib.hid (O2.out.alloc (.cells #[.int .i64 0, .int .i64 0, .int .i64 64, .int .i64 17, .bool false, .bool false, .int .i64 0, .string ⟨#[10, 0, 0, 1]⟩, .string ⟨#[10, 0, 0, 2]⟩, .string ⟨#[]⟩, .slice A' 0 c'] 24))
  have O35 := Lib.hid (ho3.alloc (.cells #[.int .i64 0, .int .i64 0, .int .i64 64, .int .i64 17, .bool false, .bool false, .int .i64 0, .string ⟨#[10, 0, 0, 1]⟩, .string ⟨#[10, 0, 0, 2]⟩, .string ⟨#[]⟩, .slice A' 0 c'] 24))
  have l5 : w3.heap.size < (w3.alloc (.cells #[.int .i64 0, .int .i64 0, .int .i64 64, .int .i64 17, .bool false, .bool false, .int .i64 0, .string ⟨#[10, 0, 0, 1]⟩, .string ⟨#[10, 0, 0, 2]⟩, .string ⟨#[]⟩, .slice A' 0 c'] 24)).heap.size := by simp
  obtain ⟨w4, v4, hc4, ho4, hb4⟩ := run_bytes_string (w3.alloc (.cells #[.int .i64 0, .int .i64 0, .int .i64 64, .int .i64 17, .bool false, .bool false, .int .i64 0, .string ⟨#[10, 0, 0, 1]⟩, .string ⟨#[10, 0, 0, 2]⟩, .string ⟨#[]⟩, .slice A' 0 c'] 24)) ⟨#[69, 0, 0, 20, 0, 0, 0, 0, 64, 17, 102, 215, 10, 0, 0, 1, 10, 0, 0, 3]⟩ (by decide)
  have e4 : nums ⟨#[69, 0, 0, 20, 0, 0, 0, 0, 64, 17, 102, 215, 10, 0, 0, 1, 10, 0, 0, 3]⟩ = bad := by kernel_rfl
  rw [e4] at ho4
  clear ho3 O2 B4 hs13
  go_wp2_with fail
  obtain ⟨A4, c4, rfl, hh4⟩ := ho4.slice
  have B6 := Lib.hid (B5.out.trans (hb4.mono B5.out.size))
  refine (parse_any A4 _ c4 bad w4 _ (hg.keep B6.out) (Nat.le_refl _) hh4 (by decide)).mono ?_
  rintro e w5 ⟨h5, hb5⟩
  rcases h5 with ⟨h, _⟩ | ⟨_, rfl⟩
  · rw [bad_perr] at h; exact absurd h (by decide)
  rw [bad_perr]
  have v5 : val Pkt.zero (.slice none 0 0) = .agg #[.int .i64 0, .int .i64 0, .int .i64 0, .int .i64 0, .bool false, .bool false, .int .i64 0, .string ⟨#[]⟩, .string ⟨#[]⟩, .string ⟨#[]⟩, .slice none 0 0] := rfl
  rw [v5]
  have b45 := hb4.trans (hb5.mono hb4.size)
  have N6 := Lib.hid (N5.out.below b45 l5)
  have O26 := Lib.hid (O25.out.below b45 (Nat.le_refl _))
  have O36 := Lib.hid (O35.out.below b45 (Nat.le_refl _))
  have B7 := Lib.hid (B5.out.trans (b45.mono B5.out.size))
  have l7 := Nat.lt_of_lt_of_le l5 b45.size
  clear B5 B6 N5 O25 O35 b45 hh4 ho4 hb4 hb5 hc4 l5 v5
  have hs7 := B7.out.size
  have B8 := Lib.hid (B7.out.alloc hs7 (.cells #[.int .i64 0, .int .i64 0, .int .i64 0, .int .i64 0, .bool false, .bool false, .int .i64 0, .string ⟨#[]⟩, .string ⟨#[]⟩, .string ⟨#[]⟩, .slice none 0 0] 24))
  have N8 := Lib.hid (N6.out.alloc (.cells #[.int .i64 0, .int .i64 0, .int .i64 0, .int .i64 0, .bool false, .bool false, .int .i64 0, .string ⟨#[]⟩, .string ⟨#[]⟩, .string ⟨#[]⟩, .slice none 0 0] 24))
  have O28 := Lib.hid (O26.out.alloc (.cells #[.int .i64 0, .int .i64 0, .int .i64 0, .int .i64 0, .bool false, .bool false, .int .i64 0, .string ⟨#[]⟩, .string ⟨#[]⟩, .string ⟨#[]⟩, .slice none 0 0] 24))
  have O38 := Lib.hid (O36.out.alloc (.cells #[.int .i64 0, .int .i64 0, .int .i64 0, .int .i64 0, .bool false, .bool false, .int .i64 0, .string ⟨#[]⟩, .string ⟨#[]⟩, .string ⟨#[]⟩, .slice none 0 0] 24))
  clear B7 N6 O26 O36
  go_wp2_with fail
  refine (options_any ⟨#[1, 148, 4, 0, 0, 0]⟩ _ (hg.keep B8.out) (by decide)).mono ?_
  rintro e w6 ⟨h6, hb6⟩
  rcases h6 with ⟨xs, v6, hx, rfl, ho6⟩ | ⟨h, _⟩
  case inr => rw [opts_two] at h; cases h
  rw [opts_two] at hx
  obtain rfl := Option.some.inj hx
  have B9 := Lib.hid (B8.out.trans (hb6.mono B8.out.size))
  have N9 := Lib.hid (N8.out.below hb6 N8.out.lt)
  have O29 := Lib.hid (O28.out.below hb6 (Nat.le_refl _))
  have O39 := Lib.hid (O38.out.below hb6 (Nat.le_refl _))
  have R6 := Lib.hid (Row.of_owns ho6)
  clear B8 N8 O28 O38 hb6 ho6 hx
  go_wp2_with fail
  have hs9 := B9.out.size
  have dr : ∀ W, Below w6.drew.heap.size w6.drew W → Below w6.heap.size w6 W := fun W h => (below_drewN (Below.refl _ _) 1).trans h
  have conv2 : ∀ W, Below w6.drew.heap.size w6.drew W → (convert 22 9 v2).run Tryd.prog W = .ok (.string (strOfNums txt)) W := by
    intro W hW
    obtain ⟨A2, c2, rfl, hh2⟩ := O29.out.slice
    exact run_string_bytes (hh2.below (dr W hW))
  have same3 : ∀ W, Below w6.drew.heap.size w6.drew W → Calls Tryd.prog 13 #[val onePkt (.slice A' 0 c'), val onePkt (.slice none 0 0)] W fun e w' => e = .returned (.bool true) ∧ Below W.heap.size W w' := by
    intro W hW
    obtain ⟨A3, c3, q, hh3⟩ := O39.out.slice
    injection q with q1 _ q2
    subst q1 q2
    exact same_yes onePkt A' none 0 c' 0 0 w6.heap.size [] W (hh3.below (dr W hW)) (Holds.nil W w6.heap.size none) hW.size
  clear xs1 xs2 e4 O29 O39
  refine wp_region_freeG [0, 1, 2, 3, 4, 5, 6, 7, 8, 9, 10, 11, 12, 13, 14, 15, 16, 17, 18, 19, 20, 21, 22, 23, 24, 25, 26, 27, 28, 29, 30, 31] 32 [33] [3, 7, 12, 17, 21, 28] (fun w1 w2 => Below w1.heap.size w1 w2) (fun k w' v => match k with
    | 0 => v = v2
    | 1 => v = .string ⟨#[69, 0, 0, 20, 0, 0, 0, 0, 64, 17, 102, 215, 10, 0, 0, 1, 10, 0, 0, 2]⟩
    | 2 => v = .bool true
    | 3 => v = .bool true
    | 4 => v = .int .i64 0
    | 5 => v = .bool true
    | 6 => v = .bool true
    | 7 => v = .bool true
    | 8 => v = .agg #[.int .i64 0, .int .i64 0, .int .i64 64, .int .i64 17, .bool false, .bool false, .int .i64 0, .string ⟨#[10, 0, 0, 1]⟩, .string ⟨#[10, 0, 0, 2]⟩, .string ⟨#[]⟩, .slice A' 0 c']
    | 9 => v = val onePkt (.slice none 0 0)
    | 10 => v = .bool true
    | 11 => v = .bool true
    | 12 => v = .bool true
    | 13 => v = .int .i64 0
    | 14 => v = .int .i64 0
    | 15 => v = .bool true
    | 16 => v = .bool true
    | 17 => v = .bool true
    | 18 => v = .int .i64 5
    | 19 => v = .bool true
    | 20 => v = .bool true
    | 21 => v = .bool true
    | 22 => v = v6
    | 23 => v = .agg #[.int .i64 1, .string ⟨#[]⟩]
    | 24 => v = .agg #[.int .i64 148, .string ⟨#[0, 0]⟩]
    | 25 => Row w' v [((1 : Int), (⟨#[]⟩ : ByteArray)), (148, ⟨#[0, 0]⟩)]
    | 26 => v = .bool true
    | 27 => v = .bool true
    | 28 => v = .bool true
    | 29 => v = .int .i64 0
    | 30 => v = .int .i64 0
    | _ => v = .bool true) (by kernel_rfl) (by kernel_rfl) (fun g hg w v hv => ?_) (Below.refl _ _) (fun _ _ _ h k => h.trans (k.mono h.size)) (fun k w1 w2 v h => match k with
    | 0 => fun x => x
    | 1 => fun x => x
    | 2 => fun x => x
    | 3 => fun x => x
    | 4 => fun x => x
    | 5 => fun x => x
    | 6 => fun x => x
    | 7 => fun x => x
    | 8 => fun x => x
    | 9 => fun x => x
    | 10 => fun x => x
    | 11 => fun x => x
    | 12 => fun x => x
    | 13 => fun x => x
    | 14 => fun x => x
    | 15 => fun x => x
    | 16 => fun x => x
    | 17 => fun x => x
    | 18 => fun x => x
    | 19 => fun x => x
    | 20 => fun x => x
    | 21 => fun x => x
    | 22 => fun x => x
    | 23 => fun x => x
    | 24 => fun x => x
    | 25 => fun r => Row.below r h
    | 26 => fun x => x
    | 27 => fun x => x
    | 28 => fun x => x
    | 29 => fun x => x
    | 30 => fun x => x
    | _ + 31 => fun x => x) (fun _ _ _ _ _ h => h) ?_ _ (by rfl) ?_
  · simp only [List.mem_cons, List.not_mem_nil, or_false] at hg
    rcases hg with rfl | rfl | rfl | rfl | rfl | rfl <;> exact hv
  · refine (obs_cons (by rfl) (fun vals w' hgr hdep K hK => ?_) (obs_cons (by rfl) (fun vals w' hgr hdep K hK => ?_) (obs_cons (by rfl) (fun vals w' hgr hdep K hK => ?_) (obs_cons (by rfl) (fun vals w' hgr hdep K hK => ?_) (obs_cons (by rfl) (fun vals w' hgr hdep K hK => ?_) (obs_cons (by rfl) (fun vals w' hgr hdep K hK => ?_) (obs_cons (by rfl) (fun vals w' hgr hdep K hK => ?_) (obs_cons (by rfl) (fun vals w' hgr hdep K hK => ?_) (obs_cons (by rfl) (fun vals w' hgr hdep K hK => ?_) (obs_cons (by rfl) (fun vals w' hgr hdep K hK => ?_) (obs_cons (by rfl) (fun vals w' hgr hdep K hK => ?_) (obs_cons (by rfl) (fun vals w' hgr hdep K hK => ?_) (obs_cons (by rfl) (fun vals w' hgr hdep K hK => ?_) (obs_cons (by rfl) (fun vals w' hgr hdep K hK => ?_) (obs_cons (by rfl) (fun vals w' hgr hdep K hK => ?_) (obs_cons (by rfl) (fun vals w' hgr hdep K hK => ?_) (obs_cons (by rfl) (fun vals w' hgr hdep K hK => ?_) (obs_cons (by rfl) (fun vals w' hgr hdep K hK => ?_) (obs_cons (by rfl) (fun vals w' hgr hdep K hK => ?_) (obs_cons (by rfl) (fun vals w' hgr hdep K hK => ?_) (obs_cons (by rfl) (fun vals w' hgr hdep K hK => ?_) (obs_cons (by rfl) (fun vals w' hgr hdep K hK => ?_) (obs_cons (by rfl) (fun vals w' hgr hdep K hK => ?_) (obs_cons (by rfl) (fun vals w' hgr hdep K hK => ?_) (obs_cons (by rfl) (fun vals w' hgr hdep K hK => ?_) (obs_cons (by rfl) (fun vals w' hgr hdep K hK => ?_) (obs_cons (by rfl) (fun vals w' hgr hdep K hK => ?_) (obs_cons (by rfl) (fun vals w' hgr hdep K hK => ?_) (obs_cons (by rfl) (fun vals w' hgr hdep K hK => ?_) (obs_cons (by rfl) (fun vals w' hgr hdep K hK => ?_) (obs_cons (by rfl) (fun vals w' hgr hdep K hK => ?_) (obs_cons (by rfl) (fun vals w' hgr hdep K hK => ?_) obs_nil))))))))))))))))))))))))))))))))
    · exact wp_move (.tmp 1) rfl _ (at_out _ (by kernel_rfl) rfl) (hK _ _ (Below.refl _ _) rfl)
    · exact wp_conv (.tmp 31) rfl _ _ ((at_dst 0 (by kernel_rfl)).trans (hdep 0 (by simp) (by kernel_rfl))) ((conv2 w' hgr).trans (by rw [txt_str])) (hK _ _ (Below.refl _ _) rfl)
    · exact wp_bin (.tmp 32) (.const (.string ⟨#[69, 0, 0, 20, 0, 0, 0, 0, 64, 17, 102, 215, 10, 0, 0, 1, 10, 0, 0, 2]⟩)) rfl _ _ _ ((at_dst 1 (by kernel_rfl)).trans (hdep 1 (by simp) (by kernel_rfl))) rfl (eql_str _ _ w') (hK _ _ (Below.refl _ _) rfl)
    · exact wp_move (.tmp 33) rfl _ ((at_dst 2 (by kernel_rfl)).trans (hdep 2 (by simp) (by kernel_rfl))) (hK _ _ (Below.refl _ _) rfl)
    · exact wp_move (.tmp 2) rfl _ (at_out _ (by kernel_rfl) rfl) (hK _ _ (Below.refl _ _) rfl)
    · exact wp_bin (.tmp 35) (.const (.int .i64 0)) rfl _ _ _ ((at_dst 4 (by kernel_rfl)).trans (hdep 4 (by simp) (by kernel_rfl))) rfl (eql_num 0 _ _ w') (hK _ _ (Below.refl _ _) rfl)
    · exact st_pick (.tmp 34) (.tmp 36) _ rfl _ ((at_dst 3 (by kernel_rfl)).trans (hdep 3 (by simp) (by kernel_rfl))) ((at_dst 5 (by kernel_rfl)).trans (hdep 5 (by simp) (by kernel_rfl))) (hK _ _ (Below.refl _ _) rfl)
    · exact wp_move (.tmp 37) rfl _ ((at_dst 6 (by kernel_rfl)).trans (hdep 6 (by simp) (by kernel_rfl))) (hK _ _ (Below.refl _ _) rfl)
    · exact st_load_row 24 (.tmp 3) rfl w3.heap.size (at_out _ (by kernel_rfl) rfl) 24 #[.int .i64 0, .int .i64 0, .int .i64 64, .int .i64 17, .bool false, .bool false, .int .i64 0, .string ⟨#[10, 0, 0, 1]⟩, .string ⟨#[10, 0, 0, 2]⟩, .string ⟨#[]⟩, .slice A' 0 c'] (0, 0) _ (N9.out.drew.below hgr N9.out.lt) (Tryd.underlying24) rfl (by kernel_rfl) (hK _ _ (Below.refl _ _) rfl)
    · exact wp_call 28 [] _ rfl ent_one [] rfl (fun v w'' => v = val onePkt (.slice none 0 0) ∧ Below w'.heap.size w' w'') ((one_any w').mono fun e w'' ⟨h1, h2⟩ => ⟨_, h1, rfl, h2⟩) (fun v w'' ⟨h1, h2⟩ => hK v _ h2 h1)
    · exact wp_call 13 [.tmp 39, .tmp 40] _ rfl ent_same [val onePkt (.slice A' 0 c'), val onePkt (.slice none 0 0)] (two_list ((at_dst 8 (by kernel_rfl)).trans (hdep 8 (by simp) (by kernel_rfl))) ((at_dst 9 (by kernel_rfl)).trans (hdep 9 (by simp) (by kernel_rfl)))) (fun v w'' => v = .bool true ∧ Below w'.heap.size w' w'') ((same3 w' hgr).mono fun e w'' ⟨h1, h2⟩ => ⟨_, h1, rfl, h2⟩) (fun v w'' ⟨h1, h2⟩ => hK v _ h2 h1)
    · exact st_pick (.tmp 38) (.tmp 41) _ rfl _ ((at_dst 7 (by kernel_rfl)).trans (hdep 7 (by simp) (by kernel_rfl))) ((at_dst 10 (by kernel_rfl)).trans (hdep 10 (by simp) (by kernel_rfl))) (hK _ _ (Below.refl _ _) rfl)
    · exact wp_move (.tmp 42) rfl _ ((at_dst 11 (by kernel_rfl)).trans (hdep 11 (by simp) (by kernel_rfl))) (hK _ _ (Below.refl _ _) rfl)
    · exact wp_move (.tmp 4) rfl _ (at_out _ (by kernel_rfl) rfl) (hK _ _ (Below.refl _ _) rfl)
    · exact wp_move (.tmp 2) rfl _ (at_out _ (by kernel_rfl) rfl) (hK _ _ (Below.refl _ _) rfl)
    · exact wp_bin (.tmp 44) (.tmp 45) rfl _ _ _ ((at_dst 13 (by kernel_rfl)).trans (hdep 13 (by simp) (by kernel_rfl))) ((at_dst 14 (by kernel_rfl)).trans (hdep 14 (by simp) (by kernel_rfl))) (eql_num 0 _ _ w') (hK _ _ (Below.refl _ _) rfl)
    · exact st_pick (.tmp 43) (.tmp 46) _ rfl _ ((at_dst 12 (by kernel_rfl)).trans (hdep 12 (by simp) (by kernel_rfl))) ((at_dst 15 (by kernel_rfl)).trans (hdep 15 (by simp) (by kernel_rfl))) (hK _ _ (Below.refl _ _) rfl)
    · exact wp_move (.tmp 47) rfl _ ((at_dst 16 (by kernel_rfl)).trans (hdep 16 (by simp) (by kernel_rfl))) (hK _ _ (Below.refl _ _) rfl)
    · exact wp_move (.tmp 6) rfl _ (at_out _ (by kernel_rfl) rfl) (hK _ _ (Below.refl _ _) rfl)
    · exact wp_bin (.tmp 49) (.const (.int .i64 5)) rfl _ _ _ ((at_dst 18 (by kernel_rfl)).trans (hdep 18 (by simp) (by kernel_rfl))) rfl (eql_num 5 _ _ w') (hK _ _ (Below.refl _ _) rfl)
    · exact st_pick (.tmp 48) (.tmp 50) _ rfl _ ((at_dst 17 (by kernel_rfl)).trans (hdep 17 (by simp) (by kernel_rfl))) ((at_dst 19 (by kernel_rfl)).trans (hdep 19 (by simp) (by kernel_rfl))) (hK _ _ (Below.refl _ _) rfl)
    · exact wp_move (.tmp 51) rfl _ ((at_dst 20 (by kernel_rfl)).trans (hdep 20 (by simp) (by kernel_rfl))) (hK _ _ (Below.refl _ _) rfl)
    · exact wp_move (.tmp 7) rfl _ (at_out _ (by kernel_rfl) rfl) (hK _ _ (Below.refl _ _) rfl)
    · exact st_build [(0, .const (.int .i64 1))] rfl [(0, .int .i64 1)] rfl _ (by kernel_rfl) (hK _ _ (Below.refl _ _) rfl)
    · exact st_build [(0, .const (.int .i64 148)), (1, .const (.string ⟨#[0, 0]⟩))] rfl [(0, .int .i64 148), (1, .string ⟨#[0, 0]⟩)] rfl _ (by kernel_rfl) (hK _ _ (Below.refl _ _) rfl)
    · exact st_slice2 (.tmp 54) (.tmp 55) rfl ((at_dst 23 (by kernel_rfl)).trans (hdep 23 (by simp) (by kernel_rfl))) ((at_dst 24 (by kernel_rfl)).trans (hdep 24 (by simp) (by kernel_rfl))) (hK _ _ ((Below.refl _ _).alloc (Nat.le_refl _) _) (row_two w'))
    · exact wp_call 20 [.tmp 53, .tmp 56] _ rfl ent_exts [v6, vals 25] (two_list ((at_dst 22 (by kernel_rfl)).trans (hdep 22 (by simp) (by kernel_rfl))) (at_dst 25 (by kernel_rfl))) (fun v w'' => v = .bool true ∧ Below w'.heap.size w' w'') ((exts_any v6 (vals 25) _ _ w' (R6.out.below (below_drewN (Below.refl _ _) 1 |>.trans hgr)) (hdep 25 (by simp) (by kernel_rfl)) (by decide)).mono fun e w'' ⟨h1, h2⟩ => ⟨_, h1, by simp, h2⟩) (fun v w'' ⟨h1, h2⟩ => hK v _ h2 h1)
    · exact st_pick (.tmp 52) (.tmp 57) _ rfl _ ((at_dst 21 (by kernel_rfl)).trans (hdep 21 (by simp) (by kernel_rfl))) ((at_dst 26 (by kernel_rfl)).trans (hdep 26 (by simp) (by kernel_rfl))) (hK _ _ (Below.refl _ _) rfl)
    · exact wp_move (.tmp 58) rfl _ ((at_dst 27 (by kernel_rfl)).trans (hdep 27 (by simp) (by kernel_rfl))) (hK _ _ (Below.refl _ _) rfl)
    · exact wp_move (.tmp 8) rfl _ (at_out _ (by kernel_rfl) rfl) (hK _ _ (Below.refl _ _) rfl)
    · exact wp_move (.tmp 2) rfl _ (at_out _ (by kernel_rfl) rfl) (hK _ _ (Below.refl _ _) rfl)
    · exact wp_bin (.tmp 60) (.tmp 61) rfl _ _ _ ((at_dst 29 (by kernel_rfl)).trans (hdep 29 (by simp) (by kernel_rfl))) ((at_dst 30 (by kernel_rfl)).trans (hdep 30 (by simp) (by kernel_rfl))) (eql_num 0 _ _ w') (hK _ _ (Below.refl _ _) rfl)
  · intro vals w' hgr hG
    refine st_pick (.tmp 59) (.tmp 62) _ rfl _ ((at_dst 28 (by kernel_rfl)).trans (hG 28 (by simp))) ((at_dst 31 (by kernel_rfl)).trans (hG 31 (by simp))) ?_
    refine wpAnyH_next 33 _ rfl rfl (by kernel_rfl) (st_assign (.tmp 63) (.bool true) rfl (put_tmps_eq (fill_size _ _ _) (by kernel_rfl)) ⟨trivial, wpAnyH_done (by kernel_rfl) ?_ _⟩)
    have BW := Lib.hid (B9.out.trans ((below_drewN (Below.refl _ _) 1 |>.trans hgr : Below w6.heap.size w6 w').mono hs9))
    generalize hF : Act.put _ _ _ = F
    have h0 : F.eval (.tmp 0) = .bool true := by
      rw [← hF]
      exact put_tmps_eq (d := 0) (put_size (fill_size _ _ _)) (by kernel_rfl)
    have hd : F.defers = [] := by
      rw [← hF]
      exact put_defs (put_defs (fill_defs _ _ _))
    clear hF hG
    go_wp2_with fail
    refine bodyPost_ret (results_tmp rfl _ _ _) hd ?_
    exact ⟨congrArg Ending.returned h0, BW.out⟩
end Go.Proofs.YtjhfginopbjldaaDoor.Awake
