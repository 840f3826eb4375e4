/- The law's awake: the document's examples. -/
import Derived.Test.YtjfieoleoodfdaaSame6
set_option linter.unusedVariables false
namespace Go.Proofs.Ytjfieoleoodfdaa.Awake6
open Go.RowKit Go.Sort Go.Proofs.Ytjfieoleoodfdaa.Sums Go.Proofs.Ytjfieoleoodfdaa.Mem Go.Proofs.Ytjfieoleoodfdaa.P6 Go.Proofs.Ytjfieoleoodfdaa.Blk Go.Proofs.Ytjfieoleoodfdaa.Small6 Go.Proofs.Ytjfieoleoodfdaa.Loads6 Go.Proofs.Ytjfieoleoodfdaa.Exts Go.Proofs.Ytjfieoleoodfdaa.Opts Go.Proofs.Ytjfieoleoodfdaa.Exb6 Go.Proofs.Ytjfieoleoodfdaa.Dec6 Go.Proofs.Ytjfieoleoodfdaa.Bytes6 Go.Proofs.Ytjfieoleoodfdaa.Same6 Go.Proofs.Ytjfieoleoodfdaa.Parse6

def P0 : Pkt := ⟨0, 0, 64, ⟨#[0, 0, 0, 0, 0, 0, 0, 0, 0, 0, 0, 0, 0, 0, 0, 0]⟩, ⟨#[0, 0, 0, 0, 0, 0, 0, 0, 0, 0, 0, 0, 0, 0, 0, 1]⟩, [], 17⟩
def txt : List Int := [96, 0, 0, 0, 0, 0, 17, 64, 0, 0, 0, 0, 0, 0, 0, 0, 0, 0, 0, 0, 0, 0, 0, 0, 0, 0, 0, 0, 0, 0, 0, 0, 0, 0, 0, 0, 0, 0, 0, 1]
theorem valid0 : Valid P0 := Pkt.ok_valid (by kernel_rfl)
theorem bytes0 : P0.bytes [] = txt := by kernel_rfl
theorem perr0 : perr txt = 0 ∧ pkOf txt = P0 ∧ (tail txt).2.2 = [] := by
  have := bytes_perr valid0 (l := []) (by decide)
  rwa [bytes0] at this
theorem bad0 : perr (txt ++ [0]) = 4 := by
  have e : eb (txt ++ [0]) = 4 := by decide +kernel
  rw [perr_eb (by rw [e]; decide), e]
theorem str0 : strOfNums txt = ⟨#[96, 0, 0, 0, 0, 0, 17, 64, 0, 0, 0, 0, 0, 0, 0, 0, 0, 0, 0, 0, 0, 0, 0, 0, 0, 0, 0, 0, 0, 0, 0, 0, 0, 0, 0, 0, 0, 0, 0, 1]⟩ := by kernel_rfl

theorem bytes_p0 (w : World) : Calls Try.prog 9 #[.agg #[.int .i64 0, .int .i64 0, .int .i64 64, .string ⟨#[0, 0, 0, 0, 0, 0, 0, 0, 0, 0, 0, 0, 0, 0, 0, 0]⟩, .string ⟨#[0, 0, 0, 0, 0, 0, 0, 0, 0, 0, 0, 0, 0, 0, 0, 1]⟩, .slice none 0 0, .int .i64 17, .slice none 0 0]] w fun e w' => ∃ v, e = .returned (.tuple #[v, .int .i64 0]) ∧ Owns w' w.heap.size v 40 txt ∧ Below w.heap.size w w' := by
  have := bytes_ok P0 none 0 0 none 0 0 [] w (Row.nil w) (Holds.nil _ _ _) (by decide) valid0 (by decide)
  rw [bytes0] at this
  exact this

set_option maxHeartbeats 4000000 in
set_option maxRecDepth 100000 in
theorem awake_any (w : World) : Calls Try.prog 15 #[] w fun e w' => e = .returned (.bool true) ∧ Below w.heap.size w w' := by
  have s1 : ∀ W, (Instr.sliceAt 9 (.string ⟨#[0, 0, 0, 0, 0, 0, 0, 0, 0, 0, 0, 0, 0, 0, 0, 0]⟩) (some (.int .i64 1)) none none).run Try.prog W = .ok (.string ⟨#[0, 0, 0, 0, 0, 0, 0, 0, 0, 0, 0, 0, 0, 0, 0]⟩) W := fun W => by kernel_rfl
  have s2 : ∀ W, (Op.stringOp .add ⟨#[0, 0, 0, 0, 0, 0, 0, 0, 0, 0, 0, 0, 0, 0, 0]⟩ ⟨#[1]⟩).run Try.prog W = .ok (.string ⟨#[0, 0, 0, 0, 0, 0, 0, 0, 0, 0, 0, 0, 0, 0, 0, 1]⟩) W := fun W => by kernel_rfl
  have s3 : ∀ W, (Op.stringOp .add ⟨#[96, 0, 0, 0, 0, 0, 17, 64, 0, 0, 0, 0, 0, 0, 0, 0, 0, 0, 0, 0, 0, 0, 0, 0]⟩ ⟨#[0, 0, 0, 0, 0, 0, 0, 0, 0, 0, 0, 0, 0, 0, 0]⟩).run Try.prog W = .ok (.string ⟨#[96, 0, 0, 0, 0, 0, 17, 64, 0, 0, 0, 0, 0, 0, 0, 0, 0, 0, 0, 0, 0, 0, 0, 0, 0, 0, 0, 0, 0, 0, 0, 0, 0, 0, 0, 0, 0, 0, 0]⟩) W := fun W => by kernel_rfl
  have s4 : ∀ W, (Op.stringOp .add ⟨#[96, 0, 0, 0, 0, 0, 17, 64, 0, 0, 0, 0, 0, 0, 0, 0, 0, 0, 0, 0, 0, 0, 0, 0, 0, 0, 0, 0, 0, 0, 0, 0, 0, 0, 0, 0, 0, 0, 0]⟩ ⟨#[1]⟩).run Try.prog W = .ok (.string ⟨#[96, 0, 0, 0, 0, 0, 17, 64, 0, 0, 0, 0, 0, 0, 0, 0, 0, 0, 0, 0, 0, 0, 0, 0, 0, 0, 0, 0, 0, 0, 0, 0, 0, 0, 0, 0, 0, 0, 0, 1]⟩) W := fun W => by kernel_rfl
  have B0 := Lib.hid ((Below.refl w.heap.size w).alloc (Nat.le_refl _) (.cells #[.int .i64 0, .int .i64 0, .int .i64 64, .string ⟨#[0, 0, 0, 0, 0, 0, 0, 0, 0, 0, 0, 0, 0, 0, 0, 0]⟩, .string ⟨#[0, 0, 0, 0, 0, 0, 0, 0, 0, 0, 0, 0, 0, 0, 0, 1]⟩, .slice none 0 0, .int .i64 17, .slice none 0 0] 25))
  have K0 := Lib.hid (Blk.new w 25 #[.int .i64 0, .int .i64 0, .int .i64 64, .string ⟨#[0, 0, 0, 0, 0, 0, 0, 0, 0, 0, 0, 0, 0, 0, 0, 0]⟩, .string ⟨#[0, 0, 0, 0, 0, 0, 0, 0, 0, 0, 0, 0, 0, 0, 0, 1]⟩, .slice none 0 0, .int .i64 17, .slice none 0 0])
  go_enter Try.func15, Try.ntmps15
  go_wp2_with fail
  refine (bytes_p0 _).mono ?_
  rintro e w1 ⟨v, rfl, o1, hb⟩
  have B1 := Lib.hid (B0.out.trans (hb.mono B0.out.size))
  have K1 := Lib.hid (K0.out.below hb K0.out.lt)
  obtain ⟨A1, c1, rfl, h1⟩ := o1.slice
  have H1 := Lib.hid h1
  clear hb o1 h1 K0 B0
  go_wp2_with fail
  refine (parse_any A1 40 c1 txt w1 _ H1.out (Nat.le_refl _) (by omega)).mono ?_
  rintro e w2 ⟨he, hb⟩
  have B2 := Lib.hid (B1.out.trans (hb.mono B1.out.size))
  have K2 := Lib.hid (K1.out.below hb K1.out.lt)
  have H2 := Lib.hid ((H1.out.below hb).more hb.size)
  have sz2 := B1.out.size
  have wlt : w.heap.size < w2.heap.size := K2.out.lt
  clear hb H1 K1 B1
  rcases he with ⟨_, E, ce, A3, n3, c3, rfl, ho, hd⟩ | ⟨h0, _⟩
  case inr => exact absurd perr0.1 h0
  rw [perr0.2.1] at ho ⊢
  rw [perr0.2.2] at hd
  obtain rfl : n3 = 0 := hd.len.symm
  have RQ := Lib.hid (Row.of_owns ho)
  have DQ := Lib.hid hd.holds
  clear ho hd
  have e1 : Value.agg #[.int .i64 P0.cls, .int .i64 P0.lab, .int .i64 P0.hop, .string P0.src, .string P0.dst, .slice E P0.exts.length ce, .int .i64 P0.next, .slice A3 0 c3] = .agg #[.int .i64 0, .int .i64 0, .int .i64 64, .string ⟨#[0, 0, 0, 0, 0, 0, 0, 0, 0, 0, 0, 0, 0, 0, 0, 0]⟩, .string ⟨#[0, 0, 0, 0, 0, 0, 0, 0, 0, 0, 0, 0, 0, 0, 0, 1]⟩, .slice E 0 ce, .int .i64 17, .slice A3 0 c3] := rfl
  rw [e1]
  clear e1
  have B3 := Lib.hid (B2.out.alloc B2.out.size (.cells #[.int .i64 0, .int .i64 0, .int .i64 64, .string ⟨#[0, 0, 0, 0, 0, 0, 0, 0, 0, 0, 0, 0, 0, 0, 0, 0]⟩, .string ⟨#[0, 0, 0, 0, 0, 0, 0, 0, 0, 0, 0, 0, 0, 0, 0, 1]⟩, .slice E 0 ce, .int .i64 17, .slice A3 0 c3] 25))
  have K3 := Lib.hid (K2.out.alloc (.cells #[.int .i64 0, .int .i64 0, .int .i64 64, .string ⟨#[0, 0, 0, 0, 0, 0, 0, 0, 0, 0, 0, 0, 0, 0, 0, 0]⟩, .string ⟨#[0, 0, 0, 0, 0, 0, 0, 0, 0, 0, 0, 0, 0, 0, 0, 1]⟩, .slice E 0 ce, .int .i64 17, .slice A3 0 c3] 25))
  have Q3 := Lib.hid (Blk.new w2 25 #[.int .i64 0, .int .i64 0, .int .i64 64, .string ⟨#[0, 0, 0, 0, 0, 0, 0, 0, 0, 0, 0, 0, 0, 0, 0, 0]⟩, .string ⟨#[0, 0, 0, 0, 0, 0, 0, 0, 0, 0, 0, 0, 0, 0, 0, 1]⟩, .slice E 0 ce, .int .i64 17, .slice A3 0 c3])
  have H3 := Lib.hid ((H2.out.below ((Below.refl _ w2).alloc (Nat.le_refl _) (.cells #[.int .i64 0, .int .i64 0, .int .i64 64, .string ⟨#[0, 0, 0, 0, 0, 0, 0, 0, 0, 0, 0, 0, 0, 0, 0, 0]⟩, .string ⟨#[0, 0, 0, 0, 0, 0, 0, 0, 0, 0, 0, 0, 0, 0, 0, 1]⟩, .slice E 0 ce, .int .i64 17, .slice A3 0 c3] 25))).more (by simp : w2.heap.size ≤ (w2.alloc (.cells #[.int .i64 0, .int .i64 0, .int .i64 64, .string ⟨#[0, 0, 0, 0, 0, 0, 0, 0, 0, 0, 0, 0, 0, 0, 0, 0]⟩, .string ⟨#[0, 0, 0, 0, 0, 0, 0, 0, 0, 0, 0, 0, 0, 0, 0, 1]⟩, .slice E 0 ce, .int .i64 17, .slice A3 0 c3] 25)).heap.size))
  have R3 := Lib.hid (RQ.out.below ((Below.refl _ w2).alloc (Nat.le_refl _) (.cells #[.int .i64 0, .int .i64 0, .int .i64 64, .string ⟨#[0, 0, 0, 0, 0, 0, 0, 0, 0, 0, 0, 0, 0, 0, 0, 0]⟩, .string ⟨#[0, 0, 0, 0, 0, 0, 0, 0, 0, 0, 0, 0, 0, 0, 0, 1]⟩, .slice E 0 ce, .int .i64 17, .slice A3 0 c3] 25)))
  have D3 := Lib.hid ((DQ.out.below ((Below.refl _ w2).alloc (Nat.le_refl _) (.cells #[.int .i64 0, .int .i64 0, .int .i64 64, .string ⟨#[0, 0, 0, 0, 0, 0, 0, 0, 0, 0, 0, 0, 0, 0, 0, 0]⟩, .string ⟨#[0, 0, 0, 0, 0, 0, 0, 0, 0, 0, 0, 0, 0, 0, 0, 1]⟩, .slice E 0 ce, .int .i64 17, .slice A3 0 c3] 25))).more (by simp : w2.heap.size ≤ (w2.alloc (.cells #[.int .i64 0, .int .i64 0, .int .i64 64, .string ⟨#[0, 0, 0, 0, 0, 0, 0, 0, 0, 0, 0, 0, 0, 0, 0, 0]⟩, .string ⟨#[0, 0, 0, 0, 0, 0, 0, 0, 0, 0, 0, 0, 0, 0, 0, 1]⟩, .slice E 0 ce, .int .i64 17, .slice A3 0 c3] 25)).heap.size))
  have hz3 : (w2.alloc (.cells #[.int .i64 0, .int .i64 0, .int .i64 64, .string ⟨#[0, 0, 0, 0, 0, 0, 0, 0, 0, 0, 0, 0, 0, 0, 0, 0]⟩, .string ⟨#[0, 0, 0, 0, 0, 0, 0, 0, 0, 0, 0, 0, 0, 0, 0, 1]⟩, .slice E 0 ce, .int .i64 17, .slice A3 0 c3] 25)).heap.size = w2.heap.size + 1 := by simp
  clear RQ DQ H2 K2 B2
  have O4 := Lib.hid (Owns.lits (w2.alloc (.cells #[.int .i64 0, .int .i64 0, .int .i64 64, .string ⟨#[0, 0, 0, 0, 0, 0, 0, 0, 0, 0, 0, 0, 0, 0, 0, 0]⟩, .string ⟨#[0, 0, 0, 0, 0, 0, 0, 0, 0, 0, 0, 0, 0, 0, 0, 1]⟩, .slice E 0 ce, .int .i64 17, .slice A3 0 c3] 25)) (w2.heap.size + 1) (by simp) [] 0 (w2.heap.size + 1) #[] rfl rfl (by simp) (by omega) (fun _ h => by cases h))
  go_wp2_with (first
    | (at_builtin
       refine wpList_append_bytes rfl (.tmp 22) (.tmp 23) rfl (w2.heap.size + 1) _ 0 [] rfl O4.out (w2.alloc (.cells #[.int .i64 0, .int .i64 0, .int .i64 64, .string ⟨#[0, 0, 0, 0, 0, 0, 0, 0, 0, 0, 0, 0, 0, 0, 0, 0]⟩, .string ⟨#[0, 0, 0, 0, 0, 0, 0, 0, 0, 0, 0, 0, 0, 0, 0, 1]⟩, .slice E 0 ce, .int .i64 17, .slice A3 0 c3] 25)).heap.size A1 40 c1 txt rfl (H3.out.below ((Below.refl _ _).alloc (Nat.le_refl _) _)) (by omega) (by simp) ?_
       intro v5 w5 o5 g5 _
       have O5 := Lib.hid (Owns.lit w5 0 (Nat.zero_le _) [0] #[.int .u8 0] rfl (by simp [maxLen]) (fun y hy => by simp at hy; omega)))
    | (at_builtin
       refine wpList_append_bytes rfl (.tmp 24) (.tmp 25) rfl (w2.heap.size + 1) v5 _ _ rfl (o5.alloc _) _ (some ⟨w5.heap.size, 0, none⟩) 1 1 [0] rfl (by simpa using O5.out.holds) (by omega) (by have := g5.size; simp at this ⊢; omega) ?_
       intro v6 w6 o6 g6 _))
  have sz5 : w2.heap.size + 1 ≤ w5.heap.size := by have := g5.size; simp at this; omega
  have ln : ∀ (W W' : World) (v : Value) (b : Nat), (∀ k, v.ownBlock = some k → w2.heap.size + 1 ≤ k) → b < w2.heap.size + 1 → some b ≠ v.ownBlock := fun W W' v b h hb q => by have := h b q.symm; omega
  have n4 := ln w w _ w.heap.size (fun k hk => (O4.out.lt k hk).1) (by omega)
  have n4q := ln w w _ w2.heap.size (fun k hk => (O4.out.lt k hk).1) (by omega)
  have n5 := ln w w v5 w.heap.size (fun k hk => (o5.lt k hk).1) (by omega)
  have n5q := ln w w v5 w2.heap.size (fun k hk => (o5.lt k hk).1) (by omega)
  have K6 := Lib.hid (((((K3.out.alloc (.cells #[] 5)).grown g5 n4).alloc (.cells #[.int .u8 0] 5)).grown g6 n5))
  have Q6 := Lib.hid (((((Q3.out.alloc (.cells #[] 5)).grown g5 n4q).alloc (.cells #[.int .u8 0] 5)).grown g6 n5q))
  have B6 := Lib.hid ((((B3.out.alloc B3.out.size (.cells #[] 5)).grown g5 (by simp; omega) (fun k hk => by have := (O4.out.lt k hk).1; omega)).alloc (by omega) (.cells #[.int .u8 0] 5)).grown g6 (by simp; omega) (fun k hk => by have := (o5.lt k hk).1; omega))
  have H6 : Hid (Holds w6 (w2.heap.size + 1) A1 40 c1 txt) := Lib.hid ((((H3.out.below ((Below.refl _ _).alloc (Nat.le_refl _) (.cells #[] 5))).keep fun b o hb => World.cell?_of_block (g5.block b (by simp at hb ⊢; omega) (ln w w _ b (fun k hk => (O4.out.lt k hk).1) (by simp at hb; omega)))).below ((Below.refl _ w5).alloc (by simp; omega) (.cells #[.int .u8 0] 5))).keep (fun b o hb => World.cell?_of_block (g6.block b (by simp at hb ⊢; omega) (ln w w _ b (fun k hk => (o5.lt k hk).1) (by simp at hb; omega)))) |>.more (by simp))
  obtain ⟨A6, c6, rfl, h6⟩ := o6.slice
  have P6 := Lib.hid h6
  have hc3 := D3.out.2.2.1
  have sz6 : w2.heap.size + 1 ≤ w6.heap.size := by have := g6.size; simp at this; omega
  clear g5 g6 o5 o6 h6 n4 n4q n5 n5q K3 Q3 B3 H3 R3 D3 O4 O5 ln
  go_wp2_with fail
  refine (parse_any A6 (0 + 40 + 1) c6 _ w6 _ P6.out (Nat.le_refl _) (by omega)).mono ?_
  rintro e w7 ⟨he, hb⟩
  rw [show ([] ++ txt ++ [0] : List Int) = txt ++ [0] from rfl] at he
  rcases he with ⟨h0, _⟩ | ⟨_, rfl⟩
  · rw [bad0] at h0; cases h0
  rw [bad0]
  have K7 := Lib.hid (K6.out.below hb K6.out.lt)
  have Q7 := Lib.hid (Q6.out.below hb Q6.out.lt)
  have B7 := Lib.hid (B6.out.trans (hb.mono B6.out.size))
  have H7 := Lib.hid (H6.out.below (hb.mono sz6))
  have sz7 := hb.size
  clear hb K6 Q6 B6 H6 P6
  have K8 := Lib.hid (K7.out.alloc (.cells #[.int .i64 0, .int .i64 0, .int .i64 0, .string ⟨#[]⟩, .string ⟨#[]⟩, .slice none 0 0, .int .i64 0, .slice none 0 0] 25))
  have Q8 := Lib.hid (Q7.out.alloc (.cells #[.int .i64 0, .int .i64 0, .int .i64 0, .string ⟨#[]⟩, .string ⟨#[]⟩, .slice none 0 0, .int .i64 0, .slice none 0 0] 25))
  have B8 := Lib.hid (B7.out.alloc B7.out.size (.cells #[.int .i64 0, .int .i64 0, .int .i64 0, .string ⟨#[]⟩, .string ⟨#[]⟩, .slice none 0 0, .int .i64 0, .slice none 0 0] 25))
  have H8 := Lib.hid (H7.out.below ((Below.refl _ w7).alloc (by omega) (.cells #[.int .i64 0, .int .i64 0, .int .i64 0, .string ⟨#[]⟩, .string ⟨#[]⟩, .slice none 0 0, .int .i64 0, .slice none 0 0] 25)))
  have sz8 : w2.heap.size + 1 ≤ (w7.alloc (.cells #[.int .i64 0, .int .i64 0, .int .i64 0, .string ⟨#[]⟩, .string ⟨#[]⟩, .slice none 0 0, .int .i64 0, .slice none 0 0] 25)).heap.size := by simp; omega
  clear K7 Q7 B7 H7
  go_wp2_with fail
  generalize w7.alloc (.cells #[.int .i64 0, .int .i64 0, .int .i64 0, .string ⟨#[]⟩, .string ⟨#[]⟩, .slice none 0 0, .int .i64 0, .slice none 0 0] 25) = w8 at *
  have k0 := fun d' os => cell_regrown (K8.out.cell 0) d' os
  have k1 := fun d' os => cell_regrown (K8.out.cell 1) d' os
  have k2 := fun d' os => cell_regrown (K8.out.cell 2) d' os
  have k3 := fun d' os => cell_regrown (K8.out.cell 3) d' os
  have k4 := fun d' os => cell_regrown (K8.out.cell 4) d' os
  have k5 := fun d' os => cell_regrown (K8.out.cell 5) d' os
  have k6 := fun d' os => cell_regrown (K8.out.cell 6) d' os
  have k7 := fun d' os => cell_regrown (K8.out.cell 7) d' os
  have q0 := fun d' os => cell_regrown (Q8.out.cell 0) d' os
  have q1 := fun d' os => cell_regrown (Q8.out.cell 1) d' os
  have q2 := fun d' os => cell_regrown (Q8.out.cell 2) d' os
  have q3 := fun d' os => cell_regrown (Q8.out.cell 3) d' os
  have q4 := fun d' os => cell_regrown (Q8.out.cell 4) d' os
  have q5 := fun d' os => cell_regrown (Q8.out.cell 5) d' os
  have q6 := fun d' os => cell_regrown (Q8.out.cell 6) d' os
  have q7 := fun d' os => cell_regrown (Q8.out.cell 7) d' os
  have cv : ∀ (d' : Nat) (os : Array Obj), (convert 23 9 (.slice A1 40 c1)).run Try.prog (grow (redrawn w8 d') os) = .ok (.string ⟨#[96, 0, 0, 0, 0, 0, 17, 64, 0, 0, 0, 0, 0, 0, 0, 0, 0, 0, 0, 0, 0, 0, 0, 0, 0, 0, 0, 0, 0, 0, 0, 0, 0, 0, 0, 0, 0, 0, 0, 1]⟩) (grow (redrawn w8 d') os) := fun d' os => by
    have := run_string_bytes (H8.out.below (below_regrown w8 d' os |>.mono (by omega)))
    rwa [str0] at this
  have SY : Hid (∀ W, Calls Try.prog 12 #[.agg #[.int .i64 0, .int .i64 0, .int .i64 64, .string ⟨#[0, 0, 0, 0, 0, 0, 0, 0, 0, 0, 0, 0, 0, 0, 0, 0]⟩, .string ⟨#[0, 0, 0, 0, 0, 0, 0, 0, 0, 0, 0, 0, 0, 0, 0, 1]⟩, .slice none 0 0, .int .i64 17, .slice none 0 0], .agg #[.int .i64 0, .int .i64 0, .int .i64 64, .string ⟨#[0, 0, 0, 0, 0, 0, 0, 0, 0, 0, 0, 0, 0, 0, 0, 0]⟩, .string ⟨#[0, 0, 0, 0, 0, 0, 0, 0, 0, 0, 0, 0, 0, 0, 0, 1]⟩, .slice E 0 ce, .int .i64 17, .slice A3 0 c3]] W fun e w' => e = .returned (.bool true) ∧ Below W.heap.size W w') := Lib.hid (fun W => same_yes P0 none 0 0 none 0 0 E 0 ce A3 0 c3 0 [] W (Row.nil W) ⟨E, ce, rfl, fun i k d h => by cases h⟩ (Holds.nil W 0 none) ⟨rfl, Nat.zero_le _, hc3, fun _ h => (by cases h), fun h => absurd h (by omega)⟩ (Nat.zero_le _) (by omega))
  have T4 : Hid (∀ W, Calls Try.prog 13 #[.int .i64 44] W fun e w' => e = .returned (.bool true) ∧ Below W.heap.size W w') := Lib.hid (fun W => (between_code 44 W).mono fun e w' h => ⟨h.1, by rw [h.2]; exact Below.refl _ _⟩)
  have T7 : Hid (∀ W, Calls Try.prog 13 #[.int .i64 17] W fun e w' => e = .returned (.bool false) ∧ Below W.heap.size W w') := Lib.hid (fun W => (between_code 17 W).mono fun e w' h => ⟨h.1, by rw [h.2]; exact Below.refl _ _⟩)
  refine wp_region_quiet_below (by kernel_rfl) (by kernel_rfl) ?_
  repeat (go_big_quiet_step (first | with_reducible exact Calls.regrown_of (SY.out _) | with_reducible exact Calls.regrown_of (T4.out _) | with_reducible exact Calls.regrown_of (T7.out _)))
  refine wpQuiet_nil ?_
  intro _ hw'
  obtain ⟨⟨dq, osq⟩, hw''⟩ := hw'
  subst hw''
  go_wp2_with fail
  go_ret
  exact ⟨rfl, B8.out.trans ((below_regrown w8 dq osq).mono B8.out.size)⟩
end Go.Proofs.Ytjfieoleoodfdaa.Awake6
