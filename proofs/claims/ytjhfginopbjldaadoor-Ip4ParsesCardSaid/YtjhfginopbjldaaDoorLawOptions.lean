/- The law Ip4Options: options that are put one behind the other. -/
import Derived.Test.YtjhfginopbjldaaDoorEnc
import Derived.Test.YtjhfginopbjldaaDoorAwake
set_option linter.unusedVariables false
namespace Go.Proofs.YtjhfginopbjldaaDoor.LawOptions
open Go.RowKit Go.Proofs.YtjhfginopbjldaaDoor.Sums Go.Proofs.YtjhfginopbjldaaDoor.Mem Go.Proofs.YtjhfginopbjldaaDoor.Blk Go.Proofs.YtjhfginopbjldaaDoor.Free Go.Proofs.YtjhfginopbjldaaDoor.Steps Go.Proofs.YtjhfginopbjldaaDoor.Errno Go.Proofs.YtjhfginopbjldaaDoor.Opts Go.Proofs.YtjhfginopbjldaaDoor.Exts Go.Proofs.YtjhfginopbjldaaDoor.Enc Go.Proofs.YtjhfginopbjldaaDoor.Awake

theorem field0 (p : Addr) (j : Nat) (w : World) : (Instr.fieldAt 45 (.pointer (some (p.add j))) 0).run Tryd.prog w = .ok (.pointer (some (p.add j))) w := by
  have e : (p.add j).add 0 = p.add j := Go.Deep.add_add p j 0
  simp [Instr.fieldAt, Instr.sureAddr, Sem.run_bind, run_underlying Tryd.underlying45 w, fieldPlace, Result.andThen, e]
theorem field1 (p : Addr) (j : Nat) (w : World) : (Instr.fieldAt 45 (.pointer (some (p.add j))) 1).run Tryd.prog w = .ok (.pointer (some (p.add (j + 1)))) w := by
  rw [← Go.Deep.add_add]
  simp [Instr.fieldAt, Instr.sureAddr, Sem.run_bind, run_underlying Tryd.underlying45 w, fieldPlace, Result.andThen]
theorem conv_u8 (a : Int) (w : World) (h0 : 0 ≤ a) (h1 : a ≤ 255) : (convert 3 5 (.int .i64 a)).run Tryd.prog w = .ok (.int .u8 a) w := by
  have e : IntKind.u8.wrap a = a := by rw [IntKind.wrap_u8]; omega
  have u1 := Tryd.underlying3
  have u2 := Tryd.underlying5
  simp [convert, run_underlying u1, run_underlying u2, Conv.intToInt, e]
theorem run_len (d : ByteArray) (ty : TypeId) (w : World) : (Builtin.len_ #[9] ty #[.string d]).run Tryd.prog w = .ok (.int .i64 (d.size : Int)) w := by
  have u := Tryd.underlying9
  simp [go_sem]
theorem st_len {o : Oper} {a : Act} {w : World} {K : Act → World → Prop} {Q : Exit → Act → World → Prop} (x : Operand) (ho : o.op = .call { callee := .builtin .len, args := #[x], argTypes := #[9] }) (d : ByteArray) (hx : a.eval x = .string d) (hK : K (a.put o.dst (.int .i64 (d.size : Int))) w) : Step Tryd.prog o a w K Q := by
  refine wp_value _ ?_ hK
  simp [execOp, ho, resolve, invoke, hx, builtin, run_len, Result.andThen]
theorem run_add2 (z : Int) (x y : Operand) (w : World) (h : (IntKind.i64.wrap (z + 2)) = z + 2) : (do eqGuard .add 3 x y (.int .i64 z) (.int .i64 2); binOp .add 3 (.int .i64 z) (.int .i64 2) : Sem Value).run Tryd.prog w = .ok (.int .i64 (z + 2)) w := by
  simp [go_sem, eqGuard, h]
theorem run_cat (s t : ByteArray) (x y : Operand) (w : World) (h : s.size + t.size ≤ 9223372036854775807) : (do eqGuard .add 9 x y (.string s) (.string t); binOp .add 9 (.string s) (.string t) : Sem Value).run Tryd.prog w = .ok (.string (s ++ t)) w := by
  simp [go_sem, eqGuard, h]
theorem run_slice8 (w : World) (u v : Int) : (Instr.buildSlice 22 2 #[(0, .int .u8 u), (1, .int .u8 v)]).run Tryd.prog w = .ok (.slice (some ⟨w.heap.size, 0, none⟩) 2 2) (w.alloc (.cells #[.int .u8 u, .int .u8 v] 5)) := by
  kernel_rfl
theorem st_slice8 {o : Oper} {a : Act} {w : World} {K : Act → World → Prop} {Q : Exit → Act → World → Prop} (x y : Operand) (ho : o.op = .buildSlice 22 2 #[(0, x), (1, y)]) (u v : Int) (hx : a.eval x = .int .u8 u) (hy : a.eval y = .int .u8 v)
    (hK : K (a.put o.dst (.slice (some ⟨w.heap.size, 0, none⟩) 2 2)) (w.alloc (.cells #[.int .u8 u, .int .u8 v] 5))) : Step Tryd.prog o a w K Q := by
  constructor
  have hr : (execOp a.eval o).run Tryd.prog w = .ok (.value (.slice (some ⟨w.heap.size, 0, none⟩) 2 2)) (w.alloc (.cells #[.int .u8 u, .int .u8 v] 5)) := by
    simp [execOp, ho, hx, hy, run_slice8 w, Result.andThen]
  unfold Oper.wp
  rw [hr]
  exact hK

set_option maxHeartbeats 2000000 in
set_option maxRecDepth 20000 in
theorem options_law (l : List (Int × ByteArray)) (v : Value) (s : ByteArray) (w : World) (hg : Handle w) (h : Row w v l) (hl : l.length ≤ 9223372036854775807) (hs : s.size ≤ 140737488355328) : Calls Tryd.prog 7 #[v, .string s] w fun e w' => e = .returned (.bool true) ∧ Below w.heap.size w w' := by
  have H := Lib.hid h
  obtain ⟨A, c, rfl, hc⟩ := h
  obtain ⟨n, hN⟩ : ∃ n, n = l.length := ⟨_, rfl⟩
  rw [← hN] at H hl ⊢
  have n1 := Lib.hid hN.symm
  clear hc hN
  by_cases h1 : 30 < n
  · go_enter Tryd.func7, Tryd.ntmps7
    go_wp2_with fail
    go_ret
    exact ⟨rfl, Below.refl _ _⟩
  by_cases h2 : 300 < s.size
  · go_enter Tryd.func7, Tryd.ntmps7
    go_wp2_with fail
    go_ret
    exact ⟨rfl, Below.refl _ _⟩
  go_enter Tryd.func7, Tryd.ntmps7
  go_wp2_with fail
  go_loopw [5, 6] (fun t o wr => ∃ k : Nat, t = .string (enc (l.take k)) ∧ o = .int .i64 (k : Int) ∧ k ≤ n ∧ Hid (∀ a d, (a, d) ∈ l.take k → Fine a d) ∧ Below w.heap.size w wr) (fun _ o _ => n - (intOf o).toNat)
  case atStart => exact ⟨0, rfl, rfl, Nat.zero_le _, Lib.hid (by simp), Below.refl _ _⟩
  case round =>
    obtain ⟨k, rfl, rfl, hk, hf, hb⟩ := hrel
    by_cases hk2 : k = n
    · have hlt : decide (k < n) = false := by simp [hk2]
      have full : l.take k = l := List.take_of_length_le (by have := n1.out; omega)
      rw [full] at hf ⊢
      have sz := enc_size l hf.out
      have q := n1.out
      rw [q] at sz
      have sz1 : (enc l).size ≤ 7650 := by omega
      have sz2 : (enc l ++ ⟨#[0]⟩ ++ s).size ≤ 10000 := by
        rw [ByteArray.size_append, ByteArray.size_append]
        show (enc l).size + 1 + s.size ≤ 10000
        omega
      have H0 := Lib.hid (H.out.below hb)
      have P0 := hg.keep hb
      have hbs := hb.size
      have O1 := Lib.hid (opts_all l hf.out)
      have O2 : Hid (optsS (enc l ++ ⟨#[0]⟩ ++ s) = some l) := Lib.hid (by rw [ByteArray.append_assoc]; exact opts_end l s hf.out)
      have HB := Lib.hid hb
      clear full hf hk sz q H hb hg hk2
      go_wp2_with fail
      refine (options_any (enc l) wr P0 (by omega)).mono ?_
      rintro e w1 ⟨h1, hb1⟩
      rcases h1 with ⟨xs, v1, hx, rfl, ho1⟩ | ⟨h, _⟩
      case inr => rw [O1.out] at h; cases h
      rw [O1.out] at hx
      obtain rfl := Option.some.inj hx
      have P1 := P0.keep hb1
      have H1 := Lib.hid (H0.out.below hb1)
      have R1 := Lib.hid (Row.of_owns ho1)
      have HB1 := Lib.hid (HB.out.trans (hb1.mono hbs))
      have hbs1 := HB1.out.size
      clear hb1 ho1 H0 HB P0
      go_wp2_with fail
      refine (options_any _ w1 P1 ?_).mono ?_
      · exact sz2
      rintro e w2 ⟨h2, hb2⟩
      rcases h2 with ⟨xs, v2, hx, rfl, ho2⟩ | ⟨h, _⟩
      case inr => rw [O2.out] at h; cases h
      rw [O2.out] at hx
      obtain rfl := Option.some.inj hx
      have P2 := P1.keep hb2
      have H2 := Lib.hid (H1.out.below hb2)
      have R12 := Lib.hid (R1.out.below hb2)
      have R2 := Lib.hid (Row.of_owns ho2)
      have HB2 := Lib.hid (HB1.out.trans (hb2.mono hbs1))
      have hbs2 := HB2.out.size
      clear hb2 ho2 H1 HB1 P1 R1
      go_wp2_with fail
      refine (awake_any w2 P2).mono ?_
      rintro e w3 ⟨rfl, hb3⟩
      have H3 := Lib.hid (H2.out.below hb3)
      have R13 := Lib.hid (R12.out.below hb3)
      have R23 := Lib.hid (R2.out.below hb3)
      have HB3 := Lib.hid (HB2.out.trans (hb3.mono hbs2))
      have hbs3 := HB3.out.size
      clear hb3 H2 R12 R2 HB2
      go_wp2_with fail
      refine (exts_any _ _ l l w3 R13.out H3.out (by have := n1.out; omega)).mono ?_
      rintro e w4 ⟨h4, hb4⟩
      obtain rfl : e = .returned (.bool true) := h4.trans (by simp)
      have H4 := Lib.hid (H3.out.below hb4)
      have R24 := Lib.hid (R23.out.below hb4)
      have HB4 := Lib.hid (HB3.out.trans (hb4.mono hbs3))
      have hbs4 := HB4.out.size
      clear hb4 H3 R13 R23 HB3 h4
      go_wp2_with fail
      refine (exts_any _ _ l l w4 R24.out H4.out (by have := n1.out; omega)).mono ?_
      rintro e w5 ⟨h5, hb5⟩
      obtain rfl : e = .returned (.bool true) := h5.trans (by simp)
      have HB5 := Lib.hid (HB4.out.trans (hb5.mono hbs4))
      clear hb5 h5
      go_wp2_with fail
      go_ret
      exact ⟨rfl, HB5.out⟩
    · have hlt : decide (k < n) = true := by rw [decide_eq_true_eq]; omega
      have hkn : k < n := by omega
      obtain ⟨a, d, e1⟩ : ∃ a d, l[k]? = some (a, d) := ⟨_, _, List.getElem?_eq_getElem (by have := n1.out; omega)⟩
      obtain ⟨A1, c1, q1, hc⟩ := H.out.below hb
      injection q1 with q1 q2 q3
      subst q1 q3
      obtain ⟨p, rfl, hp, c1, c2⟩ := hc k a d e1
      clear hc q2
      have c3 : wr.cell? ⟨(p.add (k * 2)).block, (p.add (k * 2)).off + 1, none⟩ = some (.string d) := by
        rw [← c2, ← Go.Deep.add_add]
        congr 1
      have hbs := hb.size
      have HB := Lib.hid hb
      have ts : l.take (k + 1) = l.take k ++ [(a, d)] := by rw [List.take_add_one, e1]; rfl
      have zs : (enc (l.take k)).size ≤ 7650 := by
        have q := enc_size _ hf.out
        have q2 : (l.take k).length ≤ k := by simp; omega
        omega
      by_cases f1 : a < 1
      · go_wp2_with fail
        go_ret
        exact ⟨rfl, hb⟩
      by_cases f2 : 255 < a
      · go_wp2_with fail
        go_ret
        exact ⟨rfl, hb⟩
      by_cases f3 : 253 < d.size
      · go_wp2_with fail
        go_ret
        exact ⟨rfl, hb⟩
      by_cases f4 : a = 1
      · subst f4
        by_cases f5 : d = ⟨#[]⟩
        · subst f5
          have FN : Hid (∀ a d, (a, d) ∈ l.take (k + 1) → Fine a d) := Lib.hid fun a d hm => by
            rw [ts, List.mem_append] at hm
            rcases hm with hm | hm
            · exact hf.out a d hm
            · simp at hm
              obtain ⟨rfl, rfl⟩ := hm
              exact ⟨by decide, by decide, by decide, fun _ => rfl⟩
          have NX : Hid (enc (l.take k) ++ ⟨#[1]⟩ = enc (l.take (k + 1))) := Lib.hid (by rw [ts, enc_append]; rfl)
          clear ts hf H e1 hb
          go_wp2_with fail
          rw [NX.out]
          go_roundw
          case rel => exact ⟨k + 1, rfl, by go_num, by omega, FN, HB.out⟩
          case measure => simp [intOf]; omega
        · have f6 : d.toList.isEmpty = false := by
            rw [ByteArray.toList_eq]
            cases hd : d with
            | mk x => 
              cases hx : x.toList with
              | nil => exact absurd (by rw [hd]; congr 1; exact Array.toList_inj.1 (by rw [hx])) f5
              | cons y ys => rfl
          go_wp2_with fail
          go_ret
          exact ⟨rfl, hb⟩
      · have f4b : (a == 1) = false := by rw [beq_eq_false_iff_ne]; exact f4
        have FN : Hid (∀ a d, (a, d) ∈ l.take (k + 1) → Fine a d) := Lib.hid fun a' d' hm => by
          rw [ts, List.mem_append] at hm
          rcases hm with hm | hm
          · exact hf.out a' d' hm
          · simp at hm
            obtain ⟨rfl, rfl⟩ := hm
            exact ⟨by omega, by omega, by omega, fun e => absurd e f4⟩
        have NX : Hid (enc (l.take k) ++ (strOfNums [a, (d.size : Int) + 2] ++ d) = enc (l.take (k + 1))) := Lib.hid (by rw [ts, enc_append, enc1, if_neg f4])
        have z2 : (strOfNums [a, (d.size : Int) + 2]).size = 2 := rfl
        have z3 : (enc (l.take k)).size + (strOfNums [a, (d.size : Int) + 2]).size ≤ 9223372036854775807 := by omega
        have z4 : (enc (l.take k) ++ strOfNums [a, (d.size : Int) + 2]).size + d.size ≤ 9223372036854775807 := by rw [ByteArray.size_append]; omega
        clear ts hf H e1 hb z2
        go_wp2_with fail
        refine wp_region_free [0, 1, 2, 3, 4, 5, 6, 7, 8, 9, 10, 11, 12, 13, 14, 15, 16, 17, 18, 19, 20, 21, 22] 23 [24] (fun w1 w2 => Below w1.heap.size w1 w2) (fun k' w' v => match k' with
          | 0 => v = .string (enc (l.take k))
          | 1 => v = .slice (some p) n c
          | 2 => v = .int .i64 (k : Int)
          | 3 => v = .pointer (some (p.add (k * 2)))
          | 4 => v = .pointer (some (p.add (k * 2)))
          | 5 => v = .int .i64 a
          | 6 => v = .int .u8 a
          | 7 => v = .slice (some p) n c
          | 8 => v = .int .i64 (k : Int)
          | 9 => v = .pointer (some (p.add (k * 2)))
          | 10 => v = .pointer (some (p.add (k * 2 + 1)))
          | 11 => v = .string d
          | 12 => v = .int .i64 (d.size : Int)
          | 13 => v = .int .i64 ((d.size : Int) + 2)
          | 14 => v = .int .u8 ((d.size : Int) + 2)
          | 15 => Owns w' 0 v 2 [a, (d.size : Int) + 2]
          | 16 => v = .string (strOfNums [a, (d.size : Int) + 2])
          | 17 => v = .string ((enc (l.take k)) ++ strOfNums [a, (d.size : Int) + 2])
          | 18 => v = .slice (some p) n c
          | 19 => v = .int .i64 (k : Int)
          | 20 => v = .pointer (some (p.add (k * 2)))
          | 21 => v = .pointer (some (p.add (k * 2 + 1)))
          | _ => v = .string d) (by kernel_rfl) (by kernel_rfl) (Below.refl _ _) (fun _ _ _ h k => h.trans (k.mono h.size)) (fun k w1 w2 v h => match k with
          | 0 => fun x => x
          | 1 => fun x => x
          | 2 => fun x => x
          | 3 => fun x => x
          | 4 => fun x => x
          | 5 => fun x => x
          | 6 => fun x => x
          | 7 => fun x => x
          | 8 => fun x => x
          | 9 => fun x => x
          | 10 => fun x => x
          | 11 => fun x => x
          | 12 => fun x => x
          | 13 => fun x => x
          | 14 => fun x => x
          | 15 => fun o => Owns.below o h (Nat.le_refl _)
          | 16 => fun x => x
          | 17 => fun x => x
          | 18 => fun x => x
          | 19 => fun x => x
          | 20 => fun x => x
          | 21 => fun x => x
          | _ + 22 => fun x => x) (fun _ _ _ _ _ h => h) ?_ _ (by rfl) ?_
        · refine (obs_cons (by rfl) (fun vals w' hgr hdep K hK => ?_) (obs_cons (by rfl) (fun vals w' hgr hdep K hK => ?_) (obs_cons (by rfl) (fun vals w' hgr hdep K hK => ?_) (obs_cons (by rfl) (fun vals w' hgr hdep K hK => ?_) (obs_cons (by rfl) (fun vals w' hgr hdep K hK => ?_) (obs_cons (by rfl) (fun vals w' hgr hdep K hK => ?_) (obs_cons (by rfl) (fun vals w' hgr hdep K hK => ?_) (obs_cons (by rfl) (fun vals w' hgr hdep K hK => ?_) (obs_cons (by rfl) (fun vals w' hgr hdep K hK => ?_) (obs_cons (by rfl) (fun vals w' hgr hdep K hK => ?_) (obs_cons (by rfl) (fun vals w' hgr hdep K hK => ?_) (obs_cons (by rfl) (fun vals w' hgr hdep K hK => ?_) (obs_cons (by rfl) (fun vals w' hgr hdep K hK => ?_) (obs_cons (by rfl) (fun vals w' hgr hdep K hK => ?_) (obs_cons (by rfl) (fun vals w' hgr hdep K hK => ?_) (obs_cons (by rfl) (fun vals w' hgr hdep K hK => ?_) (obs_cons (by rfl) (fun vals w' hgr hdep K hK => ?_) (obs_cons (by rfl) (fun vals w' hgr hdep K hK => ?_) (obs_cons (by rfl) (fun vals w' hgr hdep K hK => ?_) (obs_cons (by rfl) (fun vals w' hgr hdep K hK => ?_) (obs_cons (by rfl) (fun vals w' hgr hdep K hK => ?_) (obs_cons (by rfl) (fun vals w' hgr hdep K hK => ?_) (obs_cons (by rfl) (fun vals w' hgr hdep K hK => ?_) obs_nil)))))))))))))))))))))))
          · exact wp_move (.tmp 5) rfl _ (at_out _ (by kernel_rfl) rfl) (hK _ _ (Below.refl _ _) rfl)
          · exact wp_move (.tmp 0) rfl _ (at_out _ (by kernel_rfl) rfl) (hK _ _ (Below.refl _ _) rfl)
          · exact wp_move (.tmp 6) rfl _ (at_out _ (by kernel_rfl) rfl) (hK _ _ (Below.refl _ _) rfl)
          · exact st_at (.tmp 73) (.tmp 74) rfl p n c k ((at_dst 1 (by kernel_rfl)).trans (hdep 1 (by simp) (by kernel_rfl))) ((at_dst 2 (by kernel_rfl)).trans (hdep 2 (by simp) (by kernel_rfl))) hkn (hK _ _ (Below.refl _ _) rfl)
          · exact wp_field (.tmp 75) rfl _ _ ((at_dst 3 (by kernel_rfl)).trans (hdep 3 (by simp) (by kernel_rfl))) (field0 _ _ _) (hK _ _ (Below.refl _ _) rfl)
          · exact wp_load1 (.tmp 76) rfl (p.add (k * 2)) ((at_dst 4 (by kernel_rfl)).trans (hdep 4 (by simp) (by kernel_rfl))) Tryd.underlying3 rfl _ ((hgr.cell (by rw [add_block]; exact hp)).trans c1) (hK _ _ (Below.refl _ _) rfl)
          · exact wp_conv (.tmp 77) rfl _ _ ((at_dst 5 (by kernel_rfl)).trans (hdep 5 (by simp) (by kernel_rfl))) (conv_u8 a w' (by omega) (by omega)) (hK _ _ (Below.refl _ _) rfl)
          · exact wp_move (.tmp 0) rfl _ (at_out _ (by kernel_rfl) rfl) (hK _ _ (Below.refl _ _) rfl)
          · exact wp_move (.tmp 6) rfl _ (at_out _ (by kernel_rfl) rfl) (hK _ _ (Below.refl _ _) rfl)
          · exact st_at (.tmp 79) (.tmp 80) rfl p n c k ((at_dst 7 (by kernel_rfl)).trans (hdep 7 (by simp) (by kernel_rfl))) ((at_dst 8 (by kernel_rfl)).trans (hdep 8 (by simp) (by kernel_rfl))) hkn (hK _ _ (Below.refl _ _) rfl)
          · exact wp_field (.tmp 81) rfl _ _ ((at_dst 9 (by kernel_rfl)).trans (hdep 9 (by simp) (by kernel_rfl))) (field1 _ _ _) (hK _ _ (Below.refl _ _) rfl)
          · exact wp_load1 (.tmp 82) rfl (p.add (k * 2 + 1)) ((at_dst 10 (by kernel_rfl)).trans (hdep 10 (by simp) (by kernel_rfl))) Tryd.underlying9 rfl _ ((hgr.cell (by rw [add_block]; exact hp)).trans c2) (hK _ _ (Below.refl _ _) rfl)
          · exact st_len (.tmp 83) rfl _ ((at_dst 11 (by kernel_rfl)).trans (hdep 11 (by simp) (by kernel_rfl))) (hK _ _ (Below.refl _ _) rfl)
          · exact wp_bin (.tmp 84) (.const (.int .i64 2)) rfl _ _ _ ((at_dst 12 (by kernel_rfl)).trans (hdep 12 (by simp) (by kernel_rfl))) rfl (run_add2 _ _ _ w' (IntWalk.i64_in _ (by omega))) (hK _ _ (Below.refl _ _) rfl)
          · exact wp_conv (.tmp 85) rfl _ _ ((at_dst 13 (by kernel_rfl)).trans (hdep 13 (by simp) (by kernel_rfl))) (conv_u8 _ w' (by omega) (by omega)) (hK _ _ (Below.refl _ _) rfl)
          · exact st_slice8 (.tmp 78) (.tmp 86) rfl _ _ ((at_dst 6 (by kernel_rfl)).trans (hdep 6 (by simp) (by kernel_rfl))) ((at_dst 14 (by kernel_rfl)).trans (hdep 14 (by simp) (by kernel_rfl))) (hK _ _ ((Below.refl _ _).alloc (Nat.le_refl _) _) (Owns.lits w' 0 (Nat.zero_le _) [a, (d.size : Int) + 2] 2 _ _ rfl rfl rfl (by decide) (fun y hy => by simp at hy; omega)))
          · obtain ⟨A8, c8, q8, hh8⟩ := Owns.slice (hdep 15 (by simp) (by kernel_rfl))
            exact wp_conv (.tmp 87) rfl _ _ ((at_dst 15 (by kernel_rfl)).trans q8) (run_string_bytes hh8) (hK _ _ (Below.refl _ _) rfl)
          · exact wp_bin (.tmp 72) (.tmp 88) rfl _ _ _ ((at_dst 0 (by kernel_rfl)).trans (hdep 0 (by simp) (by kernel_rfl))) ((at_dst 16 (by kernel_rfl)).trans (hdep 16 (by simp) (by kernel_rfl))) (run_cat _ _ _ _ w' z3) (hK _ _ (Below.refl _ _) rfl)
          · exact wp_move (.tmp 0) rfl _ (at_out _ (by kernel_rfl) rfl) (hK _ _ (Below.refl _ _) rfl)
          · exact wp_move (.tmp 6) rfl _ (at_out _ (by kernel_rfl) rfl) (hK _ _ (Below.refl _ _) rfl)
          · exact st_at (.tmp 90) (.tmp 91) rfl p n c k ((at_dst 18 (by kernel_rfl)).trans (hdep 18 (by simp) (by kernel_rfl))) ((at_dst 19 (by kernel_rfl)).trans (hdep 19 (by simp) (by kernel_rfl))) hkn (hK _ _ (Below.refl _ _) rfl)
          · exact wp_field (.tmp 92) rfl _ _ ((at_dst 20 (by kernel_rfl)).trans (hdep 20 (by simp) (by kernel_rfl))) (field1 _ _ _) (hK _ _ (Below.refl _ _) rfl)
          · exact wp_load1 (.tmp 93) rfl (p.add (k * 2 + 1)) ((at_dst 21 (by kernel_rfl)).trans (hdep 21 (by simp) (by kernel_rfl))) Tryd.underlying9 rfl _ ((hgr.cell (by rw [add_block]; exact hp)).trans c2) (hK _ _ (Below.refl _ _) rfl)
        · intro vals w' hgr hG
          refine wp_bin (.tmp 89) (.tmp 94) rfl _ _ _ ((at_dst 17 (by kernel_rfl)).trans (hG 17 (by simp))) ((at_dst 22 (by kernel_rfl)).trans (hG 22 (by simp))) (run_cat _ _ _ _ w' z4) ?_
          refine wpAnyH_next 24 _ rfl rfl (by kernel_rfl) (st_assign (.tmp 95) _ rfl (put_tmps_eq (fill_size _ _ _) (by kernel_rfl)) ⟨trivial, wpAnyH_done (by kernel_rfl) ?_ _⟩)
          have BW := Lib.hid (HB.out.trans ((below_drewN (Below.refl _ _) 1 |>.trans hgr : Below wr.heap.size wr w').mono hbs))
          clear hG
          simp only [fill, dstAt, List.getElem?_cons_zero, List.getElem?_cons_succ, Option.bind_some, Act.put, List.setIfInBounds_toArray, List.set_cons_zero, List.set_cons_succ]
          rw [ByteArray.append_assoc, NX.out]
          go_wp2_with fail
          go_roundw
          case rel => exact ⟨k + 1, rfl, by go_num, by omega, FN, BW.out⟩
          case measure => simp [intOf]; omega
end Go.Proofs.YtjhfginopbjldaaDoor.LawOptions
