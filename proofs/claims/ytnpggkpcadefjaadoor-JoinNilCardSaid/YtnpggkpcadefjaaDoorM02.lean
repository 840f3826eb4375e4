/- The code's small functions of split: clones, header, fits. -/
import Derived.Test.YtnpggkpcadefjaaDoorM23
import Derived.Test.YtnpggkpcadefjaaDoorCheck
import Derived.Test.YtnpggkpcadefjaaDoorShelf
import Derived.Test.YtnpggkpcadefjaaDoorM01
import Derived.Test.YtnpggkpcadefjaaDoorSplP
import Derived.Test.YtnpggkpcadefjaaDoorStore
import Derived.Test.YtnpggkpcadefjaaDoorLoads
import Derived.Test.YtnpggkpcadefjaaDoorFreeJ
import Derived.BigQuiet
import Derived.Lib.QuietBelow
set_option linter.unusedVariables false
namespace Go.Proofs.YtnpggkpcadefjaaDoor.Spl1
open Go.RowKit Go.Proofs.YtnpggkpcadefjaaDoor.Sums Go.Proofs.YtnpggkpcadefjaaDoor.Mem Go.Proofs.YtnpggkpcadefjaaDoor.Blk Go.Proofs.YtnpggkpcadefjaaDoor.Pkt Go.Proofs.YtnpggkpcadefjaaDoor.Check

theorem clone_nil (c : Nat) (w : World) : Calls Tryd.prog 45 #[.slice none 0 c] w fun e w' => e = .returned (.slice none 0 0) ∧ w = w' := by
  have qT : ∀ (w : World) (a : Option Addr) (n c n' c' : Nat), (binOp .eql 30 (.slice a n c) (.slice none n' c')).run Tryd.prog w = .ok (.bool a.isNone) w := fun w a n c n' c' => Lib.run_eql_slice_nil w _ _ a n c n' c' Tryd.underlying30
  go_enter Tryd.func45, Tryd.ntmps45
  go_wp2_with fail
  go_ret
  exact ⟨rfl, rfl⟩
theorem clone_all (A : Option Addr) (n c : Nat) (l : List Int) (w : World) (B : Nat) (h : Holds w B A n c l) (hB : B ≤ w.heap.size) (hn : n ≤ 1048576) :
    Calls Tryd.prog 45 #[.slice A n c] w fun e w' => ∃ A' c', e = .returned (.slice A' n c') ∧ Owns w' w.heap.size (.slice A' n c') n l ∧ Below w.heap.size w w' := by
  cases A with
  | some ad => exact Cut.clone_any ad n c l w B h hB hn
  | none =>
    have n0 : n = 0 := by
      rcases Nat.eq_zero_or_pos n with q | q
      · exact q
      · obtain ⟨b, o, e, _⟩ := h.2.2.2.2 q
        cases e
    subst n0
    have l0 : l = [] := List.length_eq_zero_iff.1 h.1
    subst l0
    exact (clone_nil c w).mono fun e w' ⟨h1, h2⟩ => by
      subst h2
      exact ⟨none, 0, h1, Owns.nil _ _, Below.refl _ _⟩
def maxT : Nat := 281474976710656
theorem clone_text (s : ByteArray) (w : World) (hs : s.size ≤ maxT) : Calls Tryd.prog 44 #[.string s] w fun e w' => e = .returned (.string s) ∧ Below w.heap.size w w' := by
  have C := Lib.hid (Tryd.stringslite_Clone s w hs)
  go_enter Tryd.func44, Tryd.ntmps44
  go_wp2_with fail
  refine C.out.mono ?_
  rintro e w' ⟨rfl, hb⟩
  go_wp2_with fail
  go_ret
  exact ⟨rfl, hb⟩
theorem ent_clone : Enters Tryd.prog 44 := enters_of Tryd.func44 (by kernel_rfl) rfl
theorem header_any (p : Pkt) (D : Value) (w : World) (hz : p.opt.size ≤ 1048576) : Calls Tryd.prog 55 #[val p D] w fun e w' => e = .returned (.int .i64 (20 + (p.opt.size : Int))) ∧ Below w.heap.size w w' := by
  have e0 : IntKind.i64.wrap (20 + (p.opt.size : Int)) = 20 + (p.opt.size : Int) := IntWalk.i64_in _ (by omega)
  have B0 := Lib.hid ((Below.refl w.heap.size w).alloc (Nat.le_refl _) (.cells #[.int .i64 p.tos, .int .i64 p.id, .int .i64 p.ttl, .int .i64 p.proto, .bool p.df, .bool p.mf, .int .i64 p.off, .string p.src, .string p.dst, .string p.opt, D] 32))
  unfold val
  go_enter Tryd.func55, Tryd.ntmps55
  go_wp2_with fail
  go_ret
  exact ⟨rfl, B0.out⟩
end Go.Proofs.YtnpggkpcadefjaaDoor.Spl1

/- The code's fits and Later. -/
set_option linter.unusedVariables false
set_option maxRecDepth 100000
namespace Go.Proofs.YtnpggkpcadefjaaDoor.Spl3
open Go.RowKit Go.Lib Go.Sort Go.Proofs.YtnpggkpcadefjaaDoor.Sums Go.Proofs.YtnpggkpcadefjaaDoor.Mem Go.Proofs.YtnpggkpcadefjaaDoor.Blk Go.Proofs.YtnpggkpcadefjaaDoor.Pkt Go.Proofs.YtnpggkpcadefjaaDoor.Check Go.Proofs.YtnpggkpcadefjaaDoor.SplL Go.Proofs.YtnpggkpcadefjaaDoor.SplP Go.Proofs.YtnpggkpcadefjaaDoor.Opts Go.Proofs.YtnpggkpcadefjaaDoor.Errno Go.Proofs.YtnpggkpcadefjaaDoor.Spl1

theorem fits_any (p : Pkt) (A : Option Addr) (n c : Nat) (m : Int) (w : World) (hz : p.opt.size ≤ 1048576) (hn : n ≤ 1048576) (b : Bool) (hb : decide (20 + (p.opt.size : Int) + (n : Int) ≤ m) = b) : Calls Tryd.prog 37 #[val p (.slice A n c), .int .i64 m] w fun e w' => e = .returned (.bool b) ∧ Below w.heap.size w w' := by
  have B0 := Lib.hid ((Below.refl w.heap.size w).alloc (Nat.le_refl _) (.cells #[.int .i64 p.tos, .int .i64 p.id, .int .i64 p.ttl, .int .i64 p.proto, .bool p.df, .bool p.mf, .int .i64 p.off, .string p.src, .string p.dst, .string p.opt, .slice A n c] 32))
  have K0 := Blk.new w 32 #[.int .i64 p.tos, .int .i64 p.id, .int .i64 p.ttl, .int .i64 p.proto, .bool p.df, .bool p.mf, .int .i64 p.off, .string p.src, .string p.dst, .string p.opt, .slice A n c]
  have K0' := Lib.hid K0
  have LN := fun d os => Calls.regrown_of (header_any p (.slice A n c) (grow (redrawn (w.alloc (.cells #[.int .i64 p.tos, .int .i64 p.id, .int .i64 p.ttl, .int .i64 p.proto, .bool p.df, .bool p.mf, .int .i64 p.off, .string p.src, .string p.dst, .string p.opt, .slice A n c] 32)) d) os) hz)
  unfold val at LN
  unfold val
  have E1 : IntKind.i64.wrap (20 + (p.opt.size : Int) + (n : Int)) = 20 + (p.opt.size : Int) + (n : Int) := IntWalk.i64_in _ (by omega)
  go_enter Tryd.func37, Tryd.ntmps37
  go_wp2_with fail
  generalize w.alloc (.cells #[.int .i64 p.tos, .int .i64 p.id, .int .i64 p.ttl, .int .i64 p.proto, .bool p.df, .bool p.mf, .int .i64 p.off, .string p.src, .string p.dst, .string p.opt, .slice A n c] 32) = w1 at *
  have c0 := fun d os => cell_regrown (K0'.out.cell 0) d os
  have c1 := fun d os => cell_regrown (K0'.out.cell 1) d os
  have c2 := fun d os => cell_regrown (K0'.out.cell 2) d os
  have c3 := fun d os => cell_regrown (K0'.out.cell 3) d os
  have c4 := fun d os => cell_regrown (K0'.out.cell 4) d os
  have c5 := fun d os => cell_regrown (K0'.out.cell 5) d os
  have c6 := fun d os => cell_regrown (K0'.out.cell 6) d os
  have c7 := fun d os => cell_regrown (K0'.out.cell 7) d os
  have c8 := fun d os => cell_regrown (K0'.out.cell 8) d os
  have c9 := fun d os => cell_regrown (K0'.out.cell 9) d os
  have c10 := fun d os => cell_regrown (K0'.out.cell 10) d os
  clear K0
  refine wp_region_quiet_below (by kernel_rfl) (by kernel_rfl) ?_
  repeat (quiet_step (with_reducible exact LN _ _))
  refine wpQuiet_nil ?_
  intro _ hw'
  obtain ⟨⟨dq, osq⟩, hw''⟩ := hw'
  subst hw''
  clear c0 c1 c2 c3 c4 c5 c6 c7 c8 c9 c10 LN
  go_wp2_with fail
  go_ret
  exact ⟨rfl, B0.out.trans ((below_regrown w1 dq osq).mono B0.out.size)⟩

theorem cells_at : ∀ (xs : List (Int × ByteArray)) (i : Nat) (x : Int × ByteArray), xs[i]? = some x → (cells xs)[i * 2]? = some (.int .i64 x.1) ∧ (cells xs)[i * 2 + 1]? = some (.string x.2) := by
  intro xs
  induction xs with
  | nil => intro i x h; simp at h
  | cons y ys ih =>
    intro i x h
    cases i with
    | zero =>
      simp at h
      subst h
      exact ⟨rfl, rfl⟩
    | succ i =>
      rw [List.getElem?_cons_succ] at h
      have := ih i x h
      rw [Nat.add_mul]
      exact this
def laterV (s : ByteArray) : Value := match laterL s with
  | none => .tuple #[.string ⟨#[]⟩, .int .i64 4]
  | some t => .tuple #[.string (strOfNums t), .int .i64 0]
theorem enc_take {xs : List (Int × ByteArray)} {i : Nat} {x : Int × ByteArray} (h : xs[i]? = some x) : encL (xs.take (i + 1)) = encL (xs.take i) ++ (if 128 ≤ x.1 then x.1 :: ((x.2.size : Int) + 2) :: nums x.2 else []) := by
  rw [List.take_add_one, h]
  exact enc_snoc _ _ _
theorem enc_le (xs : List (Int × ByteArray)) (i : Nat) : (encL (xs.take i)).length ≤ (encL xs).length := by
  have : encL xs = encL (xs.take i) ++ encL (xs.drop i) := by
    unfold encL
    rw [← List.flatMap_append, List.take_append_drop]
  rw [this, List.length_append]
  omega
end Go.Proofs.YtnpggkpcadefjaaDoor.Spl3

/- The code's Later. -/
set_option linter.unusedVariables false
set_option maxRecDepth 100000
namespace Go.Proofs.YtnpggkpcadefjaaDoor.Spl4
open Go.RowKit Go.Proofs.YtnpggkpcadefjaaDoor.Sums Go.Proofs.YtnpggkpcadefjaaDoor.Mem Go.Proofs.YtnpggkpcadefjaaDoor.Blk Go.Proofs.YtnpggkpcadefjaaDoor.Pkt Go.Proofs.YtnpggkpcadefjaaDoor.Check Go.Proofs.YtnpggkpcadefjaaDoor.SplL Go.Proofs.YtnpggkpcadefjaaDoor.SplP Go.Proofs.YtnpggkpcadefjaaDoor.Opts Go.Proofs.YtnpggkpcadefjaaDoor.Errno Go.Proofs.YtnpggkpcadefjaaDoor.Spl1 Go.Proofs.YtnpggkpcadefjaaDoor.Spl3

/-- Options that lie in memory. -/
def OptsAt (W : World) (A : Option Addr) (xs : List (Int × ByteArray)) : Prop := ∀ i x, xs[i]? = some x → ∃ g, A = some ⟨g, 0, none⟩ ∧ W.cell? ⟨g, i * 2, none⟩ = some (.int .i64 x.1) ∧ W.cell? ⟨g, i * 2 + 1, none⟩ = some (.string x.2)
theorem opts_own {w : World} {base : Nat} {v : Value} {xs : List (Int × ByteArray)} (h : w.ownsRow base 97 2 v xs.length (cells xs)) : ∃ A c, v = .slice A xs.length c ∧ OptsAt w A xs := by
  rcases h.2 with ⟨rfl, h0⟩ | ⟨g, cap, cur, rfl, _⟩
  · have : xs = [] := List.length_eq_zero_iff.1 h0
    subst this
    exact ⟨none, 0, rfl, fun i x hx => by simp at hx⟩
  · refine ⟨_, cap, rfl, fun i x hx => ⟨g, rfl, ?_, ?_⟩⟩
    · have := h.cells (g := g) rfl _ _ (cells_at xs i x hx).1
      rwa [add_plain, Nat.zero_add] at this
    · have := h.cells (g := g) rfl _ _ (cells_at xs i x hx).2
      rwa [add_plain, Nat.zero_add] at this
theorem OptsAt.below {w w' : World} {A : Option Addr} {xs : List (Int × ByteArray)} (h : OptsAt w A xs) (hb : Below w.heap.size w w') : OptsAt w' A xs := fun i x hx => by
  obtain ⟨g, e, h1, h2⟩ := h i x hx
  exact ⟨g, e, keep_cell h1 hb, keep_cell h2 hb⟩
theorem pad_more (l : List Int) (j : Nat) : l ++ List.replicate (j + 1) 0 = (l ++ List.replicate j 0) ++ [(0 : Int)] := by
  rw [List.append_assoc, ← List.replicate_succ']
set_option maxHeartbeats 1000000 in
theorem later_any (s : ByteArray) (w : World) (hg : Handle w) (hs : s.size ≤ 10000) : Calls Tryd.prog 39 #[.string s] w fun e w' => e = .returned (laterV s) ∧ Below w.heap.size w w' := by
  have OC := Lib.hid (options_any s w hg hs)
  have E : Hid (laterV s = match (optsS s).map fun xs => padL (encL xs) with | none => .tuple #[.string ⟨#[]⟩, .int .i64 4] | some t => .tuple #[.string (strOfNums t), .int .i64 0]) := Lib.hid rfl
  obtain ⟨u, hu⟩ : ∃ u, laterV s = u := ⟨_, rfl⟩
  rw [hu] at E ⊢
  clear hu
  go_enter Tryd.func39, Tryd.ntmps39
  go_wp2_with fail
  refine OC.out.mono ?_
  rintro e w1 ⟨⟨xs, v, ho, rfl, hown⟩ | ⟨ho, rfl⟩, hb⟩
  · have B1 := Lib.hid hb
    obtain ⟨sm, bd⟩ := opts_small s.size s xs (Nat.le_refl _) ho
    have BD := Lib.hid bd
    have E1 : Hid (u = .tuple #[.string (strOfNums (padL (encL xs))), .int .i64 0]) := Lib.hid (by rw [E.out, ho]; rfl)
    obtain ⟨A, c, rfl, hat⟩ := opts_own hown
    have AT := Lib.hid hat
    have LE : Hid (∀ i, (encL (xs.take i)).length ≤ 10000) := Lib.hid fun i => by have := enc_le xs i; omega
    obtain ⟨k, hk⟩ : ∃ k, xs.length = k := ⟨_, rfl⟩
    have HK := Lib.hid hk
    rw [hk]
    have KB : k ≤ 9223372036854775807 := by
      rcases hown.2 with ⟨_, h0⟩ | ⟨g, cap, cur, hv, hlt, hh, hnc, hcap, _⟩
      · omega
      · unfold maxLen at hcap
        omega
    clear hown hat bd ho hb OC E hk sm
    go_wp2_with fail
    go_loopw [6, 19] (fun ov iv wr => ∃ i q : Nat, iv = .int .i64 (i : Int) ∧ i ≤ k ∧ q ≤ 10000 ∧ Hid (Owns wr w1.heap.size ov q (encL (xs.take i))) ∧ Hid (Below w1.heap.size w1 wr)) (fun _ iv _ => k - (intOf iv).toNat)
    case atStart => exact ⟨0, 0, rfl, by omega, by omega, Lib.hid (Owns.nil w1 w1.heap.size), Lib.hid (Below.refl _ _)⟩
    case round =>
      obtain ⟨i, q, rfl, hi, hq, HO, HX⟩ := hrel
      have HBS := HX.out.size
      obtain ⟨Av, cv, rfl, _⟩ := HO.out.slice
      by_cases hlt : i < k
      · obtain ⟨⟨z, d⟩, hz⟩ : ∃ x, xs[i]? = some x := ⟨_, List.getElem?_eq_getElem (by rw [HK.out]; exact hlt)⟩
        obtain ⟨g, rfl, a1, a2⟩ := (AT.out.below HX.out) i _ hz
        obtain ⟨z0, z1, d1⟩ := BD.out _ (List.mem_of_getElem? hz)
        have NX := Lib.hid (enc_take hz)
        have QL : Hid (q = (encL (xs.take i)).length) := Lib.hid HO.out.1.symm
        have QN : Hid ((encL (xs.take (i + 1))).length ≤ 10000) := Lib.hid (LE.out (i + 1))
        have f2 : IntKind.i64.wrap ((i : Int) + 1) = ((i + 1 : Nat) : Int) := IntWalk.i64_in _ (by omega)
        have f3 : decide (i < k) = true := decide_eq_true hlt
        simp only at a1 a2 z0 z1 d1
        by_cases q1 : 128 ≤ z
        · have g1 : decide (128 ≤ z) = true := decide_eq_true q1
          have u1 : IntKind.u8.wrap z = z := by rw [IntKind.wrap_u8]; omega
          have e1 : IntKind.i64.wrap ((d.size : Int) + 2) = (d.size : Int) + 2 := IntWalk.i64_in _ (by omega)
          have u2 : IntKind.u8.wrap ((d.size : Int) + 2) = (d.size : Int) + 2 := by rw [IntKind.wrap_u8]; omega
          have zb : Bytes [z, (d.size : Int) + 2] := fun y hy => by simp at hy; omega
          have NY : Hid (encL (xs.take (i + 1)) = encL (xs.take i) ++ (z :: ((d.size : Int) + 2) :: nums d)) := Lib.hid (by rw [NX.out, if_pos q1])
          have QM : Hid (q + 2 + d.size ≤ 10000) := Lib.hid (by
            have := QN.out
            rw [NY.out, List.length_append, List.length_cons, List.length_cons, nums_len, ← QL.out] at this
            omega)
          have K8 := Lib.hid ((Blk.new wr 97 #[.int .i64 z, .string d]).alloc (.cells #[.int .u8 z, .int .u8 ((d.size : Int) + 2)] 5))
          have L8 := Lib.hid (Draw.lit_holds (wr.alloc (.cells #[.int .i64 z, .string d] 97)) [z, (d.size : Int) + 2] _ (0, 0) 2 (wr.heap.size + 1) rfl zb rfl (by simp) (by decide))
          have NO : Hid (some wr.heap.size ≠ (Value.slice Av q cv).ownBlock) := Lib.hid fun e => by
            have := (HO.out.lt _ e.symm).2
            omega
          clear NX QN QL
          go_wp2_with (first
            | (at_builtin
               refine wpList_append_bytes rfl (.tmp 26) (.tmp 35) rfl w1.heap.size _ q _ rfl ((HO.out.alloc _).alloc _) _ _ 2 2 [z, (d.size : Int) + 2] rfl L8.out (by have := QM.out; omega) (by simp; omega) ?_
               intro v1 w8 o8 g8 hat8
               have c8 : w8.cell? ⟨wr.heap.size, 1, none⟩ = some (.string d) := (K8.out.grown g8 NO.out).cell 1
               have G8 := Lib.hid g8
               have O8 := Lib.hid o8
               clear g8 o8 hat8)
            | (at_builtin
               refine wpList_append_text rfl (.tmp 37) (.tmp 39) rfl w1.heap.size v1 _ _ rfl O8.out d rfl (by have := QM.out; omega) (by have := G8.out.size; simp at this; omega) ?_
               intro v9 w9 o9 g9))
          have X8 := (((Below.refl wr.heap.size wr).alloc (Nat.le_refl _) (.cells #[.int .i64 z, .string d] 97)).alloc (by simp) (.cells #[.int .u8 z, .int .u8 ((d.size : Int) + 2)] 5))
          have Y8 : Below w1.heap.size w1 w8 := (HX.out.trans (X8.mono HBS)).grown G8.out (Nat.le_trans HBS X8.size) fun g hg => (HO.out.lt g hg).1
          have Y9 := Lib.hid (Y8.grown g9 Y8.size fun g hg => (O8.out.lt g hg).1)
          have OX : Hid (Owns w9 w1.heap.size v9 (q + 2 + d.size) (encL (xs.take (i + 1)))) := Lib.hid (by rw [NY.out]; simpa using o9)
          clear o9 g9 X8 Y8 O8 G8 HO HX c8 NY K8 NO L8
          go_roundw
          case rel => exact ⟨i + 1, q + 2 + d.size, by go_num, by omega, QM.out, OX, Y9⟩
          case measure => simp [intOf]; omega
        · have g1 : decide (128 ≤ z) = false := decide_eq_false q1
          have NY : Hid (encL (xs.take (i + 1)) = encL (xs.take i)) := Lib.hid (by rw [NX.out, if_neg q1, List.append_nil])
          have XB := Lib.hid ((Below.refl wr.heap.size wr).alloc (Nat.le_refl _) (.cells #[.int .i64 z, .string d] 97))
          have OX : Hid (Owns (wr.alloc (.cells #[.int .i64 z, .string d] 97)) w1.heap.size (.slice Av q cv) q (encL (xs.take (i + 1)))) := Lib.hid (by rw [NY.out]; exact HO.out.alloc _)
          have BX := Lib.hid (HX.out.trans (XB.out.mono HX.out.size))
          clear NX XB HO HX
          go_wp2_with fail
          go_roundw
          case rel => exact ⟨i + 1, q, by go_num, by omega, hq, OX, BX⟩
          case measure => simp [intOf]; omega
      · obtain rfl : i = k := by omega
        have f3 : decide (i < i) = false := decide_eq_false (by omega)
        have HO2 : Hid (Owns wr w1.heap.size (.slice Av q cv) (encL xs).length (encL xs)) := Lib.hid (by
          have := HO.out
          rw [List.take_of_length_le (by rw [HK.out]; exact Nat.le_refl _)] at this
          obtain rfl := this.1
          exact this)
        clear HO
        obtain ⟨L, hL⟩ : ∃ L, (encL xs).length = L := ⟨_, rfl⟩
        have HL := Lib.hid hL
        rw [hL] at HO2
        have LB : L ≤ 10000 := by
          have := LE.out i
          rw [List.take_of_length_le (by rw [HK.out]; exact Nat.le_refl _)] at this
          omega
        obtain ⟨pd, hpd⟩ : ∃ pd, (4 - L % 4) % 4 = pd := ⟨_, rfl⟩
        have HP := Lib.hid hpd
        have P4 : pd < 4 := by omega
        clear hL hpd AT BD LE HK hi KB f3
        generalize wr = wo at *
        go_wp2_with fail
        go_loopw [6] (fun ov wr => ∃ j m : Nat, Hid (m = L + j) ∧ j ≤ pd ∧ Hid (Owns wr w1.heap.size ov m (encL xs ++ List.replicate j 0)) ∧ Hid (Below w1.heap.size w1 wr)) (fun ov _ => match ov with | .slice _ m _ => L + 4 - m | _ => 0)
        case atStart => exact ⟨0, L, Lib.hid rfl, Nat.zero_le _, Lib.hid (by simpa using HO2.out), HX⟩
        case round =>
          obtain ⟨j, m, hm, hj, HO, HW⟩ := hrel
          clear HO2 HX
          have HBS := HW.out.size
          obtain ⟨Av, cv, rfl, -⟩ := HO.out.slice
          have mb : m ≤ 10004 := by have := hm.out; omega
          have m4 : ((m : Int) % 4 != 0) = decide (j < pd) := by
            have e : (m : Int) % 4 = ((m % 4 : Nat) : Int) := by omega
            have := hm.out
            have := HP.out
            rw [e]
            by_cases q : j < pd
            · rw [decide_eq_true q, bne_iff_ne]
              omega
            · rw [decide_eq_false q]
              have : m % 4 = 0 := by omega
              rw [this]
              rfl
          by_cases q : j < pd
          · rw [decide_eq_true q] at m4
            have L8 := Lib.hid (Draw.lit_holds wr [(0 : Int)] #[.int .u8 0] (0, 0) 1 wr.heap.size rfl (by intro y hy; simp at hy; omega) rfl rfl (by decide))
            go_wp2_with (at_builtin
                         refine wpList_append_bytes rfl (.tmp 46) (.tmp 47) rfl w1.heap.size _ m _ rfl (HO.out.alloc _) _ _ 1 1 [(0 : Int)] rfl L8.out (by omega) (by simp; omega) ?_
                         intro v1 w9 o9 g9 hat9)
            have OX : Hid (Owns w9 w1.heap.size v1 (m + 1) (encL xs ++ List.replicate (j + 1) 0)) := Lib.hid (by rw [pad_more]; exact o9)
            have BX := Lib.hid ((HW.out.alloc HBS _).grown g9 (by simp; omega) fun g hg => (HO.out.lt g hg).1)
            have HM : Hid (m + 1 = L + (j + 1)) := Lib.hid (by have := hm.out; omega)
            have F1 := Lib.hid (o9.slice)
            clear o9 g9 hat9 HO HW HBS L8 hm
            obtain ⟨A9, c9, rfl, -⟩ := F1.out
            go_roundw
            case rel => exact ⟨j + 1, m + 1, HM, by omega, OX, BX⟩
            case measure => simp; have := HM.out; omega
          · rw [decide_eq_false q] at m4
            obtain rfl : j = pd := by omega
            have OH := HO.out.holds
            have cv9 := run_string_bytes OH
            have E2 : Hid (u = .tuple #[.string (strOfNums (encL xs ++ List.replicate j 0)), .int .i64 0]) := Lib.hid (by rw [E1.out]; unfold padL; rw [HL.out, HP.out])
            clear OH E1 hm HP
            generalize strOfNums (encL xs ++ List.replicate j 0) = st at *
            go_wp2_with fail
            go_ret2
            exact ⟨by rw [E2.out]; rfl, B1.out.trans (HW.out.mono B1.out.size)⟩
  · have E1 : Hid (u = .tuple #[.string ⟨#[]⟩, .int .i64 4]) := Lib.hid (by rw [E.out, ho]; rfl)
    clear OC E ho
    have B1 := Lib.hid hb
    clear hb
    go_wp2_with fail
    go_ret2
    exact ⟨by rw [E1.out]; rfl, B1.out⟩
end Go.Proofs.YtnpggkpcadefjaaDoor.Spl4

/- The code's own: a packet with memory of its own. -/
set_option linter.unusedVariables false
set_option maxRecDepth 100000
namespace Go.Proofs.YtnpggkpcadefjaaDoor.Spl2
open Go.RowKit Go.Proofs.YtnpggkpcadefjaaDoor.Sums Go.Proofs.YtnpggkpcadefjaaDoor.Mem Go.Proofs.YtnpggkpcadefjaaDoor.Blk Go.Proofs.YtnpggkpcadefjaaDoor.Pkt Go.Proofs.YtnpggkpcadefjaaDoor.Check Go.Proofs.YtnpggkpcadefjaaDoor.Free Go.Proofs.YtnpggkpcadefjaaDoor.Steps Go.Proofs.YtnpggkpcadefjaaDoor.Spl1

theorem set_same {cs : Array Value} {p : Nat} {u : Value} (hu : cs[p]? = some u) : cs.setIfInBounds p u = cs := by
  apply Array.ext (by simp)
  intro j hj hj'
  rw [Array.getElem_setIfInBounds]
  split
  · rename_i e
    subst e
    exact ((Array.getElem?_eq_some_iff.1 hu).2).symm
  · rfl
theorem same_one {w : World} {g p : Nat} {t ty : TypeId} {cs : Array Value} {u : Value} (h : Blk w g t cs) (hi : (Tryd.prog.info? ty).map (·.size) = some 1) (hu : cs[p]? = some u) (h1 : u.oneCell' = true) (hc : u.cells = #[u]) : (storeVar ty ⟨g, p, none⟩ u).run Tryd.prog w = .ok () w := by
  have hp : p < cs.size := (Array.getElem?_eq_some_iff.1 hu).1
  have := Store.run_store_one h hp hi h1 cs (set_same hu) hc
  rwa [setRow_self w g cs t (0, 0) h] at this
theorem st_same {o : Oper} {a : Act} {w : World} {K : Act → World → Prop} {Q : Exit → Act → World → Prop} (ty : TypeId) (x y : Operand) (ho : o.op = .store ty x y) (ad : Addr) (hx : a.eval x = .pointer (some ad)) (v : Value) (hy : a.eval y = v)
    (hr : (storeVar ty ad v).run Tryd.prog w = .ok () w) (hK : K (a.put o.dst undef) w) : Step Tryd.prog o a w K Q := by
  constructor
  unfold Oper.wp execOp
  simp only [ho, hx, hy, Instr.storeAt, Instr.sureAddr, Sem.run_bind, Sem.run_pure, Result.andThen_ok, hr]
  exact hK
/-- A store whose run is known. -/
theorem wpList_store_run {ops : Array Oper} {rest : List Oper} {o : Oper} {a : Act} {w w' : World} {Q : Exit → Act → World → Prop} (hgd : o.guard = none) (ty : TypeId) (x y : Operand) (ho : o.op = .store ty x y) (ad : Addr) (v : Value) (hx : a.eval x = .pointer (some ad)) (hy : a.eval y = v)
    (hr : (storeVar ty ad v).run Tryd.prog w = .ok () w') (h : wpList Tryd.prog ops Q rest (a.put o.dst undef) w') : wpList Tryd.prog ops Q (o :: rest) a w :=
  wpList_plain hgd fun _ hK => by
    unfold Oper.wp execOp
    simp only [ho, hx, hy, Instr.storeAt, Instr.sureAddr, Sem.run_bind, Sem.run_pure, Result.andThen_ok, hr]
    exact hK _ _ h
def pcA (p : Pkt) (D : Value) : Array Value := #[.int .i64 p.tos, .int .i64 p.id, .int .i64 p.ttl, .int .i64 p.proto, .bool p.df, .bool p.mf, .int .i64 p.off, .string p.src, .string p.dst, .string p.opt, D]
theorem oneP (p : Pkt) (A : Option Addr) (n c : Nat) : (pcA p (.slice A n c)).all (·.oneCell') = true := by simp [pcA, Value.oneCell']
structure Texts (p : Pkt) : Prop where
  s : p.src.size ≤ maxT
  d : p.dst.size ≤ maxT
  o : p.opt.size ≤ maxT
set_option maxHeartbeats 1000000 in
theorem own_any (p : Pkt) (A : Option Addr) (n c B : Nat) (l : List Int) (w : World) (h : Holds w B A n c l) (hB : B ≤ w.heap.size) (hn : n ≤ 1048576) (ht : Texts p) : Calls Tryd.prog 38 #[val p (.slice A n c)] w fun e w' => ∃ A' c', e = .returned (val p (.slice A' n c')) ∧ Owns w' w.heap.size (.slice A' n c') n l ∧ Below w.heap.size w w' := by
  have K0 := Lib.hid (Blk.alloc (Blk.new w 32 #[.int .i64 p.tos, .int .i64 p.id, .int .i64 p.ttl, .int .i64 p.proto, .bool p.df, .bool p.mf, .int .i64 p.off, .string p.src, .string p.dst, .string p.opt, .slice A n c]) (.cells #[.int .i64 0, .int .i64 0, .int .i64 0, .int .i64 0, .bool false, .bool false, .int .i64 0, .string ⟨#[]⟩, .string ⟨#[]⟩, .string ⟨#[]⟩, .slice none 0 0] 32))
  have J0 : Hid (Blk ((w.alloc (.cells #[.int .i64 p.tos, .int .i64 p.id, .int .i64 p.ttl, .int .i64 p.proto, .bool p.df, .bool p.mf, .int .i64 p.off, .string p.src, .string p.dst, .string p.opt, .slice A n c] 32)).alloc (.cells #[.int .i64 0, .int .i64 0, .int .i64 0, .int .i64 0, .bool false, .bool false, .int .i64 0, .string ⟨#[]⟩, .string ⟨#[]⟩, .string ⟨#[]⟩, .slice none 0 0] 32)) (w.heap.size + 1) 32 #[.int .i64 0, .int .i64 0, .int .i64 0, .int .i64 0, .bool false, .bool false, .int .i64 0, .string ⟨#[]⟩, .string ⟨#[]⟩, .string ⟨#[]⟩, .slice none 0 0]) := Lib.hid (by
    have := Blk.new (w.alloc (.cells #[.int .i64 p.tos, .int .i64 p.id, .int .i64 p.ttl, .int .i64 p.proto, .bool p.df, .bool p.mf, .int .i64 p.off, .string p.src, .string p.dst, .string p.opt, .slice A n c] 32)) 32 #[.int .i64 0, .int .i64 0, .int .i64 0, .int .i64 0, .bool false, .bool false, .int .i64 0, .string ⟨#[]⟩, .string ⟨#[]⟩, .string ⟨#[]⟩, .slice none 0 0]
    simpa using this)
  have B0 := Lib.hid (((Below.refl w.heap.size w).alloc (Nat.le_refl _) (.cells #[.int .i64 p.tos, .int .i64 p.id, .int .i64 p.ttl, .int .i64 p.proto, .bool p.df, .bool p.mf, .int .i64 p.off, .string p.src, .string p.dst, .string p.opt, .slice A n c] 32)).alloc (by simp) (.cells #[.int .i64 0, .int .i64 0, .int .i64 0, .int .i64 0, .bool false, .bool false, .int .i64 0, .string ⟨#[]⟩, .string ⟨#[]⟩, .string ⟨#[]⟩, .slice none 0 0] 32))
  have C1 := Lib.hid (fun W => clone_text p.src W ht.s)
  have C2 := Lib.hid (fun W => clone_text p.dst W ht.d)
  have C3 := Lib.hid (fun W => clone_text p.opt W ht.o)
  have HH := Lib.hid h
  have HB := Lib.hid hB
  have HN := Lib.hid hn
  clear ht h hB hn
  unfold val
  go_enter Tryd.func38, Tryd.ntmps38
  go_wp2_with fail
  generalize (w.alloc (.cells #[.int .i64 p.tos, .int .i64 p.id, .int .i64 p.ttl, .int .i64 p.proto, .bool p.df, .bool p.mf, .int .i64 p.off, .string p.src, .string p.dst, .string p.opt, .slice A n c] 32)).alloc (.cells #[.int .i64 0, .int .i64 0, .int .i64 0, .int .i64 0, .bool false, .bool false, .int .i64 0, .string ⟨#[]⟩, .string ⟨#[]⟩, .string ⟨#[]⟩, .slice none 0 0] 32) = w1 at *
  have X : Hid (∀ V, Below w1.drew.heap.size w1.drew V → Blk V w.heap.size 32 #[.int .i64 p.tos, .int .i64 p.id, .int .i64 p.ttl, .int .i64 p.proto, .bool p.df, .bool p.mf, .int .i64 p.off, .string p.src, .string p.dst, .string p.opt, .slice A n c]) := Lib.hid fun V hV => Blk.below (show Blk w1.drew w.heap.size 32 #[.int .i64 p.tos, .int .i64 p.id, .int .i64 p.ttl, .int .i64 p.proto, .bool p.df, .bool p.mf, .int .i64 p.off, .string p.src, .string p.dst, .string p.opt, .slice A n c] from K0.out) hV (Blk.lt K0.out)
  refine wp_region_free [0, 1, 2, 3, 4, 5, 6, 7, 8] 9 [] (fun w1 w2 => Below w1.heap.size w1 w2) (fun k' w' v => match k' with
    | 0 => v = .pointer (some ⟨w.heap.size, 7, none⟩)
    | 1 => v = .string p.src
    | 2 => v = .string p.src
    | 3 => v = .pointer (some ⟨w.heap.size, 8, none⟩)
    | 4 => v = .string p.dst
    | 5 => v = .string p.dst
    | 6 => v = .pointer (some ⟨w.heap.size, 7, none⟩)
    | 7 => True
    | _ => v = .pointer (some ⟨w.heap.size, 8, none⟩)) (by kernel_rfl) (by kernel_rfl) (Below.refl _ _) (fun _ _ _ h k => h.trans (k.mono h.size)) (fun k' w1 w2 v h => match k' with
    | 0 => fun x => x
    | 1 => fun x => x
    | 2 => fun x => x
    | 3 => fun x => x
    | 4 => fun x => x
    | 5 => fun x => x
    | 6 => fun x => x
    | 7 => fun _ => trivial
    | _ + 8 => fun x => x) (fun _ _ _ _ _ h => h) ?_ _ (by rfl) ?_
  · refine obs_cons (by rfl) (fun vals w' hgr hdep K hK => ?_) (obs_cons (by rfl) (fun vals w' hgr hdep K hK => ?_) (obs_cons (by rfl) (fun vals w' hgr hdep K hK => ?_) (obs_cons (by rfl) (fun vals w' hgr hdep K hK => ?_) (obs_cons (by rfl) (fun vals w' hgr hdep K hK => ?_) (obs_cons (by rfl) (fun vals w' hgr hdep K hK => ?_) (obs_cons (by rfl) (fun vals w' hgr hdep K hK => ?_) (obs_cons (by rfl) (fun vals w' hgr hdep K hK => ?_) (obs_cons (by rfl) (fun vals w' hgr hdep K hK => ?_) (obs_nil)))))))))
    · exact wp_field (.tmp 1) rfl _ _ (at_out _ (by kernel_rfl) rfl) (by kernel_rfl) (hK _ _ (Below.refl _ _) rfl)
    · exact wp_load1 (.tmp 3) rfl ⟨w.heap.size, 7, none⟩ ((at_dst 0 (by kernel_rfl)).trans (hdep 0 (by simp) (by kernel_rfl))) Tryd.underlying9 rfl _ ((X.out w' hgr).cell 7) (hK _ _ (Below.refl _ _) rfl)
    · exact wp_call 44 [.tmp 4] _ rfl ent_clone [.string p.src] (Draw.list1 ((at_dst 1 (by kernel_rfl)).trans (hdep 1 (by simp) (by kernel_rfl)))) (fun v w'' => v = .string p.src ∧ Below w'.heap.size w' w'') (((C1.out w')).mono fun e w'' ⟨h1, h2⟩ => ⟨_, h1, rfl, h2⟩) (fun v w'' ⟨h1, h2⟩ => hK _ _ h2 h1)
    · exact wp_field (.tmp 1) rfl _ _ (at_out _ (by kernel_rfl) rfl) (by kernel_rfl) (hK _ _ (Below.refl _ _) rfl)
    · exact wp_load1 (.tmp 6) rfl ⟨w.heap.size, 8, none⟩ ((at_dst 3 (by kernel_rfl)).trans (hdep 3 (by simp) (by kernel_rfl))) Tryd.underlying9 rfl _ ((X.out w' hgr).cell 8) (hK _ _ (Below.refl _ _) rfl)
    · exact wp_call 44 [.tmp 7] _ rfl ent_clone [.string p.dst] (Draw.list1 ((at_dst 4 (by kernel_rfl)).trans (hdep 4 (by simp) (by kernel_rfl)))) (fun v w'' => v = .string p.dst ∧ Below w'.heap.size w' w'') (((C2.out w')).mono fun e w'' ⟨h1, h2⟩ => ⟨_, h1, rfl, h2⟩) (fun v w'' ⟨h1, h2⟩ => hK _ _ h2 h1)
    · exact wp_field (.tmp 1) rfl _ _ (at_out _ (by kernel_rfl) rfl) (by kernel_rfl) (hK _ _ (Below.refl _ _) rfl)
    · exact st_same 9 (.tmp 9) (.tmp 5) rfl ⟨w.heap.size, 7, none⟩ ((at_dst 6 (by kernel_rfl)).trans (hdep 6 (by simp) (by kernel_rfl))) (.string p.src) ((at_dst 2 (by kernel_rfl)).trans (hdep 2 (by simp) (by kernel_rfl))) (same_one (X.out w' hgr) (by kernel_rfl) rfl rfl rfl) (hK _ _ (Below.refl _ _) trivial)
    · exact wp_field (.tmp 1) rfl _ _ (at_out _ (by kernel_rfl) rfl) (by kernel_rfl) (hK _ _ (Below.refl _ _) rfl)
  · intro vals w' hgr hG
    refine st_same 9 (.tmp 10) (.tmp 8) rfl ⟨w.heap.size, 8, none⟩ ((at_dst 8 (by kernel_rfl)).trans (hG 8 (by simp))) (.string p.dst) ((at_dst 5 (by kernel_rfl)).trans (hG 5 (by simp))) (same_one (X.out w' hgr) (by kernel_rfl) rfl rfl rfl) (wpAnyH_done (by kernel_rfl) ?_ _)
    have hU := hgr
    have K1 := Lib.hid (X.out _ hU)
    have J1 := Lib.hid (Blk.below (show Blk w1.drew (w.heap.size + 1) 32 #[.int .i64 0, .int .i64 0, .int .i64 0, .int .i64 0, .bool false, .bool false, .int .i64 0, .string ⟨#[]⟩, .string ⟨#[]⟩, .string ⟨#[]⟩, .slice none 0 0] from J0.out) hU (Blk.lt J0.out))
    have B1 := Lib.hid (B0.out.trans ((Draw.below_1 hU).mono B0.out.size))
    clear hU hG hgr X K0 J0 B0 C1 C2
    simp only [fill, dstAt, List.getElem?_cons_zero, List.getElem?_cons_succ, Option.bind_some, Act.put, List.setIfInBounds_toArray, List.set_cons_zero, List.set_cons_succ]
    generalize vals 0 = y0, vals 1 = y1, vals 2 = y2, vals 3 = y3, vals 4 = y4, vals 5 = y5, vals 6 = y6, vals 7 = y7, vals 8 = y8 at *
    generalize w' = w2 at *
    have c9 : w2.cell? ⟨w.heap.size, 9, none⟩ = some (.string p.opt) := K1.out.cell 9
    go_wp2_with fail
    refine (C3.out _).mono ?_
    rintro e w3 ⟨rfl, hb⟩
    have K3 := Lib.hid (Blk.below K1.out hb (Blk.lt K1.out))
    have J3 := Lib.hid (Blk.below J1.out hb (Blk.lt J1.out))
    have B3 := Lib.hid (B1.out.trans (hb.mono B1.out.size))
    clear hb K1 J1 B1 C3 c9
    have c10 : w3.cell? ⟨w.heap.size, 10, none⟩ = some (.slice A n c) := K3.out.cell 10
    have C4 := Lib.hid (clone_all A n c l w3 B (HH.out.below (B3.out.mono HB.out)) (Nat.le_trans HB.out B3.out.size) HN.out)
    go_wp2_with (refine wpList_store_run rfl 9 (.tmp 14) (.tmp 13) rfl ⟨w.heap.size, 9, none⟩ (.string p.opt) rfl rfl (same_one K3.out (by kernel_rfl) rfl rfl rfl) ?_)
    refine C4.out.mono ?_
    rintro e w4 ⟨A', c', rfl, ho, hb⟩
    have O4 := Lib.hid ho
    have K4 := Lib.hid (Blk.below K3.out hb (Blk.lt K3.out))
    have J4 := Lib.hid (Blk.below J3.out hb (Blk.lt J3.out))
    have B4 := Lib.hid (B3.out.trans (hb.mono B3.out.size))
    have S3 := Lib.hid (show w.heap.size + 1 < w3.heap.size from Blk.lt J3.out)
    clear ho hb K3 J3 B3 C4 c10
    have R := Lib.hid (setRow_heap w4 w.heap.size _ (pcA p (.slice A' n c')) _ _ K4.out)
    have J5 := Lib.hid (show Blk (w4.setRow w.heap.size (pcA p (.slice A' n c'))) (w.heap.size + 1) 32 #[.int .i64 0, .int .i64 0, .int .i64 0, .int .i64 0, .bool false, .bool false, .int .i64 0, .string ⟨#[]⟩, .string ⟨#[]⟩, .string ⟨#[]⟩, .slice none 0 0] from (setRow_other w4 w.heap.size (w.heap.size + 1) _ (by omega)).trans J4.out)
    have K5 := Lib.hid (show Blk (w4.setRow w.heap.size (pcA p (.slice A' n c'))) w.heap.size 32 (pcA p (.slice A' n c')) from R.out)
    have B5 := Lib.hid (Com.setRow_bel B4.out (Nat.le_refl _) (pcA p (.slice A' n c')))
    have one := Lib.hid (oneP p A' n c')
    have O5 := Lib.hid (show Owns (w4.setRow w.heap.size (pcA p (.slice A' n c'))) w.heap.size (.slice A' n c') n l from by
      refine ⟨O4.out.1, O4.out.2.1, O4.out.2.2.imp id ?_⟩
      rintro ⟨g, cap, cur, fz, e, hg, hh, r⟩
      have := S3.out
      exact ⟨g, cap, cur, fz, e, by omega, (setRow_other w4 w.heap.size g _ (by omega)).trans hh, r⟩)
    clear O4 B4 R
    go_wp2_with (first | (refine Store.at_store 30 (.tmp 18) (.tmp 17) ?_ ?_; exact rfl; refine wpList_store_run rfl 30 (.tmp 18) (.tmp 17) rfl ⟨w.heap.size, 10, none⟩ (.slice A' n c') rfl rfl (Store.run_store_one K4.out (by simp) (by kernel_rfl) rfl (pcA p (.slice A' n c')) rfl rfl) ?_) | (refine Store.at_load 32 (.tmp 1) ?_ ?_; exact rfl; refine Loads.wpList_load_w rfl 32 (.tmp 1) rfl w.heap.size rfl 32 (pcA p (.slice A' n c')) (0, 0) _ (K5.out) Tryd.underlying32 rfl (by kernel_rfl) ?_) | (refine wpList_store_row rfl 32 (.tmp 2) (.tmp 19) rfl (w.heap.size + 1) (pcA p (.slice A' n c')) rfl rfl 32 _ J5.out (by kernel_rfl) rfl one.out ?_))
    exact bodyPost_ret (results_cell_row rfl _ _ (w.heap.size + 1) 32 (pcA p (.slice A' n c')) (0, 0) _ rfl (setRow_heap _ _ _ _ _ _ J5.out) Tryd.underlying32 rfl (by kernel_rfl)) rfl ⟨A', c', rfl, by
      refine ⟨O5.out.1, O5.out.2.1, O5.out.2.2.imp id ?_⟩
      rintro ⟨g, cap, cur, fz, e, hg, hh, r⟩
      refine ⟨g, cap, cur, fz, e, hg, (setRow_other _ (w.heap.size + 1) g _ ?_).trans hh, r⟩
      intro q
      subst q
      have := hh.symm.trans J5.out
      simp at this, Com.setRow_bel B5.out (by omega) _⟩
end Go.Proofs.YtnpggkpcadefjaaDoor.Spl2

/- Rows of pieces that the call owns; what cut answers, plain. -/
set_option linter.unusedVariables false
set_option maxRecDepth 100000
namespace Go.Proofs.YtnpggkpcadefjaaDoor.Spl5
open Go.RowKit Go.Proofs.YtnpggkpcadefjaaDoor.Sums Go.Proofs.YtnpggkpcadefjaaDoor.Mem Go.Proofs.YtnpggkpcadefjaaDoor.Blk Go.Proofs.YtnpggkpcadefjaaDoor.Pkt Go.Proofs.YtnpggkpcadefjaaDoor.Check Go.Proofs.YtnpggkpcadefjaaDoor.RowN Go.Proofs.YtnpggkpcadefjaaDoor.RowA Go.Proofs.YtnpggkpcadefjaaDoor.SplD Go.Proofs.YtnpggkpcadefjaaDoor.SplL Go.Proofs.YtnpggkpcadefjaaDoor.SplM Go.Proofs.YtnpggkpcadefjaaDoor.SplP

abbrev Pc := (Pkt × List Int) × Value
def flat (zs : List Pc) : List Value := zs.flatMap fun z => pcCells z.1.1 z.2
theorem flat_len (zs : List Pc) : (flat zs).length = zs.length * 11 := by
  induction zs with
  | nil => rfl
  | cons z zs ih =>
    unfold flat at ih ⊢
    rw [List.flatMap_cons, List.length_append, ih, List.length_cons, Nat.add_mul]
    simp [pcCells]
    omega
theorem flat_snoc (zs : List Pc) (z : Pc) : flat (zs ++ [z]) = flat zs ++ pcCells z.1.1 z.2 := by
  simp [flat]
theorem flat_at : ∀ (zs : List Pc) (k : Nat) (z : Pc), zs[k]? = some z → ∀ j v, (pcCells z.1.1 z.2)[j]? = some v → (flat zs)[k * 11 + j]? = some v := by
  intro zs
  induction zs with
  | nil => intro k z h; simp at h
  | cons y ys ih =>
    intro k z h j v hv
    have e : flat (y :: ys) = pcCells y.1.1 y.2 ++ flat ys := by simp [flat]
    have l11 : (pcCells y.1.1 y.2).length = 11 := rfl
    have j11 : j < 11 := (List.getElem?_eq_some_iff.1 hv).1
    rw [e]
    cases k with
    | zero =>
      simp at h
      subst h
      rw [List.getElem?_append_left (by omega)]
      simpa using hv
    | succ k =>
      rw [List.getElem?_cons_succ] at h
      rw [List.getElem?_append_right (by omega), l11, show (k + 1) * 11 + j - 11 = k * 11 + j by omega]
      exact ih k z h j v hv
/-- Pieces in a row that the call owns, with the bytes of each. -/
structure PRow (base : Nat) (w : World) (A : Option Addr) (c : Nat) (zs : List Pc) : Prop where
  row : RowX 32 11 w A zs.length c (flat zs)
  own : ∀ k, own A k → base ≤ k
  dat : ∀ z ∈ zs, Owns w base z.2 z.1.2.length z.1.2
theorem PRow.nil (base : Nat) (w : World) : PRow base w none 0 [] := ⟨RowX.nil _ _ _, fun k h => (by obtain ⟨a, e, _⟩ := h; cases e), fun z h => (by cases h)⟩
theorem owns_keep {w w' : World} {base n c m : Nat} {v : Value} {l : List Int} {A : Option Addr} {cs : List Value} (h : Owns w base v n l) (hr : RowAt 32 11 w A m c cs) (hk : Keep (fun k => ¬ own A k) w w') : Owns w' base v n l := by
  refine ⟨h.1, h.2.1, h.2.2.imp id ?_⟩
  rintro ⟨g, cap, cur, fz, e, hg, hh, r⟩
  refine ⟨g, cap, cur, fz, e, hg, (hk.block g (fun o => ?_) (Array.getElem?_eq_some_iff.1 hh).1).trans hh, r⟩
  obtain ⟨X, hX⟩ := hr.type o
  have := hh.symm.trans hX
  simp at this
theorem PRow.below {base : Nat} {w w' : World} {A : Option Addr} {c : Nat} {zs : List Pc} (h : PRow base w A c zs) (hb : Below w.heap.size w w') : PRow base w' A c zs := ⟨h.row.below hb, h.own, fun z hz => (h.dat z hz).below hb (Nat.le_refl _)⟩
theorem PRow.drew {base : Nat} {w : World} {A : Option Addr} {c : Nat} {zs : List Pc} (h : PRow base w A c zs) : PRow base w.drew A c zs := h.below (below_drewN (Below.refl _ _) 1)
theorem ip4_info : ∃ i z, Tryd.prog.info? 32 = some i ∧ i.zero = some z ∧ z.cells.size = 11 ∧ i.size = 11 ∧ i.bytes = 120 := by
  have h : (Tryd.prog.info? 32).map (fun i => (i.zero.map (·.cells.size), i.size, i.bytes)) = some (some 11, 11, 120) := by kernel_rfl
  obtain ⟨i, hi, hz⟩ := Option.map_eq_some_iff.1 h
  simp only [Prod.mk.injEq] at hz
  obtain ⟨z, h1, h2⟩ := Option.map_eq_some_iff.1 hz.1
  exact ⟨i, z, hi, h1, h2, hz.2.1, hz.2.2⟩
theorem owns_one {w : World} {base n : Nat} {v : Value} {l : List Int} (h : Owns w base v n l) : v.oneCell' = true := by
  rcases h.2.2 with ⟨rfl, _⟩ | ⟨g, cap, cur, fz, rfl, _⟩ <;> rfl
/-- One more behind the others. -/
theorem PRow.push {base : Nat} {w : World} {A : Option Addr} {c vb : Nat} {zs : List Pc} {x : Pkt × List Int} {d : Value} (h : PRow base w A c zs) (hB : base ≤ w.heap.size) (hV : Blk w vb 32 (pcCells x.1 d).toArray) (hd : Owns w base d x.2.length x.2) (hn : zs.length ≤ 1000000) :
    ∃ A' c' w', (∀ ty, (Builtin.append_ #[36, 36] ty #[.slice A zs.length c, .slice (some ⟨vb, 0, none⟩) 1 1]).run Tryd.prog w = .ok (.slice A' (zs.length + 1) c') w') ∧ PRow base w' A' c' (zs ++ [(x, d)]) ∧ (∀ k, RowN.own A' k → RowN.own A k ∨ w.heap.size ≤ k) ∧ Keep (fun k => ¬ RowN.own A k) w w' := by
  obtain ⟨i, z, hi, hz, hzs, hN, hb⟩ := ip4_info
  obtain ⟨A', c', w', h1, h2, h3, h4, _⟩ := append_row (sl := 36) (V := (pcCells x.1 d).toArray) Tryd.underlying36 hi hz hN hzs (by rw [hb]; decide) h.row hV rfl (by
    have := owns_one hd
    simpa [pcCells, Value.oneCell'] using this) hn
  refine ⟨A', c', w', h1, ⟨?_, ?_, ?_⟩, ?_, h4⟩
  · rw [flat_snoc, List.length_append]
    exact h2
  · intro k hk
    rcases h3 with rfl | ⟨g, rfl, hg⟩
    · exact h.own k hk
    · obtain ⟨a, e, rfl⟩ := hk
      cases e
      exact Nat.le_trans hB hg
  · intro z hz
    rcases List.mem_append.1 hz with hz | hz
    · exact owns_keep (h.dat z hz) h.row.row h4
    · obtain rfl := List.mem_singleton.1 hz
      exact owns_keep hd h.row.row h4
  · intro k hk
    rcases h3 with rfl | ⟨g, rfl, hg⟩
    · exact .inl hk
    · obtain ⟨a, e, rfl⟩ := hk
      cases e
      exact .inr hg
/-- What lies there, as the laws see it. -/
theorem PRow.pcs {base : Nat} {w : World} {A : Option Addr} {c : Nat} {zs : List Pc} (h : PRow base w A c zs) : PcsAt w (.slice A zs.length c) (zs.map (·.1)) := by
  refine ⟨A, c, by rw [List.length_map], fun k x hx => ?_⟩
  rw [List.getElem?_map] at hx
  obtain ⟨z, hz, rfl⟩ := Option.map_eq_some_iff.1 hx
  have hkn : k < zs.length := (List.getElem?_eq_some_iff.1 hz).1
  obtain ⟨b, X, rfl, hX, _, _⟩ := h.row.row.some (by omega)
  obtain ⟨A', c', e, hh⟩ := (h.dat z (List.mem_of_getElem? hz)).slice
  refine ⟨b, 0, A', c', rfl, hX.lt, fun j v hv => ?_, hh⟩
  rw [Nat.zero_add]
  rw [← e] at hv
  exact h.row.row.cell rfl (flat_at zs k z hz j v hv)
/-- What is left of a packet, cut. -/
def cutsP (lat : ByteArray) (m : Nat) : Nat → Pkt → List Int → Option (List (Pkt × List Int))
  | 0, _, _ => none
  | f + 1, q, l => if 65528 < q.off then none else if 20 + q.opt.size + l.length ≤ m then some [(q, l)]
    else (cutsP lat m f { q with off := q.off + (((m - (20 + q.opt.size)) / 8 * 8 : Nat) : Int), opt := lat } (l.drop ((m - (20 + q.opt.size)) / 8 * 8))).map (({ q with mf := true }, l.take ((m - (20 + q.opt.size)) / 8 * 8)) :: ·)
def CutAns (base : Nat) (w : World) (ps : List (Pkt × List Int)) (r : Option (List (Pkt × List Int))) (v : Value) : Prop := match r with
  | none => v = .tuple #[.slice none 0 0, .int .i64 2]
  | some xs => ∃ A c zs, v = .tuple #[.slice A zs.length c, .int .i64 0] ∧ zs.map (·.1) = ps ++ xs ∧ PRow base w A c zs
theorem cuts_pieces {p : Pkt} {lat : ByteArray} {l : List Int} {m : Nat} (hw : Wide m p.opt.size lat.size) : ∀ (f a : Nat) (q : Pkt), a ≤ l.length → l.length - a < 8 * f → q = (⟨p.tos, p.id, p.ttl, p.proto, p.df, p.mf, p.off + (a : Int), p.src, p.dst, if a = 0 then p.opt else lat⟩ : Pkt) →
    cutsP lat m f q (l.drop a) = if (cuts m p.opt.size lat.size l.length f a).any (fun s => decide (65528 < p.off + s.1)) = true then none else some ((cuts m p.opt.size lat.size l.length f a).map (piece p lat l)) := by
  intro f
  induction f with
  | zero => intro a q _ h; omega
  | succ f ih =>
    intro a q ha hf e
    have lo := room_lo hw a
    have hi := room_hi hw a
    have zo : q.opt.size = if a = 0 then p.opt.size else lat.size := by rw [e]; show (if a = 0 then p.opt else lat).size = _; split <;> rfl
    have ze : q.off = p.off + (a : Int) := by rw [e]
    have hr : room m p.opt.size lat.size a = m - (20 + q.opt.size) := by rw [zo]; omega
    rw [cutsP, List.length_drop]
    by_cases o : 65528 < q.off
    · rw [if_pos o]
      have : ∃ k, (cuts m p.opt.size lat.size l.length (f + 1) a)[0]? = some (a, k) := cuts_head _ _ (by omega)
      obtain ⟨k, hk⟩ := this
      rw [if_pos (List.any_eq_true.2 ⟨_, List.mem_of_getElem? hk, decide_eq_true (by show 65528 < p.off + (a : Int); omega)⟩)]
    · rw [if_neg o]
      by_cases fit : l.length - a ≤ room m p.opt.size lat.size a
      · rw [if_pos (by rw [zo]; omega), cuts_one fit]
        rw [if_neg (by simp; omega)]
        simp only [List.map_cons, List.map_nil]
        congr 2
        unfold piece
        rw [e]
        have h1 : decide (a + (l.length - a) < l.length) = false := decide_eq_false (by omega)
        simp only [h1, Bool.or_false]
        rw [List.take_of_length_le (by rw [List.length_drop]; omega)]
      · rw [if_neg (by rw [zo]; omega), cuts_more fit]
        obtain ⟨k, hk⟩ : ∃ k, room m p.opt.size lat.size a / 8 * 8 = k := ⟨_, rfl⟩
        rw [← hr, hk, List.drop_drop]
        rw [ih (a + k) _ (by omega) (by omega) (by rw [e]; simp only [Pkt.mk.injEq, true_and]; exact ⟨by omega, by rw [if_neg (by omega)]⟩)]
        rw [List.any_cons, decide_eq_false (show ¬ 65528 < p.off + (a : Int) by omega), Bool.false_or]
        split
        · rfl
        · rw [List.map_cons, Option.map_some]
          congr 2
          unfold piece
          rw [e]
          have h1 : decide (a + k < l.length) = true := decide_eq_true (by omega)
          simp only [h1, Bool.or_true]
end Go.Proofs.YtnpggkpcadefjaaDoor.Spl5

/- The code's cut: the walk, up to where it calls itself. -/
set_option linter.unusedVariables false
set_option maxRecDepth 100000
namespace Go.Proofs.YtnpggkpcadefjaaDoor.Spl6
open Go.RowKit Go.Proofs.YtnpggkpcadefjaaDoor.Sums Go.Proofs.YtnpggkpcadefjaaDoor.Mem Go.Proofs.YtnpggkpcadefjaaDoor.Blk Go.Proofs.YtnpggkpcadefjaaDoor.Pkt Go.Proofs.YtnpggkpcadefjaaDoor.Check Go.Proofs.YtnpggkpcadefjaaDoor.Free Go.Proofs.YtnpggkpcadefjaaDoor.Steps Go.Proofs.YtnpggkpcadefjaaDoor.RowN Go.Proofs.YtnpggkpcadefjaaDoor.RowA Go.Proofs.YtnpggkpcadefjaaDoor.SplD Go.Proofs.YtnpggkpcadefjaaDoor.SplL Go.Proofs.YtnpggkpcadefjaaDoor.SplM Go.Proofs.YtnpggkpcadefjaaDoor.SplP Go.Proofs.YtnpggkpcadefjaaDoor.Spl1 Go.Proofs.YtnpggkpcadefjaaDoor.Spl2 Go.Proofs.YtnpggkpcadefjaaDoor.Spl3 Go.Proofs.YtnpggkpcadefjaaDoor.Spl5

/-- An append whose run is known. -/
theorem wpList_push {ops : Array Oper} {rest : List Oper} {o : Oper} {a : Act} {w w1 : World} {Q : Exit → Act → World → Prop} (hgd : o.guard = none) (x y : Operand) (ho : o.op = .call { callee := .builtin .append, args := #[x, y], argTypes := #[36, 36] }) (v u r : Value) (hx : a.eval x = v) (hy : a.eval y = u)
    (hr : ∀ ty, (Builtin.append_ #[36, 36] ty #[v, u]).run Tryd.prog w = .ok r w1) (hK : wpList Tryd.prog ops Q rest (a.put o.dst r) w1) : wpList Tryd.prog ops Q (o :: rest) a w := by
  refine wpList_plain hgd fun K' hK' => ?_
  unfold Oper.wp
  simp [execOp, ho, resolve, invoke, hx, hy, builtin, hr, Result.andThen]
  exact hK' _ _ hK
structure Fits (q : Pkt) (lat : ByteArray) : Prop where
  s : q.src.size = 4
  d : q.dst.size = 4
  o : q.opt.size ≤ 40
  l : lat.size ≤ 40
  f0 : 0 ≤ q.off
  f1 : q.off ≤ 200000
theorem Fits.texts {q : Pkt} {lat : ByteArray} (h : Fits q lat) : Texts q := ⟨by have := h.s; unfold maxT; omega, by have := h.d; unfold maxT; omega, by have := h.o; unfold maxT; omega⟩
/-- What cut does. -/
def CutSpec (lat : ByteArray) (m : Nat) (f : Nat) : Prop := ∀ (q : Pkt) (l : List Int) (base B : Nat) (w : World) (A : Option Addr) (c : Nat) (zs : List Pc) (Aa : Option Addr) (N ca : Nat), Fits q lat → l.length = N → N ≤ 65535 → N < 8 * f → zs.length + f ≤ 100000 → B ≤ base → base ≤ w.heap.size → PRow base w A c zs → Holds w B Aa N ca l →
  Calls Tryd.prog 40 #[.slice A zs.length c, val q (.slice Aa N ca), .string lat, .int .i64 (m : Int)] w fun e w' => (∃ v, e = .returned v ∧ CutAns base w' (zs.map (·.1)) (cutsP lat m f q l) v) ∧ Keep (fun k => ¬ own A k) w w'
theorem cut_over (lat : ByteArray) (m : Nat) (q : Pkt) (hq : 65528 < q.off) (w : World) (u x : Value) : Calls Tryd.prog 40 #[u, val q x, .string lat, .int .i64 (m : Int)] w fun e w' => e = .returned (.tuple #[.slice none 0 0, .int .i64 2]) ∧ Below w.heap.size w w' := by
  have B0 := Lib.hid ((Below.refl w.heap.size w).alloc (Nat.le_refl _) (.cells #[.int .i64 q.tos, .int .i64 q.id, .int .i64 q.ttl, .int .i64 q.proto, .bool q.df, .bool q.mf, .int .i64 q.off, .string q.src, .string q.dst, .string q.opt, x] 32))
  have g0 : decide (65528 < q.off) = true := decide_eq_true hq
  unfold val
  go_enter Tryd.func40, Tryd.ntmps40
  go_wp2_with fail
  go_ret2
  exact ⟨rfl, B0.out⟩
theorem cut_last (lat : ByteArray) (m f : Nat) (q : Pkt) (l : List Int) (base B : Nat) (w : World) (A : Option Addr) (c : Nat) (zs : List Pc) (Aa : Option Addr) (N ca : Nat) (hf : Fits q lat) (hN : l.length = N) (hN2 : N ≤ 65535) (hz : zs.length ≤ 100000) (hB : B ≤ base) (hbs : base ≤ w.heap.size) (h : PRow base w A c zs) (hh : Holds w B Aa N ca l) (hq : ¬ 65528 < q.off) (hm : 20 + q.opt.size + N ≤ m) :
    Calls Tryd.prog 40 #[.slice A zs.length c, val q (.slice Aa N ca), .string lat, .int .i64 (m : Int)] w fun e w' => (∃ v, e = .returned v ∧ CutAns base w' (zs.map (·.1)) (some [(q, l)]) v) ∧ Keep (fun k => ¬ own A k) w w' := by
  have B0 := Lib.hid ((Below.refl w.heap.size w).alloc (Nat.le_refl _) (.cells #[.int .i64 q.tos, .int .i64 q.id, .int .i64 q.ttl, .int .i64 q.proto, .bool q.df, .bool q.mf, .int .i64 q.off, .string q.src, .string q.dst, .string q.opt, .slice Aa N ca] 32))
  have K0 := Lib.hid (Blk.new w 32 #[.int .i64 q.tos, .int .i64 q.id, .int .i64 q.ttl, .int .i64 q.proto, .bool q.df, .bool q.mf, .int .i64 q.off, .string q.src, .string q.dst, .string q.opt, .slice Aa N ca])
  have g0 : decide (65528 < q.off) = false := decide_eq_false hq
  have FC := Lib.hid (fun W => fits_any q Aa N ca m W (by have := hf.o; omega) (by omega) true (decide_eq_true (by omega)))
  have H0 := Lib.hid h
  have HH := Lib.hid hh
  have HF := Lib.hid hf
  have HBB := Lib.hid (And.intro hB hbs)
  have HZ := Lib.hid hz
  have HN := Lib.hid (And.intro hN hN2)
  clear hf h hh hq hm hB hbs hz hN hN2
  unfold val at FC ⊢
  go_enter Tryd.func40, Tryd.ntmps40
  go_wp2_with (first | (refine Store.at_load 32 (.tmp 5) ?_ ?_; exact rfl; refine Loads.wpList_load_w rfl 32 (.tmp 5) rfl w.heap.size rfl 32 _ (0, 0) _ (K0.out) Tryd.underlying32 rfl (by kernel_rfl) ?_))
  refine (FC.out _).mono ?_
  rintro e w1 ⟨rfl, hb⟩
  have B1 := Lib.hid (B0.out.trans (hb.mono B0.out.size))
  have K1 := Lib.hid (Blk.below K0.out hb (Blk.lt K0.out))
  clear hb B0 K0 FC
  have OC := Lib.hid (own_any q Aa N ca B l w1 (HH.out.below (B1.out.mono (Nat.le_trans HBB.out.1 HBB.out.2))) (Nat.le_trans (Nat.le_trans HBB.out.1 HBB.out.2) B1.out.size) (by have := HN.out.2; omega) HF.out.texts)
  unfold val at OC
  go_wp2_with (first | (refine Store.at_load 32 (.tmp 5) ?_ ?_; exact rfl; refine Loads.wpList_load_w rfl 32 (.tmp 5) rfl w.heap.size rfl 32 _ (0, 0) _ (K1.out) Tryd.underlying32 rfl (by kernel_rfl) ?_))
  refine OC.out.mono ?_
  rintro e w2 ⟨A', c', rfl, ho, hb⟩
  have B2 := Lib.hid (B1.out.trans (hb.mono B1.out.size))
  have O2 := Lib.hid ho
  have S1 := Lib.hid (Nat.le_trans HBB.out.2 B1.out.size)
  clear hb B1 K1 OC ho HH
  have hsz : base ≤ w2.heap.size := Nat.le_trans HBB.out.2 B2.out.size
  have XB := Lib.hid ((Below.refl w2.heap.size w2).alloc (Nat.le_refl _) (.cells #[.int .i64 q.tos, .int .i64 q.id, .int .i64 q.ttl, .int .i64 q.proto, .bool q.df, .bool q.mf, .int .i64 q.off, .string q.src, .string q.dst, .string q.opt, .slice A' N c'] 32))
  have P3 := (H0.out.below B2.out).below XB.out
  obtain ⟨A9, c9, w9, h1, h2, h3, h4⟩ := P3.push (x := (q, l)) (d := .slice A' N c') (Nat.le_trans hsz XB.out.size) (Blk.new w2 32 _) (by
    rw [HN.out.1]
    exact Owns.mono (Owns.below O2.out XB.out (Nat.le_refl _)) S1.out) (by have := HZ.out; omega)
  have R9 := Lib.hid h1
  have P9 := Lib.hid h2
  have Q9 := Lib.hid ((Keep.of (F := fun k => ¬ own A k) B2.out).trans ((Keep.of XB.out).trans h4))
  clear h1 h2 h3 h4 P3 XB O2 HF HN HZ
  go_wp2_with (at_builtin
               refine wpList_push rfl (.tmp 19) (.tmp 22) rfl (.slice A zs.length c) (.slice (some ⟨w2.heap.size, 0, none⟩) 1 1) (.slice A9 (zs.length + 1) c9) (w1 := w9) rfl rfl R9.out ?_)
  go_ret2
  exact ⟨⟨_, rfl, A9, c9, _, by rw [List.length_append]; rfl, by simp, P9.out⟩, Q9.out⟩
end Go.Proofs.YtnpggkpcadefjaaDoor.Spl6

/- The code's cut: where it calls itself. -/
set_option linter.unusedVariables false
set_option maxRecDepth 100000
namespace Go.Proofs.YtnpggkpcadefjaaDoor.Spl7
open Go.RowKit Go.Proofs.YtnpggkpcadefjaaDoor.Sums Go.Proofs.YtnpggkpcadefjaaDoor.Mem Go.Proofs.YtnpggkpcadefjaaDoor.Blk Go.Proofs.YtnpggkpcadefjaaDoor.Pkt Go.Proofs.YtnpggkpcadefjaaDoor.Check Go.Proofs.YtnpggkpcadefjaaDoor.Free Go.Proofs.YtnpggkpcadefjaaDoor.Steps Go.Proofs.YtnpggkpcadefjaaDoor.RowN Go.Proofs.YtnpggkpcadefjaaDoor.RowA Go.Proofs.YtnpggkpcadefjaaDoor.SplD Go.Proofs.YtnpggkpcadefjaaDoor.SplL Go.Proofs.YtnpggkpcadefjaaDoor.SplM Go.Proofs.YtnpggkpcadefjaaDoor.SplP Go.Proofs.YtnpggkpcadefjaaDoor.Spl1 Go.Proofs.YtnpggkpcadefjaaDoor.Spl2 Go.Proofs.YtnpggkpcadefjaaDoor.Spl3 Go.Proofs.YtnpggkpcadefjaaDoor.Spl5 Go.Proofs.YtnpggkpcadefjaaDoor.Spl6

def pkA (q : Pkt) (D : Value) : Array Value := (pcCells q D).toArray
theorem pk_one (q : Pkt) (A : Option Addr) (n c : Nat) : (pkA q (.slice A n c)).all (·.oneCell') = true := by simp [pkA, pcCells, Value.oneCell']
/-- Two boxes that are made and filled in any order. -/
structure Mid6 (W : World) (cs : Array Value) (L : Nat → Bool) (vals : Nat → Value) (V : World) : Prop where
  below : Below W.heap.size W V
  b2 : L 2 = true → ∃ g xs, vals 2 = .pointer (some ⟨g, 0, none⟩) ∧ W.heap.size ≤ g ∧ Blk V g 32 xs ∧ xs.size = 11 ∧ (L 4 = true → xs = cs)
  b3 : L 3 = true → ∃ g xs, vals 3 = .pointer (some ⟨g, 0, none⟩) ∧ W.heap.size ≤ g ∧ Blk V g 32 xs ∧ xs.size = 11
  ne : L 2 = true → L 3 = true → vals 2 ≠ vals 3
  c4 : L 4 = true → L 2 = true
theorem Mid6.pure {W V : World} {cs : Array Value} {L : Nat → Bool} {vals : Nat → Value} (h : Mid6 W cs L vals V) (i : Nat) (v : Value) (h2 : i ≠ 2) (h3 : i ≠ 3) (h4 : i ≠ 4) : Mid6 W cs (FreeJ.mark L i) (FreeJ.upd vals i v) V := by
  have e2 : FreeJ.mark L i 2 = L 2 := if_neg (fun e => h2 e.symm)
  have e3 : FreeJ.mark L i 3 = L 3 := if_neg (fun e => h3 e.symm)
  have e4 : FreeJ.mark L i 4 = L 4 := if_neg (fun e => h4 e.symm)
  have u2 : FreeJ.upd vals i v 2 = vals 2 := if_neg (fun e => h2 e.symm)
  have u3 : FreeJ.upd vals i v 3 = vals 3 := if_neg (fun e => h3 e.symm)
  exact ⟨h.below, by rw [e2, e4, u2]; exact h.b2, by rw [e3, u3]; exact h.b3, by rw [e2, e3, u2, u3]; exact h.ne, by rw [e2, e4]; exact h.c4⟩
theorem Mid6.two {W V : World} {cs : Array Value} {L : Nat → Bool} {vals : Nat → Value} (h : Mid6 W cs L vals V) (h2 : L 2 = false) (xs : Array Value) (hx : xs.size = 11) : Mid6 W cs (FreeJ.mark L 2) (FreeJ.upd vals 2 (.pointer (some ⟨V.heap.size, 0, none⟩))) (V.alloc (.cells xs 32)) := by
  have e3 : FreeJ.mark L 2 3 = L 3 := if_neg (by decide)
  have e4 : FreeJ.mark L 2 4 = L 4 := if_neg (by decide)
  have u2 : FreeJ.upd vals 2 (.pointer (some ⟨V.heap.size, 0, none⟩)) 2 = .pointer (some ⟨V.heap.size, 0, none⟩) := if_pos rfl
  have u3 : FreeJ.upd vals 2 (.pointer (some ⟨V.heap.size, 0, none⟩)) 3 = vals 3 := if_neg (by decide)
  have h4 : L 4 = false := by
    cases z : L 4 with
    | false => rfl
    | true => rw [h.c4 z] at h2; cases h2
  refine ⟨h.below.alloc h.below.size _, fun _ => ⟨_, xs, u2, h.below.size, Blk.new _ _ _, hx, fun e => ?_⟩, fun e => ?_, fun _ e => ?_, fun _ => if_pos rfl⟩
  · rw [e4, h4] at e
    cases e
  · rw [e3] at e
    obtain ⟨g, ys, a, b, c, d⟩ := h.b3 e
    exact ⟨g, ys, by rw [u3]; exact a, b, c.alloc _, d⟩
  · rw [e3] at e
    obtain ⟨g, ys, a, b, c, d⟩ := h.b3 e
    rw [u2, u3, a]
    intro z
    injection z with z
    injection z with z
    injection z with z
    have := c.lt
    omega
theorem Mid6.three {W V : World} {cs : Array Value} {L : Nat → Bool} {vals : Nat → Value} (h : Mid6 W cs L vals V) (xs : Array Value) (hx : xs.size = 11) : Mid6 W cs (FreeJ.mark L 3) (FreeJ.upd vals 3 (.pointer (some ⟨V.heap.size, 0, none⟩))) (V.alloc (.cells xs 32)) := by
  have e2 : FreeJ.mark L 3 2 = L 2 := if_neg (by decide)
  have e4 : FreeJ.mark L 3 4 = L 4 := if_neg (by decide)
  have u3 : FreeJ.upd vals 3 (.pointer (some ⟨V.heap.size, 0, none⟩)) 3 = .pointer (some ⟨V.heap.size, 0, none⟩) := if_pos rfl
  have u2 : FreeJ.upd vals 3 (.pointer (some ⟨V.heap.size, 0, none⟩)) 2 = vals 2 := if_neg (by decide)
  refine ⟨h.below.alloc h.below.size _, fun e => ?_, fun _ => ⟨_, xs, u3, h.below.size, Blk.new _ _ _, hx⟩, fun e _ => ?_, fun e => by rw [e4] at e; rw [e2]; exact h.c4 e⟩
  · rw [e2] at e
    obtain ⟨g, ys, a, b, c, d, f⟩ := h.b2 e
    exact ⟨g, ys, by rw [u2]; exact a, b, c.alloc _, d, by rw [e4]; exact f⟩
  · rw [e2] at e
    obtain ⟨g, ys, a, b, c, d, f⟩ := h.b2 e
    rw [u2, u3, a]
    intro z
    injection z with z
    injection z with z
    injection z with z
    have := c.lt
    omega
theorem Mid6.four {W V : World} {cs : Array Value} {L : Nat → Bool} {vals : Nat → Value} (h : Mid6 W cs L vals V) (h2 : L 2 = true) (h3 : L 3 = true) (v : Value) {g : Nat} (hg : vals 2 = .pointer (some ⟨g, 0, none⟩)) (hcs : cs.size = 11) : Mid6 W cs (FreeJ.mark L 4) (FreeJ.upd vals 4 v) (V.setRow g cs) := by
  have e2 : FreeJ.mark L 4 2 = L 2 := if_neg (by decide)
  have e3 : FreeJ.mark L 4 3 = L 3 := if_neg (by decide)
  have u2 : FreeJ.upd vals 4 v 2 = vals 2 := if_neg (by decide)
  have u3 : FreeJ.upd vals 4 v 3 = vals 3 := if_neg (by decide)
  obtain ⟨g', ys, a, b, c, d, f⟩ := h.b2 h2
  obtain rfl : g = g' := by
    rw [a] at hg
    injection hg with z
    injection z with z
    injection z with z
    exact z.symm
  refine ⟨Com.setRow_bel h.below b _, fun _ => ⟨g, cs, by rw [u2]; exact a, b, setRow_heap _ _ _ _ _ _ c, hcs, fun _ => rfl⟩, fun e => ?_, by rw [e2, e3, u2, u3]; exact h.ne, fun _ => by rw [e2]; exact h2⟩
  obtain ⟨g3, zs, a3, b3, c3, d3⟩ := h.b3 h3
  refine ⟨g3, zs, by rw [u3]; exact a3, b3, (setRow_other _ g g3 _ fun z => ?_).trans c3, d3⟩
  exact h.ne h2 h3 (by rw [a, a3, z])
theorem alloc_z (w : World) : (Instr.alloc 32 true (.tuple #[])).run Tryd.prog w = .ok (.pointer (some ⟨w.heap.size, 0, none⟩)) (w.alloc (.cells #[.int .i64 0, .int .i64 0, .int .i64 0, .int .i64 0, .bool false, .bool false, .int .i64 0, .string ⟨#[]⟩, .string ⟨#[]⟩, .string ⟨#[]⟩, .slice none 0 0] 32)) := by kernel_rfl
theorem st_alloc {o : Oper} {a : Act} {w : World} {K : Act → World → Prop} {Q : Exit → Act → World → Prop} (ty : TypeId) (ho : o.op = .alloc ty) (Z : Array Value) (hr : ∀ w, (Instr.alloc ty true (.tuple #[])).run Tryd.prog w = .ok (.pointer (some ⟨w.heap.size, 0, none⟩)) (w.alloc (.cells Z ty)))
    (hK : K (a.put o.dst (.pointer (some ⟨w.heap.size, 0, none⟩))) (w.alloc (.cells Z ty))) : Step Tryd.prog o a w K Q := by
  have h : (execOp a.eval o).run Tryd.prog w = .ok (.value (.pointer (some ⟨w.heap.size, 0, none⟩))) (w.alloc (.cells Z ty)) := by
    simp [execOp, ho, hr w, Result.andThen]
  constructor
  unfold Oper.wp
  rw [h]
  exact hK
/-- The two boxes: what is stored into them, one by one. -/
theorem fill_two {W : World} {g0 g1 g2 : Nat} {q : Pkt} {D0 D1 D2 : Value} {lat : ByteArray} {off2 : Int} (K0 : Blk W g0 32 (pkA q D0)) (K1 : Blk W g1 32 (pkA q D0)) (K2 : Blk W g2 32 (pkA q D0)) (n1 : g0 ≠ g1) (n2 : g0 ≠ g2) (ne : g1 ≠ g2) (d1 : D1.oneCell' = true) (c1 : D1.cells = #[D1]) (d2 : D2.oneCell' = true) (c2 : D2.cells = #[D2]) :
    ∃ w7 w8 w9 w10 w11, (storeVar 4 ⟨g1, 5, none⟩ (.bool true)).run Tryd.prog W = .ok () w7 ∧ w7.cell? ⟨g0, 10, none⟩ = some D0 ∧ (storeVar 30 ⟨g1, 10, none⟩ D1).run Tryd.prog w7 = .ok () w8 ∧ (storeVar 9 ⟨g2, 9, none⟩ (.string lat)).run Tryd.prog w8 = .ok () w9 ∧ w9.cell? ⟨g2, 6, none⟩ = some (.int .i64 q.off) ∧
      (storeVar 3 ⟨g2, 6, none⟩ (.int .i64 off2)).run Tryd.prog w9 = .ok () w10 ∧ w10.cell? ⟨g0, 10, none⟩ = some D0 ∧ (storeVar 30 ⟨g2, 10, none⟩ D2).run Tryd.prog w10 = .ok () w11 ∧ Blk w11 g1 32 (pkA { q with mf := true } D1) ∧ Blk w11 g2 32 (pkA { q with off := off2, opt := lat } D2) ∧ Keep (fun k => k ≠ g1 ∧ k ≠ g2) W w11 := by
  have a1 := setRow_heap W g1 _ (pkA { q with mf := true } D0) _ _ K1
  have a2 : Blk (W.setRow g1 (pkA { q with mf := true } D0)) g1 32 (pkA { q with mf := true } D0) := a1
  have b1 : Blk ((W.setRow g1 (pkA { q with mf := true } D0)).setRow g1 (pkA { q with mf := true } D1)) g1 32 (pkA { q with mf := true } D1) := setRow_heap _ g1 _ _ _ _ a2
  have z2 : Blk ((W.setRow g1 (pkA { q with mf := true } D0)).setRow g1 (pkA { q with mf := true } D1)) g2 32 (pkA q D0) := (setRow_other _ g1 g2 _ (Ne.symm ne)).trans ((setRow_other _ g1 g2 _ (Ne.symm ne)).trans K2)
  have z0 : Blk (W.setRow g1 (pkA { q with mf := true } D0)) g0 32 (pkA q D0) := (setRow_other _ g1 g0 _ n1).trans K0
  have z1 : Blk ((W.setRow g1 (pkA { q with mf := true } D0)).setRow g1 (pkA { q with mf := true } D1)) g0 32 (pkA q D0) := (setRow_other _ g1 g0 _ n1).trans z0
  have k8 : Keep (fun k => k ≠ g1 ∧ k ≠ g2) W ((W.setRow g1 (pkA { q with mf := true } D0)).setRow g1 (pkA { q with mf := true } D1)) := (Keep.row _ _ _ (fun z => z.1 rfl)).trans (Keep.row _ _ _ (fun z => z.1 rfl))
  have r7 : (storeVar 4 ⟨g1, 5, none⟩ (.bool true)).run Tryd.prog W = .ok () (W.setRow g1 (pkA { q with mf := true } D0)) := Store.run_store_one K1 (by simp [pkA, pcCells]) (by kernel_rfl) rfl _ rfl rfl
  have r8 : (storeVar 30 ⟨g1, 10, none⟩ D1).run Tryd.prog (W.setRow g1 (pkA { q with mf := true } D0)) = .ok () ((W.setRow g1 (pkA { q with mf := true } D0)).setRow g1 (pkA { q with mf := true } D1)) := Store.run_store_one a2 (by simp [pkA, pcCells]) (by kernel_rfl) d1 _ rfl c1
  generalize (W.setRow g1 (pkA { q with mf := true } D0)).setRow g1 (pkA { q with mf := true } D1) = w8 at *
  have y1 : Blk (w8.setRow g2 (pkA { q with opt := lat } D0)) g2 32 (pkA { q with opt := lat } D0) := setRow_heap _ g2 _ _ _ _ z2
  have y2 : Blk ((w8.setRow g2 (pkA { q with opt := lat } D0)).setRow g2 (pkA { q with off := off2, opt := lat } D0)) g2 32 (pkA { q with off := off2, opt := lat } D0) := setRow_heap _ g2 _ _ _ _ y1
  have y3 : Blk (((w8.setRow g2 (pkA { q with opt := lat } D0)).setRow g2 (pkA { q with off := off2, opt := lat } D0)).setRow g2 (pkA { q with off := off2, opt := lat } D2)) g2 32 (pkA { q with off := off2, opt := lat } D2) := setRow_heap _ g2 _ _ _ _ y2
  have x1 : Blk ((w8.setRow g2 (pkA { q with opt := lat } D0)).setRow g2 (pkA { q with off := off2, opt := lat } D0)) g0 32 (pkA q D0) := (setRow_other _ g2 g0 _ n2).trans ((setRow_other _ g2 g0 _ n2).trans z1)
  refine ⟨_, w8, w8.setRow g2 (pkA { q with opt := lat } D0), (w8.setRow g2 (pkA { q with opt := lat } D0)).setRow g2 (pkA { q with off := off2, opt := lat } D0), ((w8.setRow g2 (pkA { q with opt := lat } D0)).setRow g2 (pkA { q with off := off2, opt := lat } D0)).setRow g2 (pkA { q with off := off2, opt := lat } D2), r7, z0.cell 10, r8,
    Store.run_store_one z2 (by simp [pkA, pcCells]) (by kernel_rfl) rfl _ rfl rfl, y1.cell 6, Store.run_store_one y1 (by simp [pkA, pcCells]) (by kernel_rfl) rfl _ rfl rfl, x1.cell 10, Store.run_store_one y2 (by simp [pkA, pcCells]) (by kernel_rfl) d2 _ rfl c2, ?_, y3, ?_⟩
  · exact (setRow_other _ g2 g1 _ ne).trans ((setRow_other _ g2 g1 _ ne).trans ((setRow_other _ g2 g1 _ ne).trans b1))
  · exact k8.trans ((Keep.row _ _ _ (fun z => z.2 rfl)).trans ((Keep.row _ _ _ (fun z => z.2 rfl)).trans (Keep.row _ _ _ (fun z => z.2 rfl))))
/-- One piece is being put behind the others. -/
structure Mid12 (base : Nat) (W : World) (A : Option Addr) (c : Nat) (zs : List Pc) (x : Pkt × List Int) (L : Nat → Bool) (vals : Nat → Value) (V : World) : Prop where
  keep : Keep (fun k => ¬ own A k) W V
  c3 : L 3 = true → L 2 = true
  c4 : L 4 = true → L 3 = true
  r0 : L 4 = false → PRow base V A c zs
  r2 : L 2 = true → L 3 = false → ∃ d, vals 2 = val x.1 d ∧ Owns V base d x.2.length x.2
  r3 : L 3 = true → L 4 = false → ∃ vb d, vals 3 = .slice (some ⟨vb, 0, none⟩) 1 1 ∧ Blk V vb 32 (pcCells x.1 d).toArray ∧ Owns V base d x.2.length x.2
  r4 : L 4 = true → ∃ A' c' zs', vals 4 = .slice A' zs'.length c' ∧ zs'.map (·.1) = zs.map (·.1) ++ [x] ∧ zs'.length = zs.length + 1 ∧ PRow base V A' c' zs' ∧ ∀ k, own A' k → own A k ∨ W.heap.size ≤ k
section
variable {base : Nat} {W V V' : World} {A : Option Addr} {c : Nat} {zs : List Pc} {x : Pkt × List Int} {L : Nat → Bool} {vals : Nat → Value}
theorem Mid12.start (h : PRow base W A c zs) (hL : ∀ j, j = 2 ∨ j = 3 ∨ j = 4 → L j = false) : Mid12 base W A c zs x L vals W.drew :=
  ⟨(Keep.refl _ _).drew, fun e => (by rw [hL 3 (by simp)] at e; cases e), fun e => (by rw [hL 4 (by simp)] at e; cases e), fun _ => h.drew, fun e => (by rw [hL 2 (by simp)] at e; cases e), fun e => (by rw [hL 3 (by simp)] at e; cases e), fun e => (by rw [hL 4 (by simp)] at e; cases e)⟩
theorem Mid12.pure (h : Mid12 base W A c zs x L vals V) (i : Nat) (v : Value) (h2 : i ≠ 2) (h3 : i ≠ 3) (h4 : i ≠ 4) : Mid12 base W A c zs x (FreeJ.mark L i) (FreeJ.upd vals i v) V := by
  have e2 : FreeJ.mark L i 2 = L 2 := if_neg (fun e => h2 e.symm)
  have e3 : FreeJ.mark L i 3 = L 3 := if_neg (fun e => h3 e.symm)
  have e4 : FreeJ.mark L i 4 = L 4 := if_neg (fun e => h4 e.symm)
  have u2 : FreeJ.upd vals i v 2 = vals 2 := if_neg (fun e => h2 e.symm)
  have u3 : FreeJ.upd vals i v 3 = vals 3 := if_neg (fun e => h3 e.symm)
  have u4 : FreeJ.upd vals i v 4 = vals 4 := if_neg (fun e => h4 e.symm)
  exact ⟨h.keep, by rw [e2, e3]; exact h.c3, by rw [e3, e4]; exact h.c4, by rw [e4]; exact h.r0, by rw [e2, e3, u2]; exact h.r2, by rw [e3, e4, u3]; exact h.r3, by rw [e4, u4]; exact h.r4⟩
theorem not_true {b : Bool} (h : b = true → False) : b = false := by cases b with
  | false => rfl
  | true => exact (h rfl).elim
theorem Mid12.two (h : Mid12 base W A c zs x L vals V) (hL : L 2 = false) (hb : Below V.heap.size V V') {v d : Value} (hv : v = val x.1 d) (ho : Owns V' base d x.2.length x.2) : Mid12 base W A c zs x (FreeJ.mark L 2) (FreeJ.upd vals 2 v) V' := by
  have l3 : L 3 = false := not_true fun e => by rw [h.c3 e] at hL; cases hL
  have l4 : L 4 = false := not_true fun e => by rw [h.c4 e] at l3; cases l3
  have e2 : FreeJ.mark L 2 2 = true := if_pos rfl
  have e3 : FreeJ.mark L 2 3 = L 3 := if_neg (by decide)
  have e4 : FreeJ.mark L 2 4 = L 4 := if_neg (by decide)
  have u2 : FreeJ.upd vals 2 v 2 = v := if_pos rfl
  exact ⟨h.keep.trans (Keep.of hb), fun _ => e2, by rw [e3, e4]; exact h.c4, fun _ => (h.r0 l4).below hb, fun _ _ => ⟨d, by rw [u2]; exact hv, ho⟩, fun e => (by rw [e3, l3] at e; cases e), fun e => (by rw [e4, l4] at e; cases e)⟩
theorem Mid12.three (h : Mid12 base W A c zs x L vals V) (hL : L 3 = false) (hL2 : L 2 = true) {d : Value} (hd : Owns V base d x.2.length x.2) : Mid12 base W A c zs x (FreeJ.mark L 3) (FreeJ.upd vals 3 (.slice (some ⟨V.heap.size, 0, none⟩) 1 1)) (V.alloc (.cells (pcCells x.1 d).toArray 32)) := by
  have l4 : L 4 = false := not_true fun e => by rw [h.c4 e] at hL; cases hL
  have e2 : FreeJ.mark L 3 2 = L 2 := if_neg (by decide)
  have e3 : FreeJ.mark L 3 3 = true := if_pos rfl
  have e4 : FreeJ.mark L 3 4 = L 4 := if_neg (by decide)
  have u3 : FreeJ.upd vals 3 (.slice (some ⟨V.heap.size, 0, none⟩) 1 1) 3 = .slice (some ⟨V.heap.size, 0, none⟩) 1 1 := if_pos rfl
  have hb := (Below.refl V.heap.size V).alloc (Nat.le_refl _) (.cells (pcCells x.1 d).toArray 32)
  exact ⟨h.keep.trans (Keep.of hb), fun _ => by rw [e2]; exact hL2, fun _ => e3, fun _ => (h.r0 l4).below hb, fun _ e => (by rw [e3] at e; cases e), fun _ _ => ⟨_, d, u3, Blk.new _ _ _, hd.below hb (Nat.le_refl _)⟩, fun e => (by rw [e4, l4] at e; cases e)⟩
theorem Mid12.four (h : Mid12 base W A c zs x L vals V) (hL3 : L 3 = true) {A' : Option Addr} {c' : Nat} {d : Value} (hp : PRow base V' A' c' (zs ++ [(x, d)])) (ho : ∀ k, own A' k → own A k ∨ V.heap.size ≤ k) (hk : Keep (fun k => ¬ own A k) V V') : Mid12 base W A c zs x (FreeJ.mark L 4) (FreeJ.upd vals 4 (.slice A' (zs.length + 1) c')) V' := by
  have e2 : FreeJ.mark L 4 2 = L 2 := if_neg (by decide)
  have e3 : FreeJ.mark L 4 3 = L 3 := if_neg (by decide)
  have e4 : FreeJ.mark L 4 4 = true := if_pos rfl
  have u4 : FreeJ.upd vals 4 (.slice A' (zs.length + 1) c') 4 = .slice A' (zs.length + 1) c' := if_pos rfl
  refine ⟨h.keep.trans hk, by rw [e2, e3]; exact h.c3, fun _ => by rw [e3]; exact hL3, fun e => (by rw [e4] at e; cases e), fun _ e => (by rw [e3, hL3] at e; cases e), fun _ e => (by rw [e4] at e; cases e), fun _ => ⟨A', c', zs ++ [(x, d)], by rw [u4, List.length_append]; rfl, by simp, by simp, hp, fun k hk' => ?_⟩⟩
  rcases ho k hk' with q | q
  · exact .inl q
  · exact .inr (Nat.le_trans h.keep.size q)
end
/-- One after the other, where the second spares all that is old. -/
theorem keep_join {F G : Nat → Prop} {w w' w'' : World} (h : Keep F w w') (k : Keep G w' w'') (hG : ∀ j, j < w.heap.size → F j → G j) : Keep F w w'' := ⟨k.os.trans h.os, k.tape.trans h.tape, k.output.trans h.output, Nat.le_trans h.size k.size, fun j hF hj => (k.block j (hG j hj hF) (Nat.lt_of_lt_of_le hj h.size)).trans (h.block j hF hj)⟩
theorem ent_own : Enters Tryd.prog 38 := enters_of Tryd.func38 (by kernel_rfl) rfl
theorem ent_cut : Enters Tryd.prog 40 := enters_of Tryd.func40 (by kernel_rfl) rfl
theorem list4 {f : Operand → Value} {x y z u : Operand} {a b c d : Value} (h1 : f x = a) (h2 : f y = b) (h3 : f z = c) (h4 : f u = d) : [x, y, z, u].map f = [a, b, c, d] := by simp [h1, h2, h3, h4]
theorem st_one {o : Oper} {a : Act} {w : World} {K : Act → World → Prop} {Q : Exit → Act → World → Prop} (x : Operand) (ho : o.op = .buildSlice 36 1 #[(0, x)]) (q : Pkt) (A : Option Addr) (n c : Nat) (hx : a.eval x = val q (.slice A n c)) (hK : K (a.put o.dst (.slice (some ⟨w.heap.size, 0, none⟩) 1 1)) (w.alloc (.cells (pcCells q (.slice A n c)).toArray 32))) : Step Tryd.prog o a w K Q := by
  have r : (Instr.buildSlice 36 1 #[(0, val q (.slice A n c))]).run Tryd.prog w = .ok (.slice (some ⟨w.heap.size, 0, none⟩) 1 1) (w.alloc (.cells (pcCells q (.slice A n c)).toArray 32)) := by kernel_rfl
  constructor
  have hr : (execOp a.eval o).run Tryd.prog w = .ok (.value (.slice (some ⟨w.heap.size, 0, none⟩) 1 1)) (w.alloc (.cells (pcCells q (.slice A n c)).toArray 32)) := by
    simp [execOp, ho, hx, r, Result.andThen]
  unfold Oper.wp
  rw [hr]
  exact hK
theorem st_append {o : Oper} {a : Act} {w w1 : World} {K : Act → World → Prop} {Q : Exit → Act → World → Prop} (x y : Operand) (ho : o.op = .call { callee := .builtin .append, args := #[x, y], argTypes := #[36, 36] }) (v u r : Value) (hx : a.eval x = v) (hy : a.eval y = u)
    (hr : ∀ ty, (Builtin.append_ #[36, 36] ty #[v, u]).run Tryd.prog w = .ok r w1) (hK : K (a.put o.dst r) w1) : Step Tryd.prog o a w K Q := by
  constructor
  unfold Oper.wp
  simp [execOp, ho, resolve, invoke, hx, hy, builtin, hr, Result.andThen]
  exact hK
theorem st_extract {o : Oper} {a : Act} {w : World} {K : Act → World → Prop} {Q : Exit → Act → World → Prop} (x : Operand) (i : Nat) (ho : o.op = .extract x i) (vs : Array Value) (v : Value) (hx : a.eval x = .tuple vs) (hv : vs[i]? = some v) (hK : K (a.put o.dst v) w) : Step Tryd.prog o a w K Q :=
  wp_value v (by simp [execOp, ho, hx, Instr.extract, hv]) hK
/-- Two are ready. -/
theorem wpAnyH_two {P : Program} {ops : Array Oper} {md : Region.Mode} {Q : Exit → Act → World → Prop} {S : World → Prop} {fuel : Nat} {listed : Array Bool} {a : Act} {w : World} (u1 u2 : Nat) (o1 o2 : Oper) (h1 : ops.toList[u1]? = some o1) (h2 : ops.toList[u2]? = some o2) (g1 : o1.guard = none) (g2 : o2.guard = none) (hr : decide (Region.ready md ops listed = [u1, u2]) = true)
    (s1 : Step P o1 a w (fun a' w' => S w' ∧ wpAnyH P md ops Q S fuel (listed.setIfInBounds u1 true) a' w') Q) (s2 : Step P o2 a w (fun a' w' => S w' ∧ wpAnyH P md ops Q S fuel (listed.setIfInBounds u2 true) a' w') Q) : wpAnyH P md ops Q S (fuel + 1) listed a w := by
  have e1 : ops[u1]? = some o1 := by rw [← Array.getElem?_toList]; exact h1
  have e2 : ops[u2]? = some o2 := by rw [← Array.getElem?_toList]; exact h2
  refine wpAnyH_ready (of_decide_eq_true hr) (by simp) (AllReadyH.cons e1 (fun K hK => ?_) (AllReadyH.cons e2 (fun K hK => ?_) AllReadyH.nil))
  · have hw : Region.wanted o1 (yielded ops a.tmps) = true := by simp [Region.wanted, g1]
    rw [if_pos hw]
    exact Oper.wp_mono (fun a' w' hh => hK.out _ _ hh.1 fun _ => hh.2) s1.out
  · have hw : Region.wanted o2 (yielded ops a.tmps) = true := by simp [Region.wanted, g2]
    rw [if_pos hw]
    exact Oper.wp_mono (fun a' w' hh => hK.out _ _ hh.1 fun _ => hh.2) s2.out
theorem ans_cons {base : Nat} {w : World} {ps : List (Pkt × List Int)} {x : Pkt × List Int} {r : Option (List (Pkt × List Int))} {v : Value} (h : CutAns base w (ps ++ [x]) r v) : CutAns base w ps (r.map (x :: ·)) v := by
  cases r with
  | none => exact h
  | some xs =>
    obtain ⟨A, c, zs, h1, h2, h3⟩ := h
    exact ⟨A, c, zs, h1, by rw [h2, List.append_assoc]; rfl, h3⟩
theorem ans_two {base : Nat} {w : World} {ps : List (Pkt × List Int)} {r : Option (List (Pkt × List Int))} {v : Value} (h : CutAns base w ps r v) : ∃ v0 v1, v = .tuple #[v0, v1] := by
  cases r with
  | none => exact ⟨_, _, h⟩
  | some xs =>
    obtain ⟨A, c, zs, h1, h2, h3⟩ := h
    exact ⟨_, _, h1⟩
end Go.Proofs.YtnpggkpcadefjaaDoor.Spl7

/- The code's cut: the walk where it calls itself. -/
set_option linter.unusedVariables false
set_option maxRecDepth 100000
namespace Go.Proofs.YtnpggkpcadefjaaDoor.Spl8
open Go.RowKit Go.Proofs.YtnpggkpcadefjaaDoor.Sums Go.Proofs.YtnpggkpcadefjaaDoor.Mem Go.Proofs.YtnpggkpcadefjaaDoor.Blk Go.Proofs.YtnpggkpcadefjaaDoor.Pkt Go.Proofs.YtnpggkpcadefjaaDoor.Check Go.Proofs.YtnpggkpcadefjaaDoor.Free Go.Proofs.YtnpggkpcadefjaaDoor.Steps Go.Proofs.YtnpggkpcadefjaaDoor.RowN Go.Proofs.YtnpggkpcadefjaaDoor.RowA Go.Proofs.YtnpggkpcadefjaaDoor.SplD Go.Proofs.YtnpggkpcadefjaaDoor.SplL Go.Proofs.YtnpggkpcadefjaaDoor.SplM Go.Proofs.YtnpggkpcadefjaaDoor.SplP Go.Proofs.YtnpggkpcadefjaaDoor.Spl1 Go.Proofs.YtnpggkpcadefjaaDoor.Spl2 Go.Proofs.YtnpggkpcadefjaaDoor.Spl3 Go.Proofs.YtnpggkpcadefjaaDoor.Spl5 Go.Proofs.YtnpggkpcadefjaaDoor.Spl6 Go.Proofs.YtnpggkpcadefjaaDoor.Spl7

set_option maxHeartbeats 2000000 in
theorem cut_more (lat : ByteArray) (m f : Nat) (IH : CutSpec lat m f) (hmb : m ≤ 9223372036854775807) (q : Pkt) (l : List Int) (base B : Nat) (w : World) (A : Option Addr) (c : Nat) (zs : List Pc) (Aa : Option Addr) (N ca k : Nat) (hf : Fits q lat) (hN : l.length = N) (hN2 : N ≤ 65535) (hlt : N < 8 * (f + 1)) (hz : zs.length + (f + 1) ≤ 100000) (hB : B ≤ base) (hbs : base ≤ w.heap.size) (h : PRow base w A c zs) (hh : Holds w B Aa N ca l) (hq : ¬ 65528 < q.off) (h68 : 68 ≤ m) (hm : ¬ 20 + q.opt.size + N ≤ m) (hk : (m - (20 + q.opt.size)) / 8 * 8 = k) :
    Calls Tryd.prog 40 #[.slice A zs.length c, val q (.slice Aa N ca), .string lat, .int .i64 (m : Int)] w fun e w' => (∃ v, e = .returned v ∧ CutAns base w' (zs.map (·.1)) ((cutsP lat m f { q with off := q.off + (k : Int), opt := lat } (l.drop k)).map (({ q with mf := true }, l.take k) :: ·)) v) ∧ Keep (fun k => ¬ own A k) w w' := by
  have q40 := hf.o
  have k8 : 8 ≤ k := by omega
  have kN : k < N := by omega
  have km : k ≤ 65535 := by omega
  have hca := hh.2.1
  obtain ⟨b, o, rfl, hd⟩ := hh.from_ kN
  have HU := Lib.hid (hh.upto (Nat.le_of_lt kN))
  have HD := Lib.hid hd
  have B0 := Lib.hid ((Below.refl w.heap.size w).alloc (Nat.le_refl _) (.cells #[.int .i64 q.tos, .int .i64 q.id, .int .i64 q.ttl, .int .i64 q.proto, .bool q.df, .bool q.mf, .int .i64 q.off, .string q.src, .string q.dst, .string q.opt, .slice (some ⟨b, o, none⟩) N ca] 32))
  have K0 := Lib.hid (Blk.new w 32 #[.int .i64 q.tos, .int .i64 q.id, .int .i64 q.ttl, .int .i64 q.proto, .bool q.df, .bool q.mf, .int .i64 q.off, .string q.src, .string q.dst, .string q.opt, .slice (some ⟨b, o, none⟩) N ca])
  have g0 : decide (65528 < q.off) = false := decide_eq_false hq
  have FC := Lib.hid (fun W => fits_any q (some ⟨b, o, none⟩) N ca m W (by omega) (by omega) false (decide_eq_false (by omega)))
  have HC := Lib.hid (fun D W => header_any q D W (show q.opt.size ≤ 1048576 by omega))
  have H0 := Lib.hid h
  have HF := Lib.hid hf
  have HQ : Hid (q.off + (k : Int) ≤ 200000) := Lib.hid (by omega)
  have HBB := Lib.hid (And.intro hB hbs)
  obtain ⟨r, hr⟩ : ∃ r, m - (20 + q.opt.size) = r := ⟨_, rfl⟩
  obtain ⟨q8, hq8⟩ : ∃ q8, q8 = r / 8 := ⟨_, rfl⟩
  have f1 : IntKind.i64.wrap ((m : Int) - (20 + (q.opt.size : Int))) = ((r : Nat) : Int) := by rw [IntWalk.i64_in _ (by omega)]; omega
  have f2 : ((r : Nat) : Int) / 8 = ((q8 : Nat) : Int) := by omega
  have f2b : IntKind.i64.wrap ((q8 : Nat) : Int) = ((q8 : Nat) : Int) := IntWalk.i64_in _ (by omega)
  have f3 : IntKind.i64.wrap (((q8 : Nat) : Int) * 8) = ((k : Nat) : Int) := by rw [IntWalk.i64_in _ (by omega)]; omega
  have RR := Lib.hid (And.intro hr hq8)
  have HNN := Lib.hid (And.intro hN hN2)
  have HLT := Lib.hid hlt
  have HZ := Lib.hid hz
  have HK := Lib.hid hk
  clear hf h hh hd hq hm hB hbs hN hk hr hq8 hlt hz hN2
  unfold val at FC HC ⊢
  go_enter Tryd.func40, Tryd.ntmps40
  go_wp2_with (first | (refine Store.at_load 32 (.tmp 5) ?_ ?_; exact rfl; refine Loads.wpList_load_w rfl 32 (.tmp 5) rfl w.heap.size rfl 32 _ (0, 0) _ (K0.out) Tryd.underlying32 rfl (by kernel_rfl) ?_))
  refine (FC.out _).mono ?_
  rintro e w1 ⟨rfl, hb⟩
  have B1 := Lib.hid (B0.out.trans (hb.mono B0.out.size))
  have K1 := Lib.hid (Blk.below K0.out hb (Blk.lt K0.out))
  clear hb B0 K0 FC
  go_wp2_with (first | (refine Store.at_load 32 (.tmp 5) ?_ ?_; exact rfl; refine Loads.wpList_load_w rfl 32 (.tmp 5) rfl w.heap.size rfl 32 _ (0, 0) _ (K1.out) Tryd.underlying32 rfl (by kernel_rfl) ?_))
  refine (HC.out _ _).mono ?_
  rintro e w2 ⟨rfl, hb⟩
  have B2 := Lib.hid (B1.out.trans (hb.mono B1.out.size))
  have K2 := Lib.hid (Blk.below K1.out hb (Blk.lt K1.out))
  clear hb B1 K1 HC
  go_wp2_with fail
  clear f1 f2 f2b f3
  have X : Hid (∀ V, Below w2.drew.heap.size w2.drew V → V.heap[w.heap.size]? = some (.cells #[.int .i64 q.tos, .int .i64 q.id, .int .i64 q.ttl, .int .i64 q.proto, .bool q.df, .bool q.mf, .int .i64 q.off, .string q.src, .string q.dst, .string q.opt, .slice (some ⟨b, o, none⟩) N ca] 32 (0, 0))) := Lib.hid fun V hV => Blk.below (show Blk w2.drew w.heap.size 32 #[.int .i64 q.tos, .int .i64 q.id, .int .i64 q.ttl, .int .i64 q.proto, .bool q.df, .bool q.mf, .int .i64 q.off, .string q.src, .string q.dst, .string q.opt, .slice (some ⟨b, o, none⟩) N ca] from K2.out) hV (Blk.lt K2.out)
  have one : Hid ((#[.int .i64 q.tos, .int .i64 q.id, .int .i64 q.ttl, .int .i64 q.proto, .bool q.df, .bool q.mf, .int .i64 q.off, .string q.src, .string q.dst, .string q.opt, .slice (some ⟨b, o, none⟩) N ca] : Array Value).all (·.oneCell') = true) := Lib.hid (pk_one q _ N ca)
  refine FreeJ.wp_region_freeJ [0, 1, 2, 3, 4] 5 [] [] (fun L vals V => Mid6 w2.drew #[.int .i64 q.tos, .int .i64 q.id, .int .i64 q.ttl, .int .i64 q.proto, .bool q.df, .bool q.mf, .int .i64 q.off, .string q.src, .string q.dst, .string q.opt, .slice (some ⟨b, o, none⟩) N ca] L vals V) (fun k' v => match k' with
    | 0 => v = .agg #[.int .i64 q.tos, .int .i64 q.id, .int .i64 q.ttl, .int .i64 q.proto, .bool q.df, .bool q.mf, .int .i64 q.off, .string q.src, .string q.dst, .string q.opt, .slice (some ⟨b, o, none⟩) N ca]
    | 1 => v = .agg #[.int .i64 q.tos, .int .i64 q.id, .int .i64 q.ttl, .int .i64 q.proto, .bool q.df, .bool q.mf, .int .i64 q.off, .string q.src, .string q.dst, .string q.opt, .slice (some ⟨b, o, none⟩) N ca]
    | _ => True) (by kernel_rfl) (by kernel_rfl) (fun x hx => by cases hx) (fun L vals h0 => ⟨Below.refl _ _, fun e => (by rw [h0 2 (by simp)] at e; cases e), fun e => (by rw [h0 3 (by simp)] at e; cases e), fun e => (by rw [h0 2 (by simp)] at e; cases e), fun e => (by rw [h0 4 (by simp)] at e; cases e)⟩) (fun _ _ _ _ _ h => h) ?_ _ (by rfl) ?_
  · refine FreeJ.obsJ_cons (by rfl) (fun vals w' L hI hL hdep K hK => ?_) (FreeJ.obsJ_cons (by rfl) (fun vals w' L hI hL hdep K hK => ?_) (FreeJ.obsJ_cons (by rfl) (fun vals w' L hI hL hdep K hK => ?_) (FreeJ.obsJ_cons (by rfl) (fun vals w' L hI hL hdep K hK => ?_) (FreeJ.obsJ_cons (by rfl) (fun vals w' L hI hL hdep K hK => ?_) (FreeJ.obsJ_nil)))))
    · exact st_load_row 32 (.tmp 5) rfl w.heap.size (at_out _ (by kernel_rfl) rfl) 32 #[.int .i64 q.tos, .int .i64 q.id, .int .i64 q.ttl, .int .i64 q.proto, .bool q.df, .bool q.mf, .int .i64 q.off, .string q.src, .string q.dst, .string q.opt, .slice (some ⟨b, o, none⟩) N ca] (0, 0) _ (X.out w' hI.below) Tryd.underlying32 rfl (by kernel_rfl) (hK _ _ (hI.pure 0 _ (by decide) (by decide) (by decide)) rfl)
    · exact st_load_row 32 (.tmp 5) rfl w.heap.size (at_out _ (by kernel_rfl) rfl) 32 #[.int .i64 q.tos, .int .i64 q.id, .int .i64 q.ttl, .int .i64 q.proto, .bool q.df, .bool q.mf, .int .i64 q.off, .string q.src, .string q.dst, .string q.opt, .slice (some ⟨b, o, none⟩) N ca] (0, 0) _ (X.out w' hI.below) Tryd.underlying32 rfl (by kernel_rfl) (hK _ _ (hI.pure 1 _ (by decide) (by decide) (by decide)) rfl)
    · exact st_alloc 32 rfl _ alloc_z (hK _ _ (hI.two hL _ rfl) trivial)
    · exact st_alloc 32 rfl _ alloc_z (hK _ _ (hI.three _ rfl) trivial)
    · obtain ⟨g, xs, a, b', c', d', _⟩ := hI.b2 (hdep 2 (by simp) (by kernel_rfl)).1
      exact st_store_row 32 (.tmp 11) (.tmp 30) rfl g #[.int .i64 q.tos, .int .i64 q.id, .int .i64 q.ttl, .int .i64 q.proto, .bool q.df, .bool q.mf, .int .i64 q.off, .string q.src, .string q.dst, .string q.opt, .slice (some ⟨b, o, none⟩) N ca] ((at_dst 2 (by kernel_rfl)).trans a) ((at_dst 0 (by kernel_rfl)).trans (hdep 0 (by simp) (by kernel_rfl)).2) 32 xs c' (by kernel_rfl) d' one.out (hK _ _ (hI.four (hdep 2 (by simp) (by kernel_rfl)).1 (hdep 3 (by simp) (by kernel_rfl)).1 _ a rfl) trivial)
  · intro vals w' L hI hL hV
    obtain ⟨g1, xs, a1, b1, c1, d1, e1⟩ := hI.b2 (hL 2 (by simp))
    obtain rfl := e1 (hL 4 (by simp))
    obtain ⟨g2, ys, a2, b2, c2, d2⟩ := hI.b3 (hL 3 (by simp))
    refine st_store_row 32 (.tmp 12) (.tmp 31) rfl g2 #[.int .i64 q.tos, .int .i64 q.id, .int .i64 q.ttl, .int .i64 q.proto, .bool q.df, .bool q.mf, .int .i64 q.off, .string q.src, .string q.dst, .string q.opt, .slice (some ⟨b, o, none⟩) N ca] ((at_dst 3 (by kernel_rfl)).trans a2) ((at_dst 1 (by kernel_rfl)).trans (hV 1 (by simp))) 32 ys c2 (by kernel_rfl) d2 one.out (wpAnyH_done (by kernel_rfl) ?_ _)
    have ne : g1 ≠ g2 := fun z => hI.ne (hL 2 (by simp)) (hL 3 (by simp)) (by rw [a1, a2, z])
    have s0 : w.heap.size < w2.heap.size := Blk.lt K2.out
    have n1 : w.heap.size ≠ g1 := fun z => by have : w2.heap.size ≤ g1 := b1; omega
    have n2 : w.heap.size ≠ g2 := fun z => by have : w2.heap.size ≤ g2 := b2; omega
    have T2 : Blk (w'.setRow g2 #[.int .i64 q.tos, .int .i64 q.id, .int .i64 q.ttl, .int .i64 q.proto, .bool q.df, .bool q.mf, .int .i64 q.off, .string q.src, .string q.dst, .string q.opt, .slice (some ⟨b, o, none⟩) N ca]) g2 32 #[.int .i64 q.tos, .int .i64 q.id, .int .i64 q.ttl, .int .i64 q.proto, .bool q.df, .bool q.mf, .int .i64 q.off, .string q.src, .string q.dst, .string q.opt, .slice (some ⟨b, o, none⟩) N ca] := setRow_heap _ _ _ _ _ _ c2
    have T1 : Blk (w'.setRow g2 #[.int .i64 q.tos, .int .i64 q.id, .int .i64 q.ttl, .int .i64 q.proto, .bool q.df, .bool q.mf, .int .i64 q.off, .string q.src, .string q.dst, .string q.opt, .slice (some ⟨b, o, none⟩) N ca]) g1 32 #[.int .i64 q.tos, .int .i64 q.id, .int .i64 q.ttl, .int .i64 q.proto, .bool q.df, .bool q.mf, .int .i64 q.off, .string q.src, .string q.dst, .string q.opt, .slice (some ⟨b, o, none⟩) N ca] := (setRow_other _ g2 g1 _ ne).trans c1
    have T0 : Blk (w'.setRow g2 #[.int .i64 q.tos, .int .i64 q.id, .int .i64 q.ttl, .int .i64 q.proto, .bool q.df, .bool q.mf, .int .i64 q.off, .string q.src, .string q.dst, .string q.opt, .slice (some ⟨b, o, none⟩) N ca]) w.heap.size 32 #[.int .i64 q.tos, .int .i64 q.id, .int .i64 q.ttl, .int .i64 q.proto, .bool q.df, .bool q.mf, .int .i64 q.off, .string q.src, .string q.dst, .string q.opt, .slice (some ⟨b, o, none⟩) N ca] := (setRow_other _ g2 _ _ n2).trans (X.out w' hI.below)
    have B3 := Lib.hid (B2.out.trans (Below.mono ((below_drewN (Below.refl w2.heap.size w2) 1).trans (Com.setRow_bel hI.below b2 #[.int .i64 q.tos, .int .i64 q.id, .int .i64 q.ttl, .int .i64 q.proto, .bool q.df, .bool q.mf, .int .i64 q.off, .string q.src, .string q.dst, .string q.opt, .slice (some ⟨b, o, none⟩) N ca])) B2.out.size))
    have G1 := Lib.hid (show w2.heap.size ≤ g1 from b1)
    have G2 := Lib.hid (show w2.heap.size ≤ g2 from b2)
    simp only [fill, dstAt, List.getElem?_cons_zero, List.getElem?_cons_succ, Option.bind_some, Act.put, List.setIfInBounds_toArray, List.set_cons_zero, List.set_cons_succ]
    rw [a1, a2]
    generalize vals 0 = y0, vals 1 = y1 at *
    generalize w'.setRow g2 #[.int .i64 q.tos, .int .i64 q.id, .int .i64 q.ttl, .int .i64 q.proto, .bool q.df, .bool q.mf, .int .i64 q.off, .string q.src, .string q.dst, .string q.opt, .slice (some ⟨b, o, none⟩) N ca] = w3 at *
    obtain ⟨off2, hoff⟩ : ∃ off2, q.off + (k : Int) = off2 := ⟨_, rfl⟩
    have OF := Lib.hid hoff
    have f4 : IntKind.i64.wrap (q.off + (k : Int)) = off2 := by
      have := HF.out.f0
      have := HF.out.f1
      rw [IntWalk.i64_in _ (by omega)]
      exact hoff
    obtain ⟨w7, w8, w9, w10, w11, r7, e7, r8, r9, e9, r10, e10, r11, t1, t2, kp⟩ := fill_two (off2 := off2) (lat := lat) (D1 := .slice (some ⟨b, o, none⟩) k ca) (D2 := .slice (some ⟨b, o + k, none⟩) (N - k) (ca - k)) T0 T1 T2 n1 n2 ne rfl rfl rfl rfl
    have R7 := Lib.hid r7
    have R8 := Lib.hid r8
    have R9 := Lib.hid r9
    have R10 := Lib.hid r10
    have R11 := Lib.hid r11
    have U1 := Lib.hid t1
    have U2 := Lib.hid t2
    have KP := Lib.hid kp
    clear r7 r8 r9 r10 r11 t1 t2 kp T0 T1 T2 hI hL hV a1 a2 b1 b2 c1 c2 d1 d2 e1 X K2 hoff one
    have kN2 : (k : Int) ≤ (N : Int) := by omega
    have z1 : ca - k ≠ 0 := by omega
    have z2 : ca ≠ k := by omega
    have z3 : (ca : Int) - (k : Int) ≠ 0 := by omega
    have z4 : ((k : Int)).toNat = k := Int.toNat_natCast k
    have z5 : (k : Int) ≤ (ca : Int) := by omega
    have z6 : k ≤ ca := by omega
    go_wp2_with (first
      | (refine Store.at_store 4 (.tmp 32) (.const (.bool true)) ?_ ?_; exact rfl; refine wpList_store_run rfl 4 (.tmp 32) (.const (.bool true)) rfl ⟨g1, 5, none⟩ (.bool true) rfl rfl R7.out ?_)
      | (refine Store.at_store 30 (.tmp 37) (.tmp 36) ?_ ?_; exact rfl; refine wpList_store_run rfl 30 (.tmp 37) (.tmp 36) rfl ⟨g1, 10, none⟩ (.slice (some ⟨b, o, none⟩) k ca) rfl rfl R8.out ?_)
      | (refine Store.at_store 9 (.tmp 39) (.tmp 38) ?_ ?_; exact rfl; refine wpList_store_run rfl 9 (.tmp 39) (.tmp 38) rfl ⟨g2, 9, none⟩ (.string lat) rfl rfl R9.out ?_)
      | (refine Store.at_store 3 (.tmp 44) (.tmp 43) ?_ ?_; exact rfl; refine wpList_store_run rfl 3 (.tmp 44) (.tmp 43) rfl ⟨g2, 6, none⟩ (.int .i64 off2) rfl rfl R10.out ?_)
      | (refine Store.at_store 30 (.tmp 49) (.tmp 48) ?_ ?_; exact rfl; refine wpList_store_run rfl 30 (.tmp 49) (.tmp 48) rfl ⟨g2, 10, none⟩ (.slice (some ⟨b, o + k, none⟩) (N - k) (ca - k)) rfl rfl R11.out ?_))
    have B11 := Lib.hid (B3.out.trans (KP.out.below B3.out.size fun j hj => ⟨by have := G1.out; omega, by have := G2.out; omega⟩))
    have P11 := Lib.hid (H0.out.below B11.out)
    have NA : Hid (∀ g, w.heap.size ≤ g → ¬ own A g) := Lib.hid fun g hg z => by
      have := H0.out.row.row.lt z
      omega
    have BE : Hid (∀ V, Keep (fun k => ¬ own A k) w11 V → Below base w V) := Lib.hid fun V hV => (B11.out.mono HBB.out.2).trans (hV.below (Nat.le_trans HBB.out.2 B11.out.size) fun j hj z => by
      have := H0.out.own j z
      omega)
    have X1 : Hid (∀ V, Keep (fun k => ¬ own A k) w11 V → V.heap[g1]? = some (.cells (pkA { q with mf := true } (.slice (some ⟨b, o, none⟩) k ca)) 32 (0, 0))) := Lib.hid fun V hV => (hV.block g1 (NA.out g1 (by have := G1.out; omega)) U1.out.lt).trans U1.out
    have X2 : Hid (∀ V, Keep (fun k => ¬ own A k) w11 V → V.heap[g2]? = some (.cells (pkA { q with off := off2, opt := lat } (.slice (some ⟨b, o + k, none⟩) (N - k) (ca - k))) 32 (0, 0))) := Lib.hid fun V hV => (hV.block g2 (NA.out g2 (by have := G2.out; omega)) U2.out.lt).trans U2.out
    have LK : Hid ((l.take k).length = k) := Lib.hid (by rw [List.length_take]; have := HNN.out.1; omega)
    have LD : Hid ((l.drop k).length = N - k) := Lib.hid (by rw [List.length_drop]; have := HNN.out.1; omega)
    have FT : Hid (Fits { q with mf := true } lat) := Lib.hid ⟨HF.out.s, HF.out.d, HF.out.o, HF.out.l, HF.out.f0, HF.out.f1⟩
    have FR : Hid (Fits { q with off := off2, opt := lat } lat) := Lib.hid ⟨HF.out.s, HF.out.d, HF.out.l, HF.out.l, by show 0 ≤ off2; have := HF.out.f0; have := OF.out; omega, by show off2 ≤ 200000; have := HQ.out; have := OF.out; omega⟩
    clear R7 R8 R9 R10 R11 U1 U2 KP e7 e9 e10 f4 s0 z1 z2 z3 z4 z5 z6 kN2 n1 n2 ne
    refine FreeJ.wp_region_freeJ [0, 1, 2, 3, 4, 5, 6, 7] 8 [9, 10, 11, 12] [] (fun L vals V => Mid12 base w11 A c zs ({ q with mf := true }, l.take k) L vals V) (fun k' v => match k' with
      | 0 => v = .slice A zs.length c
      | 1 => v = val { q with mf := true } (.slice (some ⟨b, o, none⟩) k ca)
      | 5 => v = val { q with off := off2, opt := lat } (.slice (some ⟨b, o + k, none⟩) (N - k) (ca - k))
      | 6 => v = .string lat
      | 7 => v = .int .i64 (m : Int)
      | _ => True) (by kernel_rfl) (by kernel_rfl) (fun x hx => by cases hx) (fun L vals h0 => Mid12.start P11.out fun j hj => h0 j (by rcases hj with rfl | rfl | rfl <;> simp)) (fun _ _ _ _ _ h => h) ?_ _ (by rfl) ?_
    · refine FreeJ.obsJ_cons (by rfl) (fun vals w' L hI hL hdep K hK => ?_) (FreeJ.obsJ_cons (by rfl) (fun vals w' L hI hL hdep K hK => ?_) (FreeJ.obsJ_cons (by rfl) (fun vals w' L hI hL hdep K hK => ?_) (FreeJ.obsJ_cons (by rfl) (fun vals w' L hI hL hdep K hK => ?_) (FreeJ.obsJ_cons (by rfl) (fun vals w' L hI hL hdep K hK => ?_) (FreeJ.obsJ_cons (by rfl) (fun vals w' L hI hL hdep K hK => ?_) (FreeJ.obsJ_cons (by rfl) (fun vals w' L hI hL hdep K hK => ?_) (FreeJ.obsJ_cons (by rfl) (fun vals w' L hI hL hdep K hK => ?_) (FreeJ.obsJ_nil))))))))
      · exact wp_move (.tmp 0) rfl _ (at_out _ (by kernel_rfl) rfl) (hK _ _ (hI.pure 0 _ (by decide) (by decide) (by decide)) rfl)
      · exact st_load_row 32 (.tmp 11) rfl g1 (at_out _ (by kernel_rfl) rfl) 32 (pkA { q with mf := true } (.slice (some ⟨b, o, none⟩) k ca)) (0, 0) _ (X1.out w' hI.keep) Tryd.underlying32 rfl (by kernel_rfl) (hK _ _ (hI.pure 1 _ (by decide) (by decide) (by decide)) rfl)
      · exact wp_call 38 [.tmp 51] _ rfl ent_own [val { q with mf := true } (.slice (some ⟨b, o, none⟩) k ca)] (Draw.list1 ((at_dst 1 (by kernel_rfl)).trans (hdep 1 (by simp) (by kernel_rfl)).2)) (fun v w'' => ∃ A' c', v = val { q with mf := true } (.slice A' k c') ∧ Owns w'' w'.heap.size (.slice A' k c') k (l.take k) ∧ Below w'.heap.size w' w'')
          ((own_any { q with mf := true } (some ⟨b, o, none⟩) k ca B (l.take k) w' (HU.out.below ((BE.out w' hI.keep).mono HBB.out.1)) (Nat.le_trans HBB.out.1 (Nat.le_trans HBB.out.2 (BE.out w' hI.keep).size)) (by omega) FT.out.texts).mono fun e w'' ⟨A', c', h1, h2, h3⟩ => ⟨_, h1, A', c', rfl, h2, h3⟩)
          (fun v w'' ⟨A', c', h1, h2, h3⟩ => hK _ _ (hI.two hL h3 h1 (by
            show Owns w'' base (.slice A' k c') (l.take k).length (l.take k)
            rw [LK.out]
            exact h2.mono (Nat.le_trans HBB.out.2 (BE.out w' hI.keep).size))) trivial)
      · obtain ⟨d, hd1, hd2⟩ := hI.r2 (hdep 2 (by simp) (by kernel_rfl)).1 hL
        obtain ⟨A', c', rfl, _⟩ := hd2.slice
        exact st_one (.tmp 52) rfl { q with mf := true } A' _ c' ((at_dst 2 (by kernel_rfl)).trans hd1) (hK _ _ (hI.three hL (hdep 2 (by simp) (by kernel_rfl)).1 hd2) trivial)
      · obtain ⟨vb, d, e1, e2, e3⟩ := hI.r3 (hdep 3 (by simp) (by kernel_rfl)).1 hL
        obtain ⟨A', c', w9', h1, h2, h3, h4⟩ := (hI.r0 hL).push (x := ({ q with mf := true }, l.take k)) (Nat.le_trans HBB.out.2 (BE.out w' hI.keep).size) e2 e3 (by have := HZ.out; omega)
        exact st_append (.tmp 50) (.tmp 53) rfl (.slice A zs.length c) (.slice (some ⟨vb, 0, none⟩) 1 1) _ ((at_dst 0 (by kernel_rfl)).trans (hdep 0 (by simp) (by kernel_rfl)).2) ((at_dst 3 (by kernel_rfl)).trans e1) h1 (hK _ _ (hI.four (hdep 3 (by simp) (by kernel_rfl)).1 h2 h3 h4) trivial)
      · exact st_load_row 32 (.tmp 12) rfl g2 (at_out _ (by kernel_rfl) rfl) 32 (pkA { q with off := off2, opt := lat } (.slice (some ⟨b, o + k, none⟩) (N - k) (ca - k))) (0, 0) _ (X2.out w' hI.keep) Tryd.underlying32 rfl (by kernel_rfl) (hK _ _ (hI.pure 5 _ (by decide) (by decide) (by decide)) rfl)
      · exact wp_move (.tmp 2) rfl _ (at_out _ (by kernel_rfl) rfl) (hK _ _ (hI.pure 6 _ (by decide) (by decide) (by decide)) rfl)
      · exact wp_move (.tmp 3) rfl _ (at_out _ (by kernel_rfl) rfl) (hK _ _ (hI.pure 7 _ (by decide) (by decide) (by decide)) rfl)
    · intro vals w' L hI hL hV
      obtain ⟨A', c', zs', e1, e2, e3, e4, e5⟩ := hI.r4 (hL 4 (by simp))
      have bel := BE.out w' hI.keep
      refine wp_call 40 [.tmp 54, .tmp 55, .tmp 56, .tmp 57] _ rfl ent_cut [.slice A' zs'.length c', val { q with off := off2, opt := lat } (.slice (some ⟨b, o + k, none⟩) (N - k) (ca - k)), .string lat, .int .i64 (m : Int)] (list4 ((at_dst 4 (by kernel_rfl)).trans e1) ((at_dst 5 (by kernel_rfl)).trans (hV 5 (by simp))) ((at_dst 6 (by kernel_rfl)).trans (hV 6 (by simp))) ((at_dst 7 (by kernel_rfl)).trans (hV 7 (by simp)))) (fun v w'' => CutAns base w'' (zs'.map (·.1)) (cutsP lat m f { q with off := off2, opt := lat } (l.drop k)) v ∧ Keep (fun k => ¬ own A' k) w' w'')
        ((IH { q with off := off2, opt := lat } (l.drop k) base B w' A' c' zs' (some ⟨b, o + k, none⟩) (N - k) (ca - k) FR.out LD.out (by have := HNN.out.2; omega) (by have := HLT.out; omega) (by have := HZ.out; omega) HBB.out.1 (Nat.le_trans HBB.out.2 bel.size) e4 (HD.out.below (bel.mono HBB.out.1))).mono fun e w'' ⟨⟨v, h1, h2⟩, h3⟩ => ⟨v, h1, h2, h3⟩) (fun v w'' ⟨h1, h2⟩ => ?_)
      have AN : CutAns base w'' (zs.map (·.1)) ((cutsP lat m f { q with off := q.off + (k : Int), opt := lat } (l.drop k)).map (({ q with mf := true }, l.take k) :: ·)) v := by
        rw [OF.out]
        rw [e2] at h1
        exact ans_cons h1
      have KE : Keep (fun k => ¬ own A k) w w'' := by
        have k1 := (Keep.of (F := fun k => ¬ own A k) B11.out).trans hI.keep
        refine keep_join k1 h2 fun j hj hn z => ?_
        rcases e5 j z with y | y
        · exact hn y
        · have := B11.out.size
          omega
      obtain ⟨v0, v1, rfl⟩ := ans_two h1
      have AN := Lib.hid AN
      have KE := Lib.hid KE
      clear h1 h2 e1 e2 e3 e4 e5 hI hL hV bel P11 NA BE X1 X2 LK LD FT FR IH HD HU H0
      refine wpAnyH_two 9 10 _ _ rfl rfl rfl rfl (by kernel_rfl) (st_extract (.tmp 58) 0 rfl #[v0, v1] v0 (put_tmps_eq (fill_size _ _ _) (by kernel_rfl)) rfl ⟨trivial, ?_⟩) (st_extract (.tmp 58) 1 rfl #[v0, v1] v1 (put_tmps_eq (fill_size _ _ _) (by kernel_rfl)) rfl ⟨trivial, ?_⟩)
      · refine wpAnyH_next 10 _ rfl rfl (by kernel_rfl) (st_extract (.tmp 58) 1 rfl #[v0, v1] v1 (put_tmps_ne (by rfl) (put_tmps_eq (fill_size _ _ _) (by kernel_rfl))) rfl ⟨trivial, ?_⟩)
        refine wpAnyH_next 11 _ rfl rfl (by kernel_rfl) (st_assign (.tmp 59) v0 rfl (put_tmps_ne (by rfl) (put_tmps_eq (put_size (fill_size _ _ _)) (by kernel_rfl))) ⟨trivial, ?_⟩)
        refine wpAnyH_next 12 _ rfl rfl (by kernel_rfl) (st_assign (.tmp 60) v1 rfl (put_tmps_ne (by rfl) (put_tmps_eq (put_size (put_size (fill_size _ _ _))) (by kernel_rfl))) ⟨trivial, wpAnyH_done (by kernel_rfl) ?_ _⟩)
        simp only [fill, dstAt, List.getElem?_cons_zero, List.getElem?_cons_succ, Option.bind_some, Act.put, List.setIfInBounds_toArray, List.set_cons_zero, List.set_cons_succ]
        go_wp2_with fail
        go_ret2
        exact ⟨⟨_, rfl, AN.out⟩, KE.out⟩
      · refine wpAnyH_next 9 _ rfl rfl (by kernel_rfl) (st_extract (.tmp 58) 0 rfl #[v0, v1] v0 (put_tmps_ne (by rfl) (put_tmps_eq (fill_size _ _ _) (by kernel_rfl))) rfl ⟨trivial, ?_⟩)
        refine wpAnyH_next 11 _ rfl rfl (by kernel_rfl) (st_assign (.tmp 59) v0 rfl (put_tmps_eq (put_size (put_size (fill_size _ _ _))) (by kernel_rfl)) ⟨trivial, ?_⟩)
        refine wpAnyH_next 12 _ rfl rfl (by kernel_rfl) (st_assign (.tmp 60) v1 rfl (put_tmps_ne (by rfl) (put_tmps_ne (by rfl) (put_tmps_eq (put_size (fill_size _ _ _)) (by kernel_rfl)))) ⟨trivial, wpAnyH_done (by kernel_rfl) ?_ _⟩)
        simp only [fill, dstAt, List.getElem?_cons_zero, List.getElem?_cons_succ, Option.bind_some, Act.put, List.setIfInBounds_toArray, List.set_cons_zero, List.set_cons_succ]
        go_wp2_with fail
        go_ret2
        exact ⟨⟨_, rfl, AN.out⟩, KE.out⟩
end Go.Proofs.YtnpggkpcadefjaaDoor.Spl8

/- The code's cut, whole; the code's Split. -/
set_option linter.unusedVariables false
set_option maxRecDepth 100000
namespace Go.Proofs.YtnpggkpcadefjaaDoor.Spl9
open Go.RowKit Go.Proofs.YtnpggkpcadefjaaDoor.Sums Go.Proofs.YtnpggkpcadefjaaDoor.Mem Go.Proofs.YtnpggkpcadefjaaDoor.Blk Go.Proofs.YtnpggkpcadefjaaDoor.Pkt Go.Proofs.YtnpggkpcadefjaaDoor.Check Go.Proofs.YtnpggkpcadefjaaDoor.Free Go.Proofs.YtnpggkpcadefjaaDoor.Steps Go.Proofs.YtnpggkpcadefjaaDoor.RowN Go.Proofs.YtnpggkpcadefjaaDoor.RowA Go.Proofs.YtnpggkpcadefjaaDoor.SplD Go.Proofs.YtnpggkpcadefjaaDoor.SplL Go.Proofs.YtnpggkpcadefjaaDoor.SplM Go.Proofs.YtnpggkpcadefjaaDoor.SplP Go.Proofs.YtnpggkpcadefjaaDoor.Errno Go.Proofs.YtnpggkpcadefjaaDoor.Spl1 Go.Proofs.YtnpggkpcadefjaaDoor.Spl2 Go.Proofs.YtnpggkpcadefjaaDoor.Spl3 Go.Proofs.YtnpggkpcadefjaaDoor.Spl4 Go.Proofs.YtnpggkpcadefjaaDoor.Spl5 Go.Proofs.YtnpggkpcadefjaaDoor.Spl6 Go.Proofs.YtnpggkpcadefjaaDoor.Spl7 Go.Proofs.YtnpggkpcadefjaaDoor.Spl8

theorem cut_any (lat : ByteArray) (m : Nat) (h68 : 68 ≤ m) (hmb : m ≤ 9223372036854775807) : ∀ f, CutSpec lat m f := by
  intro f
  induction f with
  | zero => intro q l base B w A c zs Aa N ca _ _ _ h; omega
  | succ f ih =>
    intro q l base B w A c zs Aa N ca hf hN hN2 hlt hz hB hbs h hh
    rw [cutsP]
    by_cases o : 65528 < q.off
    · rw [if_pos o]
      exact (cut_over lat m q o w (.slice A zs.length c) (.slice Aa N ca)).mono fun e w' ⟨h1, h2⟩ => ⟨⟨_, h1, rfl⟩, Keep.of h2⟩
    · rw [if_neg o]
      by_cases ft : 20 + q.opt.size + N ≤ m
      · rw [if_pos (by rw [hN]; exact ft)]
        exact cut_last lat m f q l base B w A c zs Aa N ca hf hN hN2 (by omega) hB hbs h hh o ft
      · rw [if_neg (by rw [hN]; exact ft)]
        exact cut_more lat m f ih hmb q l base B w A c zs Aa N ca _ hf hN hN2 hlt hz hB hbs h hh o h68 ft rfl
def tupleAt (v : Value) (i : Nat) : Value := match v with
  | .tuple vs => vs.getD i undef
  | _ => undef
theorem pcs_none (w : World) : PcsAt w (.slice none 0 0) [] := ⟨none, 0, rfl, fun k x h => by simp at h⟩
theorem strs_size {p : Pkt} (hv : Valid p) : Texts p := ⟨by have := hv.s; unfold maxT; omega, by have := hv.d; unfold maxT; omega, by have := hv.z; unfold maxT; omega⟩
set_option maxHeartbeats 2000000 in
theorem split_any : SplitSpec := by
  intro p A n c B l mtu w hg h hB hz hn hx hx2
  obtain ⟨⟨er, ps⟩, hR⟩ : ∃ R, splitR p l mtu = R := ⟨_, rfl⟩
  have HR := Lib.hid hR
  rw [hR]
  have HL := Lib.hid h.1
  have HH := Lib.hid h
  have HB := Lib.hid hB
  have GH : Hid (∀ W, Below w.heap.size w W → Handle W) := Lib.hid fun W hW => hg.keep hW
  have B0 := Lib.hid ((Below.refl w.heap.size w).alloc (Nat.le_refl _) (.cells #[.int .i64 p.tos, .int .i64 p.id, .int .i64 p.ttl, .int .i64 p.proto, .bool p.df, .bool p.mf, .int .i64 p.off, .string p.src, .string p.dst, .string p.opt, .slice A n c] 32))
  have K0 := Lib.hid (Blk.new w 32 #[.int .i64 p.tos, .int .i64 p.id, .int .i64 p.ttl, .int .i64 p.proto, .bool p.df, .bool p.mf, .int .i64 p.off, .string p.src, .string p.dst, .string p.opt, .slice A n c])
  have CC := Lib.hid (check_code p A n c (w.alloc (.cells #[.int .i64 p.tos, .int .i64 p.id, .int .i64 p.ttl, .int .i64 p.proto, .bool p.df, .bool p.mf, .int .i64 p.off, .string p.src, .string p.dst, .string p.opt, .slice A n c] 32)) (GH.out _ B0.out) (by omega) hn)
  have FC := Lib.hid (fun b e W => fits_any p A n c mtu W (by omega) hn b e)
  have LC := Lib.hid (fun W hW => later_any p.opt W (GH.out W hW) hz)
  have HN := Lib.hid hn
  have HX := Lib.hid (And.intro hx hx2)
  obtain ⟨ck, hck⟩ : ∃ ck, p.chk n = ck := ⟨_, rfl⟩
  have CK := Lib.hid hck
  rw [hck] at CC
  unfold val at CC FC ⊢
  clear hR h hB hg hn hx hx2 hck hz
  go_enter Tryd.func19, Tryd.ntmps19
  go_wp2_with (first | (refine Store.at_load 32 (.tmp 2) ?_ ?_; exact rfl; refine Loads.wpList_load_w rfl 32 (.tmp 2) rfl w.heap.size rfl 32 _ (0, 0) _ (K0.out) Tryd.underlying32 rfl (by kernel_rfl) ?_))
  refine CC.out.mono ?_
  rintro e w1 ⟨rfl, hb⟩
  have B1 := Lib.hid (B0.out.trans (hb.mono B0.out.size))
  have K1 := Lib.hid (Blk.below K0.out hb (Blk.lt K0.out))
  clear hb B0 K0 CC
  by_cases q0 : ck ≠ 0
  · have g0 : (ck != 0) = true := by simpa using q0
    have E : Hid (er = ck ∧ ps = []) := Lib.hid (by
      have := HR.out
      unfold splitR at this
      rw [if_pos (by rw [HL.out, CK.out]; exact q0), HL.out, CK.out] at this
      injection this with a b
      exact ⟨a.symm, b.symm⟩)
    clear q0
    go_wp2_with fail
    go_ret2
    exact ⟨⟨_, by rw [E.out.1]; rfl, by rw [E.out.2]; exact pcs_none _⟩, B1.out⟩
  have q0 : ck = 0 := Classical.not_not.1 q0
  have g0 : (ck != 0) = false := by rw [q0]; rfl
  have VV := chk_zero (p := p) (n := n) (CK.out.trans q0)
  have HV := Lib.hid VV.1
  have HV2 := Lib.hid VV.2
  have C0 : Hid (p.chk l.length = 0) := Lib.hid (by rw [HL.out, CK.out]; exact q0)
  clear VV q0
  by_cases q1 : mtu < 68
  · have g1 : decide (mtu < 68) = true := decide_eq_true q1
    have E : Hid (er = 1 ∧ ps = []) := Lib.hid (by
      have := HR.out
      unfold splitR at this
      rw [if_neg (by rw [C0.out]; exact fun z => z rfl), if_pos q1] at this
      injection this with a b
      exact ⟨a.symm, b.symm⟩)
    clear q1
    go_wp2_with fail
    go_ret2
    exact ⟨⟨_, by rw [E.out.1]; rfl, by rw [E.out.2]; exact pcs_none _⟩, B1.out⟩
  have g1 : decide (mtu < 68) = false := decide_eq_false q1
  have M68 := Lib.hid q1
  clear q1
  by_cases q2 : 20 + (p.opt.size : Int) + (n : Int) ≤ mtu
  · have FC2 := Lib.hid (FC.out true (decide_eq_true q2))
    have E : Hid (er = 0 ∧ ps = [(p, l)]) := Lib.hid (by
      have := HR.out
      unfold splitR at this
      rw [if_neg (by rw [C0.out]; exact fun z => z rfl), if_neg (by have := M68.out; omega), if_pos (by rw [HL.out]; exact q2)] at this
      injection this with a b
      exact ⟨a.symm, b.symm⟩)
    clear q2 FC LC
    go_wp2_with (first | (refine Store.at_load 32 (.tmp 2) ?_ ?_; exact rfl; refine Loads.wpList_load_w rfl 32 (.tmp 2) rfl w.heap.size rfl 32 _ (0, 0) _ (K1.out) Tryd.underlying32 rfl (by kernel_rfl) ?_))
    refine (FC2.out _).mono ?_
    rintro e w2 ⟨rfl, hb⟩
    have B2 := Lib.hid (B1.out.trans (hb.mono B1.out.size))
    have K2 := Lib.hid (Blk.below K1.out hb (Blk.lt K1.out))
    clear hb B1 K1 FC2
    have OC := Lib.hid (own_any p A n c B l w2 (HH.out.below (B2.out.mono HB.out)) (Nat.le_trans HB.out B2.out.size) HN.out (strs_size HV.out))
    unfold val at OC
    go_wp2_with (first | (refine Store.at_load 32 (.tmp 2) ?_ ?_; exact rfl; refine Loads.wpList_load_w rfl 32 (.tmp 2) rfl w.heap.size rfl 32 _ (0, 0) _ (K2.out) Tryd.underlying32 rfl (by kernel_rfl) ?_))
    refine OC.out.mono ?_
    rintro e w3 ⟨A', c', rfl, ho, hb⟩
    have B3 := Lib.hid (B2.out.trans (hb.mono B2.out.size))
    have O3 := Lib.hid ho
    clear ho hb B2 K2 OC
    have XB := Lib.hid ((Below.refl w3.heap.size w3).alloc (Nat.le_refl _) (.cells (pcCells p (.slice A' n c')).toArray 32))
    have NB := Lib.hid (Blk.new w3 32 (pcCells p (.slice A' n c')).toArray)
    go_wp2_with fail
    go_ret2
    refine ⟨⟨_, by rw [E.out.1]; rfl, by
      rw [E.out.2]
      refine ⟨some ⟨w3.heap.size, 0, none⟩, 1, rfl, fun k x hk => ?_⟩
      obtain rfl : k = 0 := by
        have := (List.getElem?_eq_some_iff.1 hk).1
        simp at this
        omega
      obtain rfl : (p, l) = x := by simpa using hk
      refine ⟨w3.heap.size, 0, A', c', rfl, NB.out.lt, ?_, ?_⟩
      · intro j v hv
        rw [show 0 + 0 * 11 + j = j by omega]
        rw [HL.out] at hv
        exact (NB.out.cell j).trans (by simpa using hv)
      · rw [HL.out]
        exact (O3.out.below XB.out (Nat.le_refl _)).holds⟩, B3.out.trans (XB.out.mono B3.out.size)⟩
  have FC2 := Lib.hid (FC.out false (decide_eq_false q2))
  have NF := Lib.hid q2
  clear q2 FC
  have c4 : w1.cell? ⟨w.heap.size, 4, none⟩ = some (.bool p.df) := K1.out.cell 4
  go_wp2_with (first | (refine Store.at_load 32 (.tmp 2) ?_ ?_; exact rfl; refine Loads.wpList_load_w rfl 32 (.tmp 2) rfl w.heap.size rfl 32 _ (0, 0) _ (K1.out) Tryd.underlying32 rfl (by kernel_rfl) ?_))
  refine (FC2.out _).mono ?_
  rintro e w2 ⟨rfl, hb⟩
  have B2 := Lib.hid (B1.out.trans (hb.mono B1.out.size))
  have K2 := Lib.hid (Blk.below K1.out hb (Blk.lt K1.out))
  clear hb B1 K1 FC2 c4
  have c4 : w2.cell? ⟨w.heap.size, 4, none⟩ = some (.bool p.df) := K2.out.cell 4
  have c9 : w2.cell? ⟨w.heap.size, 9, none⟩ = some (.string p.opt) := K2.out.cell 9
  by_cases q3 : p.df = true
  · have E : Hid (er = 181 ∧ ps = []) := Lib.hid (by
      have := HR.out
      unfold splitR at this
      rw [if_neg (by rw [C0.out]; exact fun z => z rfl), if_neg (by have := M68.out; omega), if_neg (by have := NF.out; have := HL.out; omega), if_pos q3] at this
      injection this with a b
      exact ⟨a.symm, b.symm⟩)
    rw [q3] at c4
    clear LC
    go_wp2_with fail
    go_ret2
    exact ⟨⟨_, by rw [E.out.1]; rfl, by rw [E.out.2]; exact pcs_none _⟩, B2.out⟩
  have q3' : p.df = false := by simpa using q3
  rw [q3'] at c4
  clear q3'
  have LC2 := Lib.hid (LC.out w2 B2.out)
  have E0 : Hid (∀ X, (match laterL p.opt with
    | none => ((4 : Int), ([] : List (Pkt × List Int)))
    | some t => if (cuts mtu.toNat p.opt.size t.length l.length (l.length + 1) 0).any (fun q => decide (65528 < p.off + q.1)) = true then (2, [])
      else (0, (cuts mtu.toNat p.opt.size t.length l.length (l.length + 1) 0).map (piece p (strOfNums t) l))) = X → X = (er, ps)) := Lib.hid (fun X hX => by
    have := HR.out
    unfold splitR at this
    rw [if_neg (by rw [C0.out]; exact fun z => z rfl), if_neg (by have := M68.out; omega), if_neg (by have := NF.out; have := HL.out; omega), if_neg q3] at this
    rw [← hX]
    exact this)
  clear LC q3 HR
  cases hl : laterL p.opt with
  | none =>
    have LV : laterV p.opt = .tuple #[.string ⟨#[]⟩, .int .i64 4] := by unfold laterV; rw [hl]
    rw [LV] at LC2
    have E : Hid (er = 4 ∧ ps = []) := Lib.hid (by
      have := E0.out _ rfl
      rw [hl] at this
      injection this with a b
      exact ⟨a.symm, b.symm⟩)
    clear LV hl E0
    go_wp2_with fail
    refine LC2.out.mono ?_
    rintro e w3 ⟨rfl, hb⟩
    have B3 := Lib.hid (B2.out.trans (hb.mono B2.out.size))
    clear hb LC2
    go_wp2_with fail
    go_ret2
    exact ⟨⟨_, by rw [E.out.1]; rfl, by rw [E.out.2]; exact pcs_none _⟩, B3.out⟩
  | some t =>
    have LV : laterV p.opt = .tuple #[.string (strOfNums t), .int .i64 0] := by unfold laterV; rw [hl]
    rw [LV] at LC2
    obtain ⟨t1, t2, _⟩ := later_small hl HV.out.z4
    obtain ⟨lat, hlat⟩ : ∃ lat, strOfNums t = lat := ⟨_, rfl⟩
    have ls : lat.size = t.length := by rw [← hlat]; exact str_size t
    have LS := Lib.hid (And.intro ls t1)
    rw [hlat] at LC2
    obtain ⟨m, rfl⟩ : ∃ m : Nat, mtu = (m : Int) := ⟨mtu.toNat, by have := M68.out; omega⟩
    have E : Hid ((if (cuts m p.opt.size lat.size l.length (l.length + 1) 0).any (fun q => decide (65528 < p.off + q.1)) = true then ((2 : Int), ([] : List (Pkt × List Int)))
      else (0, (cuts m p.opt.size lat.size l.length (l.length + 1) 0).map (piece p lat l))) = (er, ps)) := Lib.hid (by
      have := E0.out _ rfl
      rw [hl] at this
      dsimp only at this
      rw [hlat, ← ls, Int.toNat_natCast] at this
      exact this)
    have M68' : 68 ≤ m := by have := M68.out; omega
    have W9 := Lib.hid (wide_of (p := p) (mtu := (m : Int)) HV.out (by omega) lat.size (by omega))
    have MM := Lib.hid M68'
    clear LV hl E0 ls t1 t2 hlat M68' g1
    have g1 : decide ((m : Int) < 68) = false := decide_eq_false (by have := MM.out; omega)
    go_wp2_with fail
    refine LC2.out.mono ?_
    rintro e w3 ⟨rfl, hb⟩
    have B3 := Lib.hid (B2.out.trans (hb.mono B2.out.size))
    have K3 := Lib.hid (Blk.below K2.out hb (Blk.lt K2.out))
    clear hb LC2 K2 c4 c9
    have CT : Hid (Calls Tryd.prog 40 #[.slice none 0 0, val p (.slice A n c), .string lat, .int .i64 (m : Int)] w3 fun e w' => (∃ v, e = .returned v ∧ CutAns w3.heap.size w' [] (cutsP lat m (l.length + 1) p l) v) ∧ Keep (fun k => ¬ own none k) w3 w') := Lib.hid (cut_any lat m MM.out (by have := HX.out.2; omega) (l.length + 1) p l w3.heap.size B w3 none 0 [] A n c ⟨HV.out.s, HV.out.d, HV.out.z, by have := LS.out; have := HV.out.z; omega, HV.out.o0, by have := HV.out.o1; omega⟩ HL.out (by have := HV2.out; omega) (by have := HL.out; omega) (by simp; have := HL.out; have := HV2.out; omega) (Nat.le_trans HB.out B3.out.size) (Nat.le_refl _) (PRow.nil _ _) (HH.out.below (B3.out.mono HB.out)))
    unfold val at CT
    go_wp2_with (first | (refine Store.at_load 32 (.tmp 2) ?_ ?_; exact rfl; refine Loads.wpList_load_w rfl 32 (.tmp 2) rfl w.heap.size rfl 32 _ (0, 0) _ (K3.out) Tryd.underlying32 rfl (by kernel_rfl) ?_))
    refine CT.out.mono ?_
    rintro e w4 ⟨⟨v, rfl, ha⟩, hk⟩
    have KB := hk.below (B := w3.heap.size) (Nat.le_refl _) (fun k _ z => by obtain ⟨a, e, _⟩ := z; cases e)
    have B4 := Lib.hid (B3.out.trans (KB.mono B3.out.size))
    have e9 := cuts_pieces (p := p) (lat := lat) (l := l) (m := m) W9.out (l.length + 1) 0 p (Nat.zero_le _) (by omega) (by cases p; simp)
    rw [List.drop_zero] at e9
    rw [e9] at ha
    have AN : Hid (v = .tuple #[tupleAt v 0, .int .i64 er] ∧ PcsAt w4 (tupleAt v 0) ps) := Lib.hid (by
      have E9 := E.out
      by_cases y : (cuts m p.opt.size lat.size l.length (l.length + 1) 0).any (fun q => decide (65528 < p.off + q.1)) = true
      · rw [if_pos y] at ha E9
        injection E9 with a b
        subst a b
        have ha' : v = _ := ha
        rw [ha']
        exact ⟨rfl, pcs_none _⟩
      · rw [if_neg y] at ha E9
        injection E9 with a b
        obtain ⟨A', c', zs, h1, h2, h3⟩ := ha
        subst a
        rw [h1]
        refine ⟨rfl, ?_⟩
        rw [← b, ← (show zs.map (·.1) = _ from h2.trans (List.nil_append _))]
        exact h3.pcs)
    clear ha hk KB e9 E CT K3 W9
    obtain ⟨v0, hv0⟩ : ∃ v0, tupleAt v 0 = v0 := ⟨_, rfl⟩
    rw [hv0] at AN
    obtain ⟨rfl, hp⟩ := AN.out
    have HP := Lib.hid hp
    clear AN hp hv0
    go_wp2_with fail
    go_ret2
    exact ⟨⟨_, rfl, HP.out⟩, B4.out⟩
end Go.Proofs.YtnpggkpcadefjaaDoor.Spl9

