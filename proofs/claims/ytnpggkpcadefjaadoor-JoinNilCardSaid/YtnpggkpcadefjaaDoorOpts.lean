/- The contract of Options of the code: any text. -/
import Derived.Test.YtnpggkpcadefjaaDoorFirst
import Derived.Test.YtnpggkpcadefjaaDoorM14
import Derived.Deep.AppendLies
import Derived.LoopTactic
import Derived.OwnWalk
set_option linter.unusedVariables false
namespace Go.Proofs.YtnpggkpcadefjaaDoor.Opts
open Go.RowKit Go.Proofs.YtnpggkpcadefjaaDoor.Sums Go.Proofs.YtnpggkpcadefjaaDoor.Mem Go.Proofs.YtnpggkpcadefjaaDoor.Blk Go.Proofs.YtnpggkpcadefjaaDoor.Decode Go.Proofs.YtnpggkpcadefjaaDoor.First Go.Proofs.YtnpggkpcadefjaaDoor.Errno

/-- The options of a text; none: it is refused. -/
def optsS (s : ByteArray) : Option (List (Int × ByteArray)) :=
  if h : 0 < s.size then
    if (s[0]'h).toNat = 0 then some []
    else if (s[0]'h).toNat = 1 then (optsS (s.extract 1 s.size)).map (((1 : Int), (⟨#[]⟩ : ByteArray)) :: ·)
    else if h2 : 1 < s.size then
      if (s[1]'h2).toNat < 2 ∨ s.size < (s[1]'h2).toNat then none
      else (optsS (s.extract (s[1]'h2).toNat s.size)).map ((((s[0]'h).toNat : Int), s.extract 2 (s[1]'h2).toNat) :: ·)
    else none
  else some []
termination_by s.size
decreasing_by
  all_goals simp only [ByteArray.size_extract]; omega

/-- The options' cells. -/
def cells : List (Int × ByteArray) → List Value
  | [] => []
  | (k, d) :: r => .int .i64 k :: .string d :: cells r
theorem cells_append (a b : List (Int × ByteArray)) : cells (a ++ b) = cells a ++ cells b := by
  induction a with
  | nil => rfl
  | cons x r ih => obtain ⟨k, d⟩ := x; simp [cells, ih]

theorem ext_info : (Tryd.prog.info? 97).map (fun i => (i.zero, i.size, i.bytes)) = some (some (.agg #[.int .i64 0, .string ⟨#[]⟩]), 2, 24) := by kernel_rfl

theorem first_bad (s : ByteArray) (k : Int) (w : World) (hs : s.size ≤ 1048576) (h0 : 0 < s.size) (hk : ((s[0]'h0).toNat : Int) = k) (hk1 : (k == 1) = false) (hb : s.size = 1 ∨ ∃ h1 : 1 < s.size, (s[1]'h1).toNat < 2 ∨ s.size < (s[1]'h1).toNat) :
    Calls Tryd.prog 71 #[.string s] w fun e w' => ∃ e1, e = .returned (.tuple #[.agg #[.int .i64 0, .string ⟨#[]⟩], .int .i64 0, .iface 108 (.agg #[.string e1, .iface 39 (.int .i64 4)])]) ∧ Below w.heap.size w w' := by
  have k0 : 0 ≤ k := by omega
  have k1 : k ≤ 255 := by have := (s[0]'h0).toNat_lt; omega
  rcases hb with h1 | ⟨h1, h2⟩
  · go_enter Tryd.func71, Tryd.ntmps71
    go_wp2_with fail
    refine bodyPost_ret (v := .tuple #[.agg #[.int .i64 0, .string ⟨#[]⟩], .int .i64 0, .iface 108 (.agg #[.string ⟨#[108, 101, 110, 103, 116, 104, 32, 111, 102, 32, 97, 110, 32, 111, 112, 116, 105, 111, 110]⟩, .iface 39 (.int .i64 4)])]) (by simp [results, Tryd.results71, go_sem]) rfl ?_
    exact ⟨_, rfl, (Below.refl _ _).alloc (Nat.le_refl _) _⟩
  · have n1 : ((s[1]'h1).toNat : Int) ≤ 255 := by have := (s[1]'h1).toNat_lt; omega
    rcases h2 with h2 | h2
    · go_enter Tryd.func71, Tryd.ntmps71
      go_wp2_with fail
      refine bodyPost_ret (v := .tuple #[.agg #[.int .i64 0, .string ⟨#[]⟩], .int .i64 0, .iface 108 (.agg #[.string ⟨#[111, 112, 116, 105, 111, 110]⟩, .iface 39 (.int .i64 4)])]) (by simp [results, Tryd.results71, go_sem]) rfl ?_
      exact ⟨⟨_, rfl⟩, (Below.refl _ _).alloc (Nat.le_refl _) _⟩
    · go_enter Tryd.func71, Tryd.ntmps71
      go_wp2_with fail
      refine bodyPost_ret (v := .tuple #[.agg #[.int .i64 0, .string ⟨#[]⟩], .int .i64 0, .iface 108 (.agg #[.string ⟨#[111, 112, 116, 105, 111, 110]⟩, .iface 39 (.int .i64 4)])]) (by simp [results, Tryd.results71, go_sem]) rfl ?_
      exact ⟨_, rfl, (Below.refl _ _).alloc (Nat.le_refl _) _⟩

/-- append(v, Ext): one more element of two cells, out of a literal that was just made. -/
theorem wpList_pair {P : Program} {w : World} {ops : Array Oper} {rest : List Oper} {o : Oper} {a : Act} {Q : Exit → Act → World → Prop} (hgd : o.guard = none) (s x : Operand) (t e : TypeId)
    (ho : o.op = .call { callee := .builtin .append, args := #[s, x], argTypes := #[t, t] })
    (base : Nat) (z u1 u2 : Value) (bytes : Nat) (ht : P.underlying t = some (.slice e)) (hi : (P.info? e).map (fun i => (i.zero, i.size, i.bytes)) = some (some z, 2, bytes)) (hzs : z.cells.size = 2) (hby : bytes ≤ 32)
    (v : Value) (n : Nat) (xs : List Value) (hs : a.eval s = v) (hown : w.ownsRow base e 2 v n xs) (B : Nat) (hB : w.heap.size = B) (hx : a.eval x = .slice (some ⟨B, 0, none⟩) 1 1) (h1 : u1.oneCell' = true) (h2 : u2.oneCell' = true)
    (hn : n + 1 ≤ 1048576) (hbase : base ≤ w.heap.size)
    (K : ∀ v' w', w'.ownsRow base e 2 v' (n + 1) (xs ++ [u1, u2]) → (w.alloc (.cells #[u1, u2] e)).grownBy w' v.ownBlock → wpList P ops Q rest (a.put o.dst v') w') :
    wpList P ops Q (o :: rest) a (w.alloc (.cells #[u1, u2] e)) := by
  subst hB
  obtain ⟨i, hi, hz, hsz, hb⟩ := info_parts hi
  refine wpList_append_own_at _ hgd s x t ho base e i z 2 bytes ht hi hz hsz hb hzs (by decide) v n xs hs (hown.alloc _) ⟨w.heap.size, 0, none⟩ 1 1 [u1, u2] hx rfl ?_ ?_ ?_ ?_ ?_ ?_
  · intro j y hj
    match j, hj with
    | 0, hj =>
      simp at hj
      subst hj
      simp [Addr.add]
    | 1, hj =>
      simp at hj
      subst hj
      simp [Addr.add]
  · intro y hy
    simp at hy
    rcases hy with rfl | rfl
    · exact h1
    · exact h2
  · simp only [maxLen]; omega
  · have : (n + 1) * bytes ≤ 1048576 * 32 := Nat.mul_le_mul hn hby
    omega
  · simp; omega
  · exact fun v' w' h1 h2 _ _ => K v' w' h1 h2

/-- What Options gives. -/
def Gives (w : World) (s : ByteArray) (e : Ending) (w' : World) : Prop :=
  ((∃ xs v, optsS s = some xs ∧ e = .returned (.tuple #[v, .int .i64 0]) ∧ w'.ownsRow w.heap.size 97 2 v xs.length (cells xs)) ∨ (optsS s = none ∧ e = .returned (.tuple #[.slice none 0 0, .int .i64 4]))) ∧ Below w.heap.size w w'

set_option maxHeartbeats 2000000 in
set_option maxRecDepth 20000 in
theorem options_any (s0 : ByteArray) (w : World) (hg : Handle w) (hs : s0.size ≤ 10000) : Calls Tryd.prog 56 #[.string s0] w (Gives w s0) := by
  obtain ⟨i, hi, hz, hsz, hby⟩ := info_parts ext_info
  go_enter Tryd.func56, Tryd.ntmps56
  go_wp2_with fail
  go_loopw [0, 4] (fun s o wr => ∃ (t : ByteArray) (xs : List (Int × ByteArray)) (v : Value), s = .string t ∧ o = v ∧ xs.length + t.size ≤ 10000 ∧ wr.ownsRow w.heap.size 97 2 v xs.length (cells xs) ∧ Below w.heap.size w wr ∧ Hid ((optsS t).map (xs ++ ·) = optsS s0)) (fun s _ _ => match s with | .string t => t.size | _ => 0)
  case atStart => exact ⟨s0, [], _, rfl, rfl, by simp; omega, World.ownsRow_nil _ _ _ _, Below.refl _ _, Lib.hid (by simp)⟩
  case round =>
    obtain ⟨t, xs, v, rfl, hv, hlen, ho, hb, ht⟩ := hrel
    replace hv := hv.symm
    subst hv
    have hbs := hb.size
    by_cases h0 : t.size = 0
    · have e0 : t = ⟨#[]⟩ := by
        cases t with
        | mk d => simp [ByteArray.size] at h0; rw [h0]
      subst e0
      have fin : optsS s0 = some xs := by rw [← ht.out, optsS, dif_neg (by decide)]; simp
      go_wp2_with fail
      go_ret2
      exact ⟨.inl ⟨xs, v, fin, rfl, ho⟩, hb⟩
    · have hp : 0 < t.size := by omega
      have htl : t.toList.isEmpty = false := by
        rw [ByteArray.toList_eq]
        cases t with
        | mk d => simpa [ByteArray.size] using h0
      by_cases hz0 : (t[0]'hp).toNat = 0
      · have fin : optsS s0 = some xs := by rw [← ht.out, optsS, dif_pos hp, if_pos hz0]; simp
        go_wp2_with fail
        all_goals go_ret2
        all_goals exact ⟨.inl ⟨xs, v, fin, rfl, ho⟩, hb⟩
      · have hz1 : (((t[0]'hp).toNat : Int) != 0) = true := by simpa using hz0
        have hts : t.size ≤ 10000 := by omega
        have P0 := Lib.hid (hg.keep hb)
        have HO := Lib.hid ho
        have HB := Lib.hid hb
        by_cases hk1 : (t[0]'hp).toNat = 1
        · have NX : Hid ((optsS (t.extract 1 t.size)).map ((xs ++ [((1 : Int), (⟨#[]⟩ : ByteArray))]) ++ ·) = optsS s0) := by
            have := ht.out
            rw [optsS, dif_pos hp, if_neg hz0, if_pos hk1, Option.map_map] at this
            refine Lib.hid (Eq.trans ?_ this)
            congr 1
            funext y
            simp
          have FN := Lib.hid (first_nop t wr hp (by
            apply UInt8.toNat_inj.1
            exact hk1))
          have hsz1 : (t.extract 1 t.size).size = t.size - 1 := by rw [ByteArray.size_extract]; omega
          clear ho hb ht
          go_wp2_with fail
          refine FN.out.mono ?_
          rintro e w1 ⟨rfl, hb1⟩
          have HB1 := Lib.hid (HB.out.trans (hb1.mono hbs))
          have HO1 := Lib.hid (HO.out.kept (row := none) ⟨hb1.os, hb1.tape, hb1.output, hb1.size, fun k hk _ => hb1.block k hk⟩ (by cases hv : v.ownBlock <;> simp))
          have hbs1 := HB1.out.size
          clear hb1
          go_wp2_with (at_builtin
                       go_loud (refine wpList_pair rfl (.tmp 25) (.tmp 27) 93 97 rfl w.heap.size (.agg #[.int .i64 0, .string ⟨#[]⟩]) (.int .i64 1) (.string ⟨#[]⟩) 24 Tryd.underlying93 ext_info rfl (by decide) v xs.length (cells xs) rfl (HO1.out.alloc _) (w1.heap.size + 1) (by simp) rfl rfl rfl (by omega) (by simp; omega) ?_)
                       intro v2 w2 ho2 hg2)
          have HB2 : Below w.heap.size w w2 := ((HB1.out.alloc (by omega) _).alloc (by simp; omega) _).grown hg2 (by simp; omega) fun g hg => (HO1.out.lt g hg).1
          have ho3 : w2.ownsRow w.heap.size 97 2 v2 (xs ++ [((1 : Int), (⟨#[]⟩ : ByteArray))]).length (cells (xs ++ [((1 : Int), (⟨#[]⟩ : ByteArray))])) := by
            rw [cells_append, List.length_append]
            exact ho2
          go_roundw
          case rel => exact ⟨_, _, v2, rfl, rfl, by simp only [List.length_append, List.length_singleton, hsz1]; omega, ho3, HB2, NX⟩
          case measure => simp only [hsz1]; omega
        · have hk1b : ((((t[0]'hp).toNat : Int)) == 1) = false := by
            rw [beq_eq_false_iff_ne]; intro e; exact hk1 (by exact_mod_cast e)
          by_cases hgood : ∃ h2 : 1 < t.size, 2 ≤ (t[1]'h2).toNat ∧ (t[1]'h2).toNat ≤ t.size
          · obtain ⟨h2, n2, nS⟩ := hgood
            obtain ⟨n, hn⟩ : ∃ n, (t[1]'h2).toNat = n := ⟨_, rfl⟩
            rw [hn] at n2 nS
            have k255 : (t[0]'hp).toNat < 256 := (t[0]'hp).toNat_lt
            have n255 : n < 256 := by rw [← hn]; exact (t[1]'h2).toNat_lt
            obtain ⟨k, hk⟩ : ∃ k, (t[0]'hp).toNat = k := ⟨_, rfl⟩
            obtain ⟨d, hd⟩ : ∃ d, t.extract 2 n = d := ⟨_, rfl⟩
            have NX : Hid ((optsS (t.extract n t.size)).map ((xs ++ [((k : Int), d)]) ++ ·) = optsS s0) := by
              have := ht.out
              rw [optsS, dif_pos hp, if_neg hz0, if_neg hk1, dif_pos h2, if_neg (by omega), Option.map_map, hn, hk, hd] at this
              refine Lib.hid (Eq.trans ?_ this)
              congr 1
              funext y
              simp
            have FN := first_ok t (k : Int) n wr (by omega) (by omega) (by rw [hk]) (by rw [← hk]; exact hk1b) (by rw [hn]) n2 nS
            rw [hd] at FN
            replace FN := Lib.hid FN
            have hsz1 : (t.extract n t.size).size = t.size - n := by rw [ByteArray.size_extract]; omega
            clear ho hb ht hd hk1b
            rw [hk] at hz1
            go_wp2_with fail
            refine FN.out.mono ?_
            rintro e w1 ⟨rfl, hb1⟩
            have HB1 := Lib.hid (HB.out.trans (hb1.mono hbs))
            have HO1 := Lib.hid (HO.out.kept (row := none) ⟨hb1.os, hb1.tape, hb1.output, hb1.size, fun k hk _ => hb1.block k hk⟩ (by cases hv : v.ownBlock <;> simp))
            have hbs1 := HB1.out.size
            clear hb1
            go_wp2_with (at_builtin
                         refine wpList_pair rfl (.tmp 25) (.tmp 27) 93 97 rfl w.heap.size (.agg #[.int .i64 0, .string ⟨#[]⟩]) (.int .i64 k) (.string d) 24 Tryd.underlying93 ext_info rfl (by decide) v xs.length (cells xs) rfl (HO1.out.alloc _) (w1.heap.size + 1) (by simp) rfl rfl rfl (by omega) (by simp; omega) ?_
                         intro v2 w2 ho2 hg2)
            have HB2 : Below w.heap.size w w2 := ((HB1.out.alloc (by omega) _).alloc (by simp; omega) _).grown hg2 (by simp; omega) fun g hg => (HO1.out.lt g hg).1
            have ho3 : w2.ownsRow w.heap.size 97 2 v2 (xs ++ [((k : Int), d)]).length (cells (xs ++ [((k : Int), d)])) := by
              rw [cells_append, List.length_append]
              exact ho2
            go_roundw
            case rel => exact ⟨_, _, v2, rfl, rfl, by simp only [List.length_append, List.length_singleton, hsz1]; omega, ho3, HB2, NX⟩
            case measure => simp only [hsz1]; omega
          · have NO : optsS s0 = none := by
              have := ht.out
              rw [optsS, dif_pos hp, if_neg hz0, if_neg hk1] at this
              rw [← this]
              split
              · rename_i h2
                rw [if_pos (by
                  apply Classical.byContradiction
                  intro hc
                  exact hgood ⟨h2, by omega, by omega⟩)]
                rfl
              · rfl
            have FB := Lib.hid (first_bad t _ wr (by omega) hp rfl hk1b (by
              by_cases h2 : 1 < t.size
              · right
                refine ⟨h2, ?_⟩
                apply Classical.byContradiction
                intro hc
                exact hgood ⟨h2, by omega, by omega⟩
              · left; omega))
            clear ho hb ht
            go_wp2_with fail
            refine FB.out.mono ?_
            rintro e w1 ⟨e1, rfl, hb1⟩
            have HB1 := Lib.hid (HB.out.trans (hb1.mono hbs))
            have P1 := P0.out.keep hb1
            have hbs1 := HB1.out.size
            have hbs2 := hb1.size
            clear hb1
            go_wp2_with fail
            refine (errno_fault e1 4 _ (P1.keep ((Below.refl _ _).alloc (Nat.le_refl _) _))).mono ?_
            rintro e w2 ⟨rfl, hb2⟩
            go_wp2_with fail
            all_goals go_ret2
            all_goals exact ⟨.inr ⟨NO, rfl⟩, (HB1.out.alloc (by omega) _).trans (hb2.mono (by simp; omega))⟩
end Go.Proofs.YtnpggkpcadefjaaDoor.Opts
