/- The contract of firstExt. -/
import Derived.Test.YtjfieoleoodfdaaExb6
set_option linter.unusedVariables false
namespace Go.Proofs.Ytjfieoleoodfdaa.First6
open Go.RowKit Go.Proofs.Ytjfieoleoodfdaa.Sums Go.Proofs.Ytjfieoleoodfdaa.Mem Go.Proofs.Ytjfieoleoodfdaa.P6 Go.Proofs.Ytjfieoleoodfdaa.Blk Go.Proofs.Ytjfieoleoodfdaa.Regs Go.Proofs.Ytjfieoleoodfdaa.Small6 Go.Proofs.Ytjfieoleoodfdaa.Cut

def aggB : TypeDesc → Bool
  | .struct _ => true
  | .array _ _ => true
  | _ => false
theorem oneExt (a0 : Int) (s : ByteArray) : (#[.int .i64 a0, .string s] : Array Value).all (·.oneCell') = true := by simp [Value.oneCell']
theorem below_setRow {w W : World} {g : Nat} (h : Below w.heap.size w W) (hg : w.heap.size ≤ g) (cs : Array Value) : Below w.heap.size w (W.setRow g cs) :=
  ⟨h.os, h.tape, h.output, by simpa [World.setRow] using h.size, fun k hk => (setRow_other W g k cs (by omega)).trans (h.block k hk)⟩
theorem results_pair {fn : Func} {p q : Tmp} {ty : TypeId} (h : fn.results = #[.cell p ty, .tmp q]) (tmps : Array Value) (w : World) (g : Nat) (t : TypeId) (cs : Array Value) (fr : Nat × Nat) (d : TypeDesc) (v : Value)
    (hp : tmps.getD p undef = .pointer (some ⟨g, 0, none⟩)) (hq : tmps.getD q undef = v) (hg : w.heap[g]? = some (.cells cs t fr))
    (hu : Try.prog.underlying ty = some d) (hd : aggB d = true) (hi : (Try.prog.info? ty).map (·.size) = some cs.size) :
    (results fn tmps).run Try.prog w = .ok (.tuple #[.agg cs, v]) w := by
  have hp' : tmps[p]?.getD undef = .pointer (some ⟨g, 0, none⟩) := by simpa using hp
  have hq' : tmps[q]?.getD undef = v := by simpa using hq
  have e := run_loadVar_row (P := Try.prog) w g t ty cs fr d hg hu (by cases d <;> simp_all [aggB]) hi
  simp [results, h, hp', hq', asAddr, e]

/-- May a header begin there? -/
def bad (k : Int) (i : Nat) (l : List Int) : Prop := (k = 0 ∧ 0 < i) ∨ l.length < 8 ∨ l.length < endOf k l
def Ff (k : Int) (i : Nat) (l : List Int) (w : World) (e : Ending) (w' : World) : Prop :=
  ((bad k i l ∧ ∃ s, e = .returned (.tuple #[.agg #[.int .i64 0, .string ⟨#[]⟩], .iface 64 (.agg #[.string s, .iface 28 (.int .i64 4)])])) ∨
   (¬ bad k i l ∧ e = .returned (.tuple #[.agg #[.int .i64 k, .string (strOfNums ((l.take (endOf k l)).drop (opn k)))], .nilIface]))) ∧ Below w.heap.size w w'

set_option maxHeartbeats 1000000 in
set_option maxRecDepth 100000 in
theorem first_any (A : Option Addr) (n c : Nat) (l : List Int) (w : World) (B : Nat) (h : Holds w B A n c l) (hB : B ≤ w.heap.size) (hn : n ≤ 1048576) (k : Int) (i : Nat) (hi : i ≤ 1048576) : Calls Try.prog 40 #[.slice A n c, .int .i64 k, .int .i64 (i : Int)] w (Ff k i l w) := by
  have hl := h.1
  have hcm := h.2.2.1
  have hnc := h.2.1
  unfold maxLen at hcm
  have B0 := Lib.hid ((Below.refl w.heap.size w).alloc (Nat.le_refl _) (.cells #[.int .i64 0, .string ⟨#[]⟩] 43))
  have MI := Lib.hid (fun W => misplaced_any k (i : Int) W)
  have M0 : Hid (mis k (i : Int) = (k == 0 && decide (0 < (i : Int)))) := Lib.hid rfl
  by_cases q1 : k = 0 ∧ 0 < i
  · have M1 : mis k (i : Int) = true := by rw [M0.out, q1.1]; simp; omega
    rw [M1] at MI
    have BD : Hid (bad k i l) := Lib.hid (.inl q1)
    clear M1 q1 M0 h hl
    go_enter Try.func40, Try.ntmps40
    go_wp2_with fail
    refine (MI.out _).mono ?_
    rintro e w1 ⟨rfl, rfl⟩
    go_wp2_with fail
    refine bodyPost_ret (v := .tuple #[.agg #[.int .i64 0, .string ⟨#[]⟩], .iface 64 (.agg #[.string ⟨#[112, 108, 97, 99, 101, 32, 111, 102, 32, 97, 110, 32, 101, 120, 116, 101, 110, 115, 105, 111, 110, 32, 104, 101, 97, 100, 101, 114]⟩, .iface 28 (.int .i64 4)])]) (by simp [results, Try.results40, go_sem]) rfl ?_
    exact ⟨.inl ⟨BD.out, _, rfl⟩, B0.out⟩
  have M1 : mis k (i : Int) = false := by
    rw [M0.out]
    by_cases a : k = 0
    · have : ¬ 0 < i := fun x => q1 ⟨a, x⟩
      simp; intro _; omega
    · simp [a]
  rw [M1] at MI
  clear M1 M0
  by_cases q2 : n < 8
  · have BD : Hid (bad k i l) := Lib.hid (.inr (.inl (by omega)))
    clear q1 h hl
    go_enter Try.func40, Try.ntmps40
    go_wp2_with fail
    refine (MI.out _).mono ?_
    rintro e w1 ⟨rfl, rfl⟩
    go_wp2_with fail
    refine bodyPost_ret (v := .tuple #[.agg #[.int .i64 0, .string ⟨#[]⟩], .iface 64 (.agg #[.string ⟨#[101, 120, 116, 101, 110, 115, 105, 111, 110, 32, 104, 101, 97, 100, 101, 114]⟩, .iface 28 (.int .i64 4)])]) (by simp [results, Try.results40, go_sem]) rfl ?_
    exact ⟨.inl ⟨BD.out, _, rfl⟩, B0.out⟩
  obtain ⟨b, p, rfl, _⟩ := h.2.2.2.2 (by omega)
  have ee := end_ge k l
  have c1 := cell_getD (h.below (B0.out.mono hB)) 1 (by omega)
  have z1 := getD_in h.2.2.2.1 1
  obtain ⟨T, hT⟩ : ∃ T, T = endOf k l := ⟨_, rfl⟩
  have T8 : 8 ≤ T := by omega
  have X0 := Lib.hid (Blk.new w 43 #[.int .i64 0, .string ⟨#[]⟩])
  have OP := Lib.hid (fun W => opening_any k W)
  have opb := opn_le k
  have i1 : (1 : Int) < (n : Int) := by omega
  by_cases q3 : n < T
  · have BD : Hid (bad k i l) := Lib.hid (.inr (.inr (by omega)))
    have q3' : decide (n < T) = true := decide_eq_true q3
    by_cases k4 : k = 44
    · subst k4
      have t8 : T = 8 := by rw [hT]; unfold endOf; rw [if_pos rfl]
      subst t8
      clear hT q1 h hl ee
      go_enter Try.func40, Try.ntmps40
      go_wp2_with fail
      refine (MI.out _).mono ?_
      rintro e w1 ⟨rfl, rfl⟩
      go_wp2_with fail
    · have k4' : (k != 44) = true := by rw [bne_iff_ne]; exact k4
      have tz : (8 : Int) + l.getD 1 0 * 8 = (T : Int) := by rw [hT]; unfold endOf; rw [if_neg k4]; omega
      have TZ := Lib.hid tz
      clear hT q1 h hl ee tz
      generalize l.getD 1 0 = z at *
      go_enter Try.func40, Try.ntmps40
      go_wp2_with fail
      refine (MI.out _).mono ?_
      rintro e w1 ⟨rfl, rfl⟩
      have tz := TZ.out
      go_wp2_with fail
      refine bodyPost_ret (v := .tuple #[.agg #[.int .i64 0, .string ⟨#[]⟩], .iface 64 (.agg #[.string ⟨#[101, 120, 116, 101, 110, 115, 105, 111, 110, 32, 104, 101, 97, 100, 101, 114]⟩, .iface 28 (.int .i64 4)])]) (by simp [results, Try.results40, go_sem]) rfl ?_
      exact ⟨.inl ⟨BD.out, _, rfl⟩, B0.out⟩
  · have q3' : decide (n < T) = false := decide_eq_false q3
    have BD : Hid (¬ bad k i l) := Lib.hid (by
      rintro (⟨a, b⟩ | a | a)
      · exact q1 ⟨a, b⟩
      · omega
      · omega)
    have ST : Hid (strOfNums ((l.drop (opn k)).take (T - opn k)) = strOfNums ((l.take (endOf k l)).drop (opn k))) := Lib.hid (by rw [← hT, List.drop_take])
    have CT : ∀ W, (Instr.sliceAt 23 (.slice (some ⟨b, p, none⟩) n c) (some (.int .i64 (opn k : Int))) (some (.int .i64 (T : Int))) none).run Try.prog W = .ok (.slice (some (adr b p c (opn k))) (T - opn k) (c - opn k)) W := fun W => cutA_lh b p n c (opn k) T W (by omega) (by omega)
    have HB0 := h.below (B0.out.mono hB)
    have CV := run_string_bytes (cutA_holds (lo := opn k) (hi := T) HB0 (by omega) (by omega))
    rw [ST.out] at CV
    obtain ⟨S, hS⟩ : ∃ S, S = strOfNums ((l.take (endOf k l)).drop (opn k)) := ⟨_, rfl⟩
    rw [← hS] at CV
    have HS := Lib.hid hS
    clear hS ST
    by_cases k4 : k = 44
    · have t8 : T = 8 := by rw [hT]; unfold endOf; rw [if_pos k4]
      subst t8
      have k4' : (k != 44) = false := by rw [bne_eq_false_iff_eq]; exact k4
      have CT8 : ∀ W, (Instr.sliceAt 23 (.slice (some ⟨b, p, none⟩) n c) (some (.int .i64 (opn k : Int))) (some (.int .i64 8)) none).run Try.prog W = .ok (.slice (some (adr b p c (opn k))) (8 - opn k) (c - opn k)) W := CT
      clear CT hT q1 h hl ee HB0 k4
      go_enter Try.func40, Try.ntmps40
      go_wp2_with fail
      refine (MI.out _).mono ?_
      rintro e w1 ⟨rfl, rfl⟩
      go_wp2_with fail
      refine (OP.out _).mono ?_
      rintro e w1 ⟨rfl, rfl⟩
      go_wp2_with (first
        | (refine wpList_store_row rfl _ (.tmp 6) (.tmp 47) rfl w.heap.size #[.int .i64 k, .string S] rfl rfl 43 _ X0.out (by kernel_rfl) rfl (oneExt _ _) ?_))
      exact bodyPost_ret (results_pair rfl _ _ w.heap.size 43 _ (0, 0) _ _ rfl rfl (setRow_heap _ _ _ _ _ _ X0.out) Try.underlying43 rfl (by kernel_rfl)) rfl ⟨.inr ⟨BD.out, by rw [← HS.out]; rfl⟩, below_setRow B0.out (Nat.le_refl _) _⟩
    · have k4' : (k != 44) = true := by rw [bne_iff_ne]; exact k4
      have tz : (8 : Int) + l.getD 1 0 * 8 = (T : Int) := by rw [hT]; unfold endOf; rw [if_neg k4]; omega
      have TZ := Lib.hid tz
      clear hT q1 h hl ee tz HB0 k4
      generalize l.getD 1 0 = z at *
      have e1 : IntKind.i64.wrap (8 + z * 8) = (T : Int) := by rw [TZ.out, IntWalk.i64_in _ (by omega)]
      go_enter Try.func40, Try.ntmps40
      go_wp2_with fail
      refine (MI.out _).mono ?_
      rintro e w1 ⟨rfl, rfl⟩
      have tz := TZ.out
      go_wp2_with fail
      refine (OP.out _).mono ?_
      rintro e w1 ⟨rfl, rfl⟩
      go_wp2_with (first
        | (refine wpList_store_row rfl _ (.tmp 6) (.tmp 47) rfl w.heap.size #[.int .i64 k, .string S] rfl rfl 43 _ X0.out (by kernel_rfl) rfl (oneExt _ _) ?_))
      exact bodyPost_ret (results_pair rfl _ _ w.heap.size 43 _ (0, 0) _ _ rfl rfl (setRow_heap _ _ _ _ _ _ X0.out) Try.underlying43 rfl (by kernel_rfl)) rfl ⟨.inr ⟨BD.out, by rw [← HS.out]; rfl⟩, below_setRow B0.out (Nat.le_refl _) _⟩
end Go.Proofs.Ytjfieoleoodfdaa.First6
