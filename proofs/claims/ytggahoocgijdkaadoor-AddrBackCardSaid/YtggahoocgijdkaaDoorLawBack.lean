/- The law AddrBack: its walk. -/
import Derived.Test.YtggahoocgijdkaaDoorAwake
import Derived.Test.YtggahoocgijdkaaDoorBack
set_option linter.unusedVariables false
namespace Go.Proofs.YtggahoocgijdkaaDoor.LawBack
open Go.RowKit Go.Proofs.YtggahoocgijdkaaDoor.Std Go.Proofs.YtggahoocgijdkaaDoor.Grp Go.Proofs.YtggahoocgijdkaaDoor.Arr Go.Proofs.YtggahoocgijdkaaDoor.Mask Go.Proofs.YtggahoocgijdkaaDoor.Masks Go.Proofs.YtggahoocgijdkaaDoor.Run Go.Proofs.YtggahoocgijdkaaDoor.Top Go.Proofs.YtggahoocgijdkaaDoor.Print Go.Proofs.YtggahoocgijdkaaDoor.Back Go.Proofs.YtggahoocgijdkaaDoor.Awake

/-- An address is printed so that the text is read back. -/
def Shown (a : ByteArray) : Prop := ∃ T : ByteArray, 0 < T.size ∧
  (∀ W, Std W → Calls Tryd.prog 12 #[.string a] W fun e w' => e = .returned (.tuple #[.string T, .int .i64 0]) ∧ Below W.heap.size W w') ∧
  (∀ W, Std W → Calls Tryd.prog 9 #[.string T] W fun e w' => e = .returned (.tuple #[.string a, .int .i64 0]) ∧ Below W.heap.size W w')
theorem bsz (l : List UInt8) : (⟨l.toArray⟩ : ByteArray).size = l.length := by rw [Lib.size_eq]
theorem got_own (a : ByteArray) : got (some (bts a)) = .returned (.tuple #[.string a, .int .i64 0]) := by
  show Ending.returned (.tuple #[.string (txt (bts a)), .int .i64 0]) = _
  rw [txt_bts]
theorem shown4 (a : ByteArray) (h : a.size = 4) : Shown a := by
  obtain ⟨h1, h2⟩ := back_print4 a h
  refine ⟨⟨(fourT (bts a)).toArray⟩, by rw [bsz]; exact h2, fun W hW => print_four a h W hW, fun W hW => ?_⟩
  have := parse_got ⟨(fourT (bts a)).toArray⟩ W hW (some (bts a)) h1
  rwa [got_own] at this
theorem shown16 (a : ByteArray) (h : a.size = 16) : Shown a := by
  obtain ⟨h1, h2⟩ := back_print6 a h
  refine ⟨⟨(sixT (grps a)).toArray⟩, by rw [bsz]; exact h2, fun W hW => print_six a h W hW, fun W hW => ?_⟩
  have := parse_got ⟨(sixT (grps a)).toArray⟩ W hW (some (bts a)) h1
  rwa [got_own] at this
theorem six_len {l : List UInt8} {g : List Nat} (h : Parse.sixV l = some g) : g.length = 8 := by
  unfold Parse.sixV at h
  split at h
  · unfold Parse.sixG at h
    split at h
    · rename_i hc
      injection h with h
      subst h
      simp only [List.length_append, List.length_replicate]
      omega
    · cases h
  · cases h
theorem parse_len {l : List UInt8} {g : List Nat} (h : parseV l = some g) : g.length = 4 ∨ g.length = 16 := by
  unfold parseV at h
  split at h
  · cases h
  · split at h
    · cases hv : Parse.sixV l with
      | none => rw [hv] at h; cases h
      | some r =>
        rw [hv] at h
        simp only [Option.map_some, Option.some.injEq] at h
        subst h
        right
        rw [ungrp_len, six_len hv]
    · unfold four at h
      split at h
      · split at h
        · injection h with h
          subst h
          left
          assumption
        · cases h
      · cases h
theorem p0 : parseV [] = none := by decide +kernel

set_option maxHeartbeats 1000000 in
theorem big (a s : ByteArray) (w : World) (ha : a.size ≤ 140737488355328) (hs : s.size ≤ 140737488355328) (h : 300 < a.size ∨ 300 < s.size) :
    Calls Tryd.prog 5 #[.string a, .string s] w fun e w' => e = .returned (.bool true) ∧ Below w.heap.size w w' := by
  by_cases h1 : 300 < a.size
  · clear h
    go_enter Tryd.func5, Tryd.ntmps5
    go_wp2_with fail
    go_ret
    exact ⟨rfl, Below.refl _ _⟩
  · have h2 : 300 < s.size := by omega
    clear h
    go_enter Tryd.func5, Tryd.ntmps5
    go_wp2_with fail
    go_ret
    exact ⟨rfl, Below.refl _ _⟩


set_option maxHeartbeats 2000000 in
theorem wayA4C (a s : ByteArray) (w : World) (hS : Std w) (ha : a.size ≤ 300) (hs : s.size ≤ 300) (g4 : ((a.size : Int) == 4) = true) (g16 : ((a.size : Int) == 16) = false) (HA : Shown a) (HC : ∃ o : ByteArray, Shown o ∧ ∀ W, Std W → Calls Tryd.prog 9 #[.string s] W fun e w' => e = .returned (.tuple #[.string o, .int .i64 0]) ∧ Below W.heap.size W w') :
    Calls Tryd.prog 5 #[.string a, .string s] w fun e w' => e = .returned (.bool true) ∧ Below w.heap.size w w' := by
  have AW := Lib.hid (fun W (hW : Std W) => awake_any W hW)
  obtain ⟨T1, z1, PR1, PA1⟩ := HA
  have PR1 := Lib.hid PR1
  have PA1 := Lib.hid PA1
  clear z1
  obtain ⟨o, ⟨T2, z2, PR2, PA2⟩, PS⟩ := HC
  have PR2 := Lib.hid PR2
  have PA2 := Lib.hid PA2
  have PS := Lib.hid PS
  go_enter Tryd.func5, Tryd.ntmps5
  go_wp2_with fail
  refine (PR1.out _ hS).mono ?_; rintro e1 w1 ⟨rfl, hb1⟩
  have h1 := hS.keep hb1
  have n1 := hb1
  go_wp2_with fail
  refine (PA1.out _ h1).mono ?_; rintro e2 w2 ⟨rfl, hb2⟩
  have h2 := h1.keep hb2
  have n2 := n1.trans (hb2.mono n1.size)
  go_wp2_with fail
  refine (PS.out _ h2).mono ?_; rintro e3 w3 ⟨rfl, hb3⟩
  have h3 := h2.keep hb3
  have n3 := n2.trans (hb3.mono n2.size)
  go_wp2_with fail
  refine (PR2.out _ h3).mono ?_; rintro e4 w4 ⟨rfl, hb4⟩
  have h4 := h3.keep hb4
  have n4 := n3.trans (hb4.mono n3.size)
  go_wp2_with fail
  refine (PA2.out _ h4).mono ?_; rintro e5 w5 ⟨rfl, hb5⟩
  have h5 := h4.keep hb5
  have n5 := n4.trans (hb5.mono n4.size)
  go_wp2_with fail
  refine (AW.out _ h5).mono ?_; rintro e6 w6 ⟨rfl, hb6⟩
  have n6 := n5.trans (hb6.mono n5.size)
  go_wp2_with fail
  go_ret
  exact ⟨rfl, n6⟩

set_option maxHeartbeats 2000000 in
theorem wayA4D (a s : ByteArray) (w : World) (hS : Std w) (ha : a.size ≤ 300) (hs : s.size ≤ 300) (g4 : ((a.size : Int) == 4) = true) (g16 : ((a.size : Int) == 16) = false) (HA : Shown a) (HD : ∀ W, Std W → Calls Tryd.prog 9 #[.string s] W fun e w' => e = .returned (.tuple #[.string ⟨#[]⟩, .int .i64 4]) ∧ Below W.heap.size W w') :
    Calls Tryd.prog 5 #[.string a, .string s] w fun e w' => e = .returned (.bool true) ∧ Below w.heap.size w w' := by
  have AW := Lib.hid (fun W (hW : Std W) => awake_any W hW)
  obtain ⟨T1, z1, PR1, PA1⟩ := HA
  have PR1 := Lib.hid PR1
  have PA1 := Lib.hid PA1
  clear z1
  have PS := Lib.hid HD
  clear HD
  go_enter Tryd.func5, Tryd.ntmps5
  go_wp2_with fail
  refine (PR1.out _ hS).mono ?_; rintro e1 w1 ⟨rfl, hb1⟩
  have h1 := hS.keep hb1
  have n1 := hb1
  go_wp2_with fail
  refine (PA1.out _ h1).mono ?_; rintro e2 w2 ⟨rfl, hb2⟩
  have h2 := h1.keep hb2
  have n2 := n1.trans (hb2.mono n1.size)
  go_wp2_with fail
  refine (PS.out _ h2).mono ?_; rintro e3 w3 ⟨rfl, hb3⟩
  have h3 := h2.keep hb3
  have n3 := n2.trans (hb3.mono n2.size)
  go_wp2_with fail
  refine (AW.out _ h3).mono ?_; rintro e6 w6 ⟨rfl, hb6⟩
  have n6 := n3.trans (hb6.mono n3.size)
  go_wp2_with fail
  go_ret
  exact ⟨rfl, n6⟩

set_option maxHeartbeats 2000000 in
theorem wayA16C (a s : ByteArray) (w : World) (hS : Std w) (ha : a.size ≤ 300) (hs : s.size ≤ 300) (g4 : ((a.size : Int) == 4) = false) (g16 : ((a.size : Int) == 16) = true) (HA : Shown a) (HC : ∃ o : ByteArray, Shown o ∧ ∀ W, Std W → Calls Tryd.prog 9 #[.string s] W fun e w' => e = .returned (.tuple #[.string o, .int .i64 0]) ∧ Below W.heap.size W w') :
    Calls Tryd.prog 5 #[.string a, .string s] w fun e w' => e = .returned (.bool true) ∧ Below w.heap.size w w' := by
  have AW := Lib.hid (fun W (hW : Std W) => awake_any W hW)
  obtain ⟨T1, z1, PR1, PA1⟩ := HA
  have PR1 := Lib.hid PR1
  have PA1 := Lib.hid PA1
  clear z1
  obtain ⟨o, ⟨T2, z2, PR2, PA2⟩, PS⟩ := HC
  have PR2 := Lib.hid PR2
  have PA2 := Lib.hid PA2
  have PS := Lib.hid PS
  go_enter Tryd.func5, Tryd.ntmps5
  go_wp2_with fail
  refine (PR1.out _ hS).mono ?_; rintro e1 w1 ⟨rfl, hb1⟩
  have h1 := hS.keep hb1
  have n1 := hb1
  go_wp2_with fail
  refine (PA1.out _ h1).mono ?_; rintro e2 w2 ⟨rfl, hb2⟩
  have h2 := h1.keep hb2
  have n2 := n1.trans (hb2.mono n1.size)
  go_wp2_with fail
  refine (PS.out _ h2).mono ?_; rintro e3 w3 ⟨rfl, hb3⟩
  have h3 := h2.keep hb3
  have n3 := n2.trans (hb3.mono n2.size)
  go_wp2_with fail
  refine (PR2.out _ h3).mono ?_; rintro e4 w4 ⟨rfl, hb4⟩
  have h4 := h3.keep hb4
  have n4 := n3.trans (hb4.mono n3.size)
  go_wp2_with fail
  refine (PA2.out _ h4).mono ?_; rintro e5 w5 ⟨rfl, hb5⟩
  have h5 := h4.keep hb5
  have n5 := n4.trans (hb5.mono n4.size)
  go_wp2_with fail
  refine (AW.out _ h5).mono ?_; rintro e6 w6 ⟨rfl, hb6⟩
  have n6 := n5.trans (hb6.mono n5.size)
  go_wp2_with fail
  go_ret
  exact ⟨rfl, n6⟩

set_option maxHeartbeats 2000000 in
theorem wayA16D (a s : ByteArray) (w : World) (hS : Std w) (ha : a.size ≤ 300) (hs : s.size ≤ 300) (g4 : ((a.size : Int) == 4) = false) (g16 : ((a.size : Int) == 16) = true) (HA : Shown a) (HD : ∀ W, Std W → Calls Tryd.prog 9 #[.string s] W fun e w' => e = .returned (.tuple #[.string ⟨#[]⟩, .int .i64 4]) ∧ Below W.heap.size W w') :
    Calls Tryd.prog 5 #[.string a, .string s] w fun e w' => e = .returned (.bool true) ∧ Below w.heap.size w w' := by
  have AW := Lib.hid (fun W (hW : Std W) => awake_any W hW)
  obtain ⟨T1, z1, PR1, PA1⟩ := HA
  have PR1 := Lib.hid PR1
  have PA1 := Lib.hid PA1
  clear z1
  have PS := Lib.hid HD
  clear HD
  go_enter Tryd.func5, Tryd.ntmps5
  go_wp2_with fail
  refine (PR1.out _ hS).mono ?_; rintro e1 w1 ⟨rfl, hb1⟩
  have h1 := hS.keep hb1
  have n1 := hb1
  go_wp2_with fail
  refine (PA1.out _ h1).mono ?_; rintro e2 w2 ⟨rfl, hb2⟩
  have h2 := h1.keep hb2
  have n2 := n1.trans (hb2.mono n1.size)
  go_wp2_with fail
  refine (PS.out _ h2).mono ?_; rintro e3 w3 ⟨rfl, hb3⟩
  have h3 := h2.keep hb3
  have n3 := n2.trans (hb3.mono n2.size)
  go_wp2_with fail
  refine (AW.out _ h3).mono ?_; rintro e6 w6 ⟨rfl, hb6⟩
  have n6 := n3.trans (hb6.mono n3.size)
  go_wp2_with fail
  go_ret
  exact ⟨rfl, n6⟩

set_option maxHeartbeats 2000000 in
theorem wayBC (a s : ByteArray) (w : World) (hS : Std w) (ha : a.size ≤ 300) (hs : s.size ≤ 300) (g4 : ((a.size : Int) == 4) = false) (g16 : ((a.size : Int) == 16) = false)  (HC : ∃ o : ByteArray, Shown o ∧ ∀ W, Std W → Calls Tryd.prog 9 #[.string s] W fun e w' => e = .returned (.tuple #[.string o, .int .i64 0]) ∧ Below W.heap.size W w') :
    Calls Tryd.prog 5 #[.string a, .string s] w fun e w' => e = .returned (.bool true) ∧ Below w.heap.size w w' := by
  have AW := Lib.hid (fun W (hW : Std W) => awake_any W hW)
  have PR1 := Lib.hid (fun W => print_no a (by simp only [maxLen]; omega) (fun e => by rw [beq_eq_false_iff_ne] at g4; omega) (fun e => by rw [beq_eq_false_iff_ne] at g16; omega) W)
  have PA1 := Lib.hid (fun W (hW : Std W) => parse_got ⟨#[]⟩ W hW none p0)
  obtain ⟨o, ⟨T2, z2, PR2, PA2⟩, PS⟩ := HC
  have PR2 := Lib.hid PR2
  have PA2 := Lib.hid PA2
  have PS := Lib.hid PS
  go_enter Tryd.func5, Tryd.ntmps5
  go_wp2_with fail
  refine (PR1.out _).mono ?_; rintro e1 w1 ⟨rfl, rfl⟩
  go_wp2_with fail
  refine (PA1.out _ hS).mono ?_; rintro e2 w2 ⟨he, hb2⟩
  obtain rfl : e2 = .returned (.tuple #[.string ⟨#[]⟩, .int .i64 4]) := he
  have h2 := hS.keep hb2
  have n2 := hb2
  go_wp2_with fail
  refine (PS.out _ h2).mono ?_; rintro e3 w3 ⟨rfl, hb3⟩
  have h3 := h2.keep hb3
  have n3 := n2.trans (hb3.mono n2.size)
  go_wp2_with fail
  refine (PR2.out _ h3).mono ?_; rintro e4 w4 ⟨rfl, hb4⟩
  have h4 := h3.keep hb4
  have n4 := n3.trans (hb4.mono n3.size)
  go_wp2_with fail
  refine (PA2.out _ h4).mono ?_; rintro e5 w5 ⟨rfl, hb5⟩
  have h5 := h4.keep hb5
  have n5 := n4.trans (hb5.mono n4.size)
  go_wp2_with fail
  refine (AW.out _ h5).mono ?_; rintro e6 w6 ⟨rfl, hb6⟩
  have n6 := n5.trans (hb6.mono n5.size)
  go_wp2_with fail
  go_ret
  exact ⟨rfl, n6⟩

set_option maxHeartbeats 2000000 in
theorem wayBD (a s : ByteArray) (w : World) (hS : Std w) (ha : a.size ≤ 300) (hs : s.size ≤ 300) (g4 : ((a.size : Int) == 4) = false) (g16 : ((a.size : Int) == 16) = false)  (HD : ∀ W, Std W → Calls Tryd.prog 9 #[.string s] W fun e w' => e = .returned (.tuple #[.string ⟨#[]⟩, .int .i64 4]) ∧ Below W.heap.size W w') :
    Calls Tryd.prog 5 #[.string a, .string s] w fun e w' => e = .returned (.bool true) ∧ Below w.heap.size w w' := by
  have AW := Lib.hid (fun W (hW : Std W) => awake_any W hW)
  have PR1 := Lib.hid (fun W => print_no a (by simp only [maxLen]; omega) (fun e => by rw [beq_eq_false_iff_ne] at g4; omega) (fun e => by rw [beq_eq_false_iff_ne] at g16; omega) W)
  have PA1 := Lib.hid (fun W (hW : Std W) => parse_got ⟨#[]⟩ W hW none p0)
  have PS := Lib.hid HD
  clear HD
  go_enter Tryd.func5, Tryd.ntmps5
  go_wp2_with fail
  refine (PR1.out _).mono ?_; rintro e1 w1 ⟨rfl, rfl⟩
  go_wp2_with fail
  refine (PA1.out _ hS).mono ?_; rintro e2 w2 ⟨he, hb2⟩
  obtain rfl : e2 = .returned (.tuple #[.string ⟨#[]⟩, .int .i64 4]) := he
  have h2 := hS.keep hb2
  have n2 := hb2
  go_wp2_with fail
  refine (PS.out _ h2).mono ?_; rintro e3 w3 ⟨rfl, hb3⟩
  have h3 := h2.keep hb3
  have n3 := n2.trans (hb3.mono n2.size)
  go_wp2_with fail
  refine (AW.out _ h3).mono ?_; rintro e6 w6 ⟨rfl, hb6⟩
  have n6 := n3.trans (hb6.mono n3.size)
  go_wp2_with fail
  go_ret
  exact ⟨rfl, n6⟩

theorem all (a s : ByteArray) (w : World) (hS : Std w) (ha : a.size ≤ 140737488355328) (hs : s.size ≤ 140737488355328) :
    Calls Tryd.prog 5 #[.string a, .string s] w fun e w' => e = .returned (.bool true) ∧ Below w.heap.size w w' := by
  by_cases hb : 300 < a.size ∨ 300 < s.size
  · exact big a s w ha hs hb
  · have h1 : a.size ≤ 300 := by omega
    have h2 : s.size ≤ 300 := by omega
    have four : a.size = 4 → ((a.size : Int) == 4) = true ∧ ((a.size : Int) == 16) = false := fun e => by rw [e]; decide
    have six : a.size = 16 → ((a.size : Int) == 4) = false ∧ ((a.size : Int) == 16) = true := fun e => by rw [e]; decide
    have no : a.size ≠ 4 → a.size ≠ 16 → ((a.size : Int) == 4) = false ∧ ((a.size : Int) == 16) = false := fun e e' => by
      constructor <;> (rw [beq_eq_false_iff_ne]; omega)
    cases hp : parseV s.data.toList with
    | none =>
      have HD := fun W (hW : Std W) => parse_got s W hW none hp
      by_cases h4 : a.size = 4
      · exact wayA4D a s w hS h1 h2 (four h4).1 (four h4).2 (shown4 a h4) HD
      · by_cases h6 : a.size = 16
        · exact wayA16D a s w hS h1 h2 (six h6).1 (six h6).2 (shown16 a h6) HD
        · exact wayBD a s w hS h1 h2 (no h4 h6).1 (no h4 h6).2 HD
    | some g =>
      have HC : ∃ o : ByteArray, Shown o ∧ ∀ W, Std W → Calls Tryd.prog 9 #[.string s] W fun e w' => e = .returned (.tuple #[.string o, .int .i64 0]) ∧ Below W.heap.size W w' := by
        refine ⟨txt g, ?_, fun W hW => parse_got s W hW (some g) hp⟩
        rcases parse_len hp with h | h
        · exact shown4 _ (by rw [txt_size]; exact h)
        · exact shown16 _ (by rw [txt_size]; exact h)
      by_cases h4 : a.size = 4
      · exact wayA4C a s w hS h1 h2 (four h4).1 (four h4).2 (shown4 a h4) HC
      · by_cases h6 : a.size = 16
        · exact wayA16C a s w hS h1 h2 (six h6).1 (six h6).2 (shown16 a h6) HC
        · exact wayBC a s w hS h1 h2 (no h4 h6).1 (no h4 h6).2 HC

end Go.Proofs.YtggahoocgijdkaaDoor.LawBack
