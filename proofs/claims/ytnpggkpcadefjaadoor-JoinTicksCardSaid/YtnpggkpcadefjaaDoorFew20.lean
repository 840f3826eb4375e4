/- Is a script small enough for the laws? -/
import Derived.Test.YtnpggkpcadefjaaDoorArgT
import Derived.Test.YtnpggkpcadefjaaDoorM21
import Derived.Test.YtnpggkpcadefjaaDoorStore
set_option linter.unusedVariables false
set_option maxRecDepth 100000
namespace Go.Proofs.YtnpggkpcadefjaaDoor.Few20
open Go.RowKit Go.Proofs.YtnpggkpcadefjaaDoor.Sums Go.Proofs.YtnpggkpcadefjaaDoor.Mem Go.Proofs.YtnpggkpcadefjaaDoor.Blk Go.Proofs.YtnpggkpcadefjaaDoor.Pkt Go.Proofs.YtnpggkpcadefjaaDoor.Check Go.Proofs.YtnpggkpcadefjaaDoor.ArgT Go.Proofs.YtnpggkpcadefjaaDoor.JoiA

def oneO (acc : Nat) (r : Op20R) : Bool := decide (r.x9.size + r.x10.size + r.x11.size ≤ 300) && (decide (acc + r.xn12 ≤ 20000) && (decide (-1000000000 ≤ r.x0) && decide (r.x0 ≤ 1000000000)))
def fewO : Nat → List Op20R → Bool
  | _, [] => true
  | acc, r :: rs => oneO acc r && fewO (acc + r.xn12) rs
def fewS (rs : List Op20R) : Bool := decide (rs.length ≤ 120) && fewO 0 rs
/-- Each call's packet is small. -/
theorem few_each : ∀ (rs : List Op20R) (acc : Nat), fewO acc rs = true → ∀ r ∈ rs, r.x9.size + r.x10.size + r.x11.size ≤ 300 ∧ r.xn12 ≤ 20000 ∧ -1000000000 ≤ r.x0 ∧ r.x0 ≤ 1000000000 := by
  intro rs
  induction rs with
  | nil => intro _ _ r h; cases h
  | cons x rs ih =>
    intro acc h r hr
    rw [fewO, Bool.and_eq_true] at h
    rcases List.mem_cons.1 hr with rfl | hr
    · have := h.1
      unfold oneO at this
      simp only [Bool.and_eq_true, decide_eq_true_eq] at this
      omega
    · exact ih _ h.2 r hr
/-- The packet of a call, and where a call lies. -/
def pkO (r : Op20R) : Pkt := ⟨r.x2, r.x3, r.x4, r.x5, r.x6, r.x7, r.x8, r.x9, r.x10, r.x11⟩
theorem ops_at {w W : World} {A : Option Addr} {n : Nat} {rs : List Op20R} (h : Op20Rows w A n rs) (hb : Below w.heap.size w W) {i : Nat} {r : Op20R} (hr : rs[i]? = some r) : r.ok w ∧ ∃ b o, A = some ⟨b, o, none⟩ ∧ b < w.heap.size ∧ Part.At W b (o + i * 13) r.cells := by
  have hi : i < n := by rw [← h.1]; exact (List.getElem?_eq_some_iff.1 hr).1
  obtain ⟨b, o, e, hlt, hall⟩ := h.2 (by omega)
  obtain ⟨ok, hc⟩ := hall i r hr
  exact ⟨ok, b, o, e, hlt, fun j v hj => (hb.cell (p := ⟨b, o + i * 13 + j, none⟩) hlt).trans (hc j v hj)⟩
set_option maxHeartbeats 2000000 in
theorem few_any (A : Option Addr) (n c : Nat) (rs : List Op20R) (w : World) (h : Op20Rows w A n rs) (hn : n ≤ 9223372036854775807) : Calls Tryd.prog 8 #[.slice A n c] w fun e w' => e = .returned (.bool (fewS rs)) ∧ Below w.heap.size w w' := by
  have HH := Lib.hid h
  have LN := Lib.hid h.1
  obtain ⟨u, hu⟩ : ∃ u, fewS rs = u := ⟨_, rfl⟩
  have U := Lib.hid hu
  rw [hu]
  clear hu h
  by_cases big : 120 < n
  · have g0 : decide (120 < n) = true := decide_eq_true big
    have E : Hid (u = false) := Lib.hid (by rw [← U.out]; unfold fewS; rw [decide_eq_false (by rw [LN.out]; omega), Bool.false_and])
    clear U
    go_enter Tryd.func8, Tryd.ntmps8
    go_wp2_with fail
    go_ret
    exact ⟨by rw [E.out]; rfl, Below.refl _ _⟩
  have g0 : decide (120 < n) = false := decide_eq_false big
  have E : Hid (fewO 0 rs = u) := Lib.hid (by rw [← U.out]; unfold fewS; rw [decide_eq_true (by rw [LN.out]; omega), Bool.true_and])
  clear U
  go_enter Tryd.func8, Tryd.ntmps8
  go_wp2_with fail
  clear g0
  go_loopw [3, 4] (fun nv iv wr => ∃ i acc : Nat, nv = .int .i64 (acc : Int) ∧ iv = .int .i64 (i : Int) ∧ i ≤ n ∧ acc ≤ 20000 ∧ Hid (fewO acc (rs.drop i) = u) ∧ Hid (Below w.heap.size w wr)) (fun _ iv _ => n - (intOf iv).toNat)
  case atStart => exact ⟨0, 0, rfl, rfl, Nat.zero_le _, Nat.zero_le _, E, Lib.hid (Below.refl _ _)⟩
  case round =>
    obtain ⟨i, acc, rfl, rfl, hi, ha, HE, HW⟩ := hrel
    clear E
    by_cases lt : i < n
    · obtain ⟨r, hr⟩ : ∃ r, rs[i]? = some r := ⟨_, List.getElem?_eq_getElem (by rw [LN.out]; exact lt)⟩
      obtain ⟨ok, b, o, rfl, hlt, hat⟩ := ops_at HH.out HW.out hr
      have z9 : r.x9.size ≤ 140737488355328 := ok.2.2.1
      have z10 : r.x10.size ≤ 140737488355328 := ok.2.2.2.1
      have z11 : r.x11.size ≤ 140737488355328 := ok.2.2.2.2.1
      have z12 : r.xn12 ≤ 140737488355328 := ok.2.2.2.2.2
      have e2 : rs.drop i = r :: rs.drop (i + 1) := by
        have hl := (List.getElem?_eq_some_iff.1 hr).1
        rw [List.drop_eq_getElem_cons hl]
        rw [(List.getElem?_eq_some_iff.1 hr).2]
      have NX : Hid ((oneO acc r && fewO (acc + r.xn12) (rs.drop (i + 1))) = u) := Lib.hid (by have := HE.out; rw [e2] at this; exact this)
      have RP := Part.run_part wr b (o + i * 13 + 2) 32 [.int .i64 r.x2, .int .i64 r.x3, .int .i64 r.x4, .int .i64 r.x5, .bool r.x6, .bool r.x7, .int .i64 r.x8, .string r.x9, .string r.x10, .string r.x11, .slice r.xA12 r.xn12 r.xc12] _ Tryd.underlying32 rfl (by kernel_rfl) (hat.sub 2 11)
      have c0 : wr.cell? ⟨b, o + i * 13, none⟩ = some (.int .i64 r.x0) := hat 0 _ rfl
      have one : Hid ((#[.int .i64 r.x2, .int .i64 r.x3, .int .i64 r.x4, .int .i64 r.x5, .bool r.x6, .bool r.x7, .int .i64 r.x8, .string r.x9, .string r.x10, .string r.x11, .slice r.xA12 r.xn12 r.xc12] : Array Value).all (·.oneCell') = true) := Lib.hid (by simp [Value.oneCell'])
      obtain ⟨kb, xb⟩ := alloc_box wr #[.int .i64 r.x2, .int .i64 r.x3, .int .i64 r.x4, .int .i64 r.x5, .bool r.x6, .bool r.x7, .int .i64 r.x8, .string r.x9, .string r.x10, .string r.x11, .slice r.xA12 r.xn12 r.xc12] one.out rfl
      have J1 := Lib.hid (Blk.new wr 32 #[.int .i64 0, .int .i64 0, .int .i64 0, .int .i64 0, .bool false, .bool false, .int .i64 0, .string ⟨#[]⟩, .string ⟨#[]⟩, .string ⟨#[]⟩, .slice none 0 0])
      have d7 := kb.cell 7
      have d8 := kb.cell 8
      have d9 := kb.cell 9
      have d10 := kb.cell 10
      have d0 : ((wr.alloc (.cells #[.int .i64 0, .int .i64 0, .int .i64 0, .int .i64 0, .bool false, .bool false, .int .i64 0, .string ⟨#[]⟩, .string ⟨#[]⟩, .string ⟨#[]⟩, .slice none 0 0] 32)).setRow wr.heap.size #[.int .i64 r.x2, .int .i64 r.x3, .int .i64 r.x4, .int .i64 r.x5, .bool r.x6, .bool r.x7, .int .i64 r.x8, .string r.x9, .string r.x10, .string r.x11, .slice r.xA12 r.xn12 r.xc12]).cell? ⟨b, o + i * 13, none⟩ = some (.int .i64 r.x0) := keep_cell c0 xb
      have HX := Lib.hid (HW.out.trans (xb.mono HW.out.size))
      have f1 : decide (i < n) = true := decide_eq_true lt
      have f2 : IntKind.i64.wrap ((i : Int) + 1) = ((i + 1 : Nat) : Int) := by rw [IntWalk.i64_in _ (by omega)]; omega
      obtain ⟨ac2, hac⟩ : ∃ ac2, acc + r.xn12 = ac2 := ⟨_, rfl⟩
      have f3 : IntKind.i64.wrap ((acc : Int) + (r.xn12 : Int)) = (ac2 : Int) := by rw [IntWalk.i64_in _ (by omega)]; omega
      have AC := Lib.hid hac
      clear hat kb xb ok e2 hr HE hac
      by_cases c1 : r.x9.size + r.x10.size + r.x11.size ≤ 300
      · by_cases c2 : ac2 ≤ 20000
        · by_cases c3 : -1000000000 ≤ r.x0
          · by_cases c4 : r.x0 ≤ 1000000000
            · have E2 : Hid (fewO ac2 (rs.drop (i + 1)) = u) := Lib.hid (by
                rw [← NX.out, AC.out]
                have : oneO acc r = true := by
                  unfold oneO
                  rw [AC.out, decide_eq_true c1, decide_eq_true c2, decide_eq_true c3, decide_eq_true c4]
                  rfl
                rw [this, Bool.true_and])
              clear NX
              go_wp2_with (first | (refine Store.at_load 32 (.tmp 18) ?_ ?_; exact rfl; refine Part.wpList_load_part rfl 32 (.tmp 18) rfl b (o + i * 13 + 2) [.int .i64 r.x2, .int .i64 r.x3, .int .i64 r.x4, .int .i64 r.x5, .bool r.x6, .bool r.x7, .int .i64 r.x8, .string r.x9, .string r.x10, .string r.x11, .slice r.xA12 r.xn12 r.xc12] rfl RP ?_) | (refine Store.at_store 32 (.tmp 5) (.tmp 19) ?_ ?_; exact rfl; refine wpList_store_row rfl 32 (.tmp 5) (.tmp 19) rfl wr.heap.size #[.int .i64 r.x2, .int .i64 r.x3, .int .i64 r.x4, .int .i64 r.x5, .bool r.x6, .bool r.x7, .int .i64 r.x8, .string r.x9, .string r.x10, .string r.x11, .slice r.xA12 r.xn12 r.xc12] rfl rfl 32 _ J1.out (by kernel_rfl) rfl one.out ?_))
              go_roundw
              case rel => exact ⟨i + 1, ac2, by go_num, by go_num, by omega, c2, E2, HX⟩
              case measure => simp [intOf]; omega
            · have c4' : 1000000000 < r.x0 := by omega
              have E2 : Hid (u = false) := Lib.hid (by rw [← NX.out]; unfold oneO; rw [decide_eq_false c4]; simp)
              clear NX c4
              go_wp2_with (first | (refine Store.at_load 32 (.tmp 18) ?_ ?_; exact rfl; refine Part.wpList_load_part rfl 32 (.tmp 18) rfl b (o + i * 13 + 2) [.int .i64 r.x2, .int .i64 r.x3, .int .i64 r.x4, .int .i64 r.x5, .bool r.x6, .bool r.x7, .int .i64 r.x8, .string r.x9, .string r.x10, .string r.x11, .slice r.xA12 r.xn12 r.xc12] rfl RP ?_) | (refine Store.at_store 32 (.tmp 5) (.tmp 19) ?_ ?_; exact rfl; refine wpList_store_row rfl 32 (.tmp 5) (.tmp 19) rfl wr.heap.size #[.int .i64 r.x2, .int .i64 r.x3, .int .i64 r.x4, .int .i64 r.x5, .bool r.x6, .bool r.x7, .int .i64 r.x8, .string r.x9, .string r.x10, .string r.x11, .slice r.xA12 r.xn12 r.xc12] rfl rfl 32 _ J1.out (by kernel_rfl) rfl one.out ?_))
              go_ret
              exact ⟨by rw [E2.out]; rfl, HX.out⟩
          · have c3' : r.x0 < -1000000000 := by omega
            have E2 : Hid (u = false) := Lib.hid (by rw [← NX.out]; unfold oneO; rw [decide_eq_false c3]; simp)
            clear NX c3
            go_wp2_with (first | (refine Store.at_load 32 (.tmp 18) ?_ ?_; exact rfl; refine Part.wpList_load_part rfl 32 (.tmp 18) rfl b (o + i * 13 + 2) [.int .i64 r.x2, .int .i64 r.x3, .int .i64 r.x4, .int .i64 r.x5, .bool r.x6, .bool r.x7, .int .i64 r.x8, .string r.x9, .string r.x10, .string r.x11, .slice r.xA12 r.xn12 r.xc12] rfl RP ?_) | (refine Store.at_store 32 (.tmp 5) (.tmp 19) ?_ ?_; exact rfl; refine wpList_store_row rfl 32 (.tmp 5) (.tmp 19) rfl wr.heap.size #[.int .i64 r.x2, .int .i64 r.x3, .int .i64 r.x4, .int .i64 r.x5, .bool r.x6, .bool r.x7, .int .i64 r.x8, .string r.x9, .string r.x10, .string r.x11, .slice r.xA12 r.xn12 r.xc12] rfl rfl 32 _ J1.out (by kernel_rfl) rfl one.out ?_))
            go_ret
            exact ⟨by rw [E2.out]; rfl, HX.out⟩
        · have c2' : 20000 < ac2 := by omega
          have E2 : Hid (u = false) := Lib.hid (by rw [← NX.out]; unfold oneO; rw [AC.out, decide_eq_false c2]; simp)
          clear NX c2
          go_wp2_with (first | (refine Store.at_load 32 (.tmp 18) ?_ ?_; exact rfl; refine Part.wpList_load_part rfl 32 (.tmp 18) rfl b (o + i * 13 + 2) [.int .i64 r.x2, .int .i64 r.x3, .int .i64 r.x4, .int .i64 r.x5, .bool r.x6, .bool r.x7, .int .i64 r.x8, .string r.x9, .string r.x10, .string r.x11, .slice r.xA12 r.xn12 r.xc12] rfl RP ?_) | (refine Store.at_store 32 (.tmp 5) (.tmp 19) ?_ ?_; exact rfl; refine wpList_store_row rfl 32 (.tmp 5) (.tmp 19) rfl wr.heap.size #[.int .i64 r.x2, .int .i64 r.x3, .int .i64 r.x4, .int .i64 r.x5, .bool r.x6, .bool r.x7, .int .i64 r.x8, .string r.x9, .string r.x10, .string r.x11, .slice r.xA12 r.xn12 r.xc12] rfl rfl 32 _ J1.out (by kernel_rfl) rfl one.out ?_))
          go_ret
          exact ⟨by rw [E2.out]; rfl, HX.out⟩
      · have c1' : 300 < r.x9.size + r.x10.size + r.x11.size := by omega
        have E2 : Hid (u = false) := Lib.hid (by rw [← NX.out]; unfold oneO; rw [decide_eq_false c1]; simp)
        clear NX c1
        go_wp2_with (first | (refine Store.at_load 32 (.tmp 18) ?_ ?_; exact rfl; refine Part.wpList_load_part rfl 32 (.tmp 18) rfl b (o + i * 13 + 2) [.int .i64 r.x2, .int .i64 r.x3, .int .i64 r.x4, .int .i64 r.x5, .bool r.x6, .bool r.x7, .int .i64 r.x8, .string r.x9, .string r.x10, .string r.x11, .slice r.xA12 r.xn12 r.xc12] rfl RP ?_) | (refine Store.at_store 32 (.tmp 5) (.tmp 19) ?_ ?_; exact rfl; refine wpList_store_row rfl 32 (.tmp 5) (.tmp 19) rfl wr.heap.size #[.int .i64 r.x2, .int .i64 r.x3, .int .i64 r.x4, .int .i64 r.x5, .bool r.x6, .bool r.x7, .int .i64 r.x8, .string r.x9, .string r.x10, .string r.x11, .slice r.xA12 r.xn12 r.xc12] rfl rfl 32 _ J1.out (by kernel_rfl) rfl one.out ?_))
        go_ret
        exact ⟨by rw [E2.out]; rfl, HX.out⟩
    · obtain rfl : i = n := by omega
      have f1 : decide (i < i) = false := decide_eq_false (by omega)
      have E2 : Hid (u = true) := Lib.hid (by rw [← HE.out, List.drop_of_length_le (by rw [LN.out]; exact Nat.le_refl _)]; rfl)
      clear HE
      go_wp2_with fail
      go_ret
      exact ⟨by rw [E2.out]; rfl, HW.out⟩
end Go.Proofs.YtnpggkpcadefjaaDoor.Few20
