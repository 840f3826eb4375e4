/- Contracts of the code: the table of Box; Box. -/
import Derived.Test.YtdnkbefpbehllaaDoorM12
import Derived.Test.YtdnkbefpbehllaaDoorM04
import Derived.PlainAid
set_option linter.unusedVariables false
namespace Go.Proofs.YtdnkbefpbehllaaDoor.Aes2
open Go.RowKit Go.Proofs.YtdnkbefpbehllaaDoor.Sums Go.Proofs.YtdnkbefpbehllaaDoor.Mem Go.Proofs.YtdnkbefpbehllaaDoor.Blk Go.Proofs.YtdnkbefpbehllaaDoor.Bits3 Go.Proofs.YtdnkbefpbehllaaDoor.Ints Go.Proofs.YtdnkbefpbehllaaDoor.Free Go.Proofs.YtdnkbefpbehllaaDoor.Steps Go.Proofs.YtdnkbefpbehllaaDoor.Ops Go.Proofs.YtdnkbefpbehllaaDoor.OpsB Go.Proofs.YtdnkbefpbehllaaDoor.AesF Go.Proofs.YtdnkbefpbehllaaDoor.AesB Go.Proofs.YtdnkbefpbehllaaDoor.AesR2 Go.Proofs.YtdnkbefpbehllaaDoor.Aes1

/-- The powers of 3. -/
def pw : Nat → Nat
  | 0 => 1
  | n + 1 => pw n ^^^ dbl (pw n)
theorem pw_lt (n : Nat) : pw n < 256 := by
  induction n with
  | zero => decide
  | succ n ih => exact xor_lt ih (dbl_lt ih)
/-- All of them. -/
def pwL : List Nat := [1, 3, 5, 15, 17, 51, 85, 255, 26, 46, 114, 150, 161, 248, 19, 53, 95, 225, 56, 72, 216, 115, 149, 164, 247, 2, 6, 10, 30, 34, 102, 170, 229, 52, 92, 228, 55, 89, 235, 38, 106, 190, 217, 112, 144, 171, 230, 49, 83, 245, 4, 12, 20, 60, 68, 204, 79, 209, 104, 184, 211, 110, 178, 205, 76, 212, 103, 169, 224, 59, 77, 215, 98, 166, 241, 8, 24, 40, 120, 136, 131, 158, 185, 208, 107, 189, 220, 127, 129, 152, 179, 206, 73, 219, 118, 154, 181, 196, 87, 249, 16, 48, 80, 240, 11, 29, 39, 105, 187, 214, 97, 163, 254, 25, 43, 125, 135, 146, 173, 236, 47, 113, 147, 174, 233, 32, 96, 160, 251, 22, 58, 78, 210, 109, 183, 194, 93, 231, 50, 86, 250, 21, 63, 65, 195, 94, 226, 61, 71, 201, 64, 192, 91, 237, 44, 116, 156, 191, 218, 117, 159, 186, 213, 100, 172, 239, 42, 126, 130, 157, 188, 223, 122, 142, 137, 128, 155, 182, 193, 88, 232, 35, 101, 175, 234, 37, 111, 177, 200, 67, 197, 84, 252, 31, 33, 99, 165, 244, 7, 9, 27, 45, 119, 153, 176, 203, 70, 202, 69, 207, 74, 222, 121, 139, 134, 145, 168, 227, 62, 66, 198, 81, 243, 14, 18, 54, 90, 238, 41, 123, 141, 140, 143, 138, 133, 148, 167, 242, 13, 23, 57, 75, 221, 124, 132, 151, 162, 253, 28, 36, 108, 180, 199, 82, 246, 1]
theorem pw_next : ∀ i : Fin 255, pwL.getD (i.val + 1) 0 = pwL.getD i.val 0 ^^^ dbl (pwL.getD i.val 0) := by decide +kernel
theorem pw_is : ∀ {i : Nat}, i < 256 → pw i = pwL.getD i 0
  | 0, _ => rfl
  | i + 1, h => by
    have := pw_next ⟨i, by omega⟩
    rw [pw, pw_is (show i < 256 by omega)]
    exact this.symm
def bx0 : List Nat := (List.replicate 256 0).set 0 (spr 0)
/-- The table after j powers. -/
def bx : Nat → List Nat
  | 0 => bx0
  | j + 1 => (bx j).set (pw j) (spr (pw (255 - j)))
theorem bx_len (j : Nat) : (bx j).length = 256 := by
  induction j with
  | zero => rw [bx, bx0, List.length_set, List.length_replicate]
  | succ j ih => rw [bx, List.length_set, ih]
/-- The same by rows alone. -/
def bxL : Nat → List Nat → List Nat
  | 0, l => l
  | j + 1, l => bxL j (l.set (pwL.getD (254 - j) 0) (spr (pwL.getD (j + 1) 0)))
theorem bxL_all : bxL 255 bx0 = boxL := of_decide_eq_true (by kernel_rfl)
theorem bx_go : ∀ (j : Nat), j ≤ 255 → bxL j (bx (255 - j)) = bx 255
  | 0, _ => rfl
  | j + 1, h => by
    rw [bxL, ← bx_go j (by omega), show 255 - j = (255 - (j + 1)) + 1 by omega, bx, pw_is (show 255 - (j + 1) < 256 by omega), pw_is (show 255 - (255 - (j + 1)) < 256 by omega), show 255 - (j + 1) = 254 - j by omega, show 255 - (254 - j) = j + 1 by omega]
set_option maxRecDepth 100000 in
theorem boxes_is : boxes = boxL := by
  apply List.ext_getElem (by rw [boxes_len, boxL_len])
  intro i h1 h2
  have hi : i < 256 := by rwa [boxes_len] at h1
  have e := (boxes_get hi).trans (Box_is hi)
  rwa [List.getD_eq_getElem?_getD, List.getD_eq_getElem?_getD, List.getElem?_eq_getElem h1, List.getElem?_eq_getElem h2] at e
theorem bx_zero : bx 0 = bx0 := rfl
set_option maxRecDepth 100000 in
theorem bx_all : bx 255 = boxes := by
  have e := bx_go 255 (Nat.le_refl _)
  have z : 255 - 255 = 0 := by decide
  rw [z, bx_zero] at e
  rw [boxes_is, ← e]
  exact bxL_all
/-- A block of bytes of any array's kind. -/
def ARow (w : World) (g : Nat) (t : TypeId) (l : List Nat) : Prop := Blk w g t (bcells l)
section
variable {w w' : World} {g : Nat} {t : TypeId} {l : List Nat}
theorem ARow.cell (h : ARow w g t l) (i : Nat) (hi : i < l.length) : w.cell? ⟨g, i, none⟩ = some (.int .u8 ((l.getD i 0 : Nat) : Int)) := (Blk.cell h i).trans (bcells_get l i hi)
theorem ARow.put (h : ARow w g t l) (i z : Nat) : ARow (w.setCell ⟨g, i, none⟩ (.int .u8 (z : Int))) g t (l.set i z) := by
  have := Blk.put h i (.int .u8 (z : Int))
  rw [bcells_set] at this
  exact this
theorem ARow.lt (h : ARow w g t l) : g < w.heap.size := Blk.lt h
theorem ARow.below {B : Nat} (h : ARow w g t l) (hb : Below B w w') (hg : g < B) : ARow w' g t l := Blk.below h hb hg
theorem ARow.up (h : ARow w g t l) (hb : Below w.heap.size w w') : ARow w' g t l := Blk.below h hb h.lt
theorem ARow.alloc (h : ARow w g t l) (o : Obj) : ARow (w.alloc o) g t l := Blk.alloc h o
theorem ARow.far (h : ARow w g t l) {p : Addr} (hp : g ≠ p.block) (u : Value) : ARow (w.setCell p u) g t l := Blk.far h hp u
theorem ARow.free (h : ARow w g t l) (i : Nat) : w.frozen? ⟨g, i, none⟩ = false := Blk.frozen h i
theorem ARow.drewN (h : ARow w g t l) (n : Nat) : ARow (w.drewN n) g t l := h
end
theorem ARow.new (w : World) (t : TypeId) (l : List Nat) : ARow (w.alloc (.cells (bcells l) t)) w.heap.size t l := Blk.new w _ _

theorem zero_56 (w : World) : (zeroValue 113).run Tryd.prog w = .ok (.agg (bcells (List.replicate 256 0))) w := by kernel_rfl
theorem zero_57 (w : World) : (zeroValue 114).run Tryd.prog w = .ok (.agg (bcells (List.replicate 256 0))) w := by kernel_rfl
theorem bcells_ne {l : List Nat} (h : 0 < l.length) : (bcells l = #[]) = False := by
  apply eq_false
  intro e
  have := congrArg Array.size e
  simp [bcells] at this
  subst this
  simp at h

theorem ent_spread : Enters Tryd.prog 61 := enters_of Tryd.func61 (by kernel_rfl) rfl
set_option maxHeartbeats 1000000 in
set_option maxRecDepth 100000 in
theorem boxes_no (w : World) : Calls Tryd.prog 53 #[] w fun e w' => ∃ g, e = .returned (.pointer (some ⟨g, 0, none⟩)) ∧ w.heap.size ≤ g ∧ ARow w' g 114 boxes ∧ Below w.heap.size w w' := by
  have hz0 : ∀ v : World, (zeroValue 113).run Tryd.prog v = .ok (.agg (bcells (List.replicate 256 0))) v := zero_56
  have hz1 : ∀ v : World, (zeroValue 114).run Tryd.prog v = .ok (.agg (bcells (List.replicate 256 0))) v := zero_57
  obtain ⟨Z, hZ⟩ : ∃ Z, Z = List.replicate 256 0 := ⟨_, rfl⟩
  rw [← hZ] at hz0 hz1
  have hne := bcells_ne (l := Z) (by rw [hZ, List.length_replicate]; decide)
  have R0 : Hid (ARow (w.alloc (.cells (bcells Z) 113)) w.heap.size 113 (fil pw 256 0)) := Lib.hid (by rw [fil_zero, ← hZ]; exact ARow.new w _ _)
  have B0 := Lib.hid ((Below.refl w.heap.size w).alloc (Nat.le_refl _) (.cells (bcells Z) 113))
  have ZZ := Lib.hid hZ
  clear hZ
  go_enter Tryd.func53, Tryd.ntmps53
  go_wp2_with fail
  clear hz0
  generalize w.alloc (.cells (bcells Z) 113) = w1 at *
  go_loopw [2, 6] (fun pv kv wr => ∃ j : Nat, kv = .int .i64 (j : Int) ∧ pv = .int .u8 ((pw j : Nat) : Int) ∧ j ≤ 256 ∧ Hid (ARow wr w.heap.size 113 (fil pw 256 j)) ∧ Hid (Below w.heap.size w wr)) (fun _ kv _ => 256 - (intOf kv).toNat)
  case atStart => exact ⟨0, rfl, rfl, by omega, R0, B0⟩
  case round =>
    obtain ⟨j, rfl, rfl, hj, HR, HB⟩ := hrel
    clear R0 B0
    by_cases hlt : j < 256
    · have PB := pw_lt j
      have c0 := HR.out.cell j (by rw [fil_len]; exact hlt)
      have f0 := HR.out.free j
      have R2 : Hid (ARow (wr.setCell ⟨w.heap.size, j, none⟩ (.int .u8 ((pw j : Nat) : Int))) w.heap.size 113 (fil pw 256 (j + 1))) := Lib.hid (by have := HR.out.put j (pw j); rwa [fil_set] at this)
      have B2 := Lib.hid (HB.out.setCell (p := ⟨w.heap.size, j, none⟩) (Nat.le_refl _) (.int .u8 ((pw j : Nat) : Int)))
      have e1 : bits .xor .u8 ((pw j : Nat) : Int) ((dbl (pw j) : Nat) : Int) = ((pw (j + 1) : Nat) : Int) := Bits3.u8_xor PB (dbl_lt PB)
      have C := Lib.hid (double_no (pw j) PB)
      obtain ⟨p1, hp1⟩ : ∃ p1, p1 = pw (j + 1) := ⟨_, rfl⟩
      rw [← hp1] at e1
      have P1 := Lib.hid hp1
      clear hp1
      generalize (fil pw 256 j).getD j 0 = old at *
      generalize pw j = p0 at *
      generalize dbl p0 = p2 at *
      clear HR HB
      go_wp2_with fail
      refine (C.out _).mono ?_
      rintro e w' ⟨rfl, rfl⟩
      go_wp2_with fail
      go_roundw
      case rel => exact ⟨j + 1, by go_num, by rw [P1.out], by omega, R2, B2⟩
      case measure => simp [intOf]; omega
    · obtain rfl : j = 256 := by omega
      have RP : Hid (ARow wr w.heap.size 113 ((List.range 256).map pw)) := Lib.hid (by have := HR.out; rwa [fil_full] at this)
      have SZ := HR.out.lt
      generalize wr = wo at *
      have C := Lib.hid (spread_no 0 (by decide) wo)
      have SB := spr_lt (show 0 < 256 by decide)
      have S0 : Hid (bx 0 = Z.set 0 (spr 0)) := Lib.hid (by rw [ZZ.out, bx_zero, bx0])
      obtain ⟨s0, hs0⟩ : ∃ s0, s0 = spr 0 := ⟨_, rfl⟩
      rw [← hs0] at C SB S0
      have hset := bcells_set Z 0 s0
      obtain ⟨p0, hp0⟩ : ∃ p0, p0 = pw 256 := ⟨_, rfl⟩
      rw [← hp0]
      obtain ⟨T0, hT0⟩ : ∃ T0, T0 = Z.set 0 s0 := ⟨_, rfl⟩
      rw [← hT0] at S0 hset
      have R1 : Hid (ARow (wo.alloc (.cells (bcells T0) 114)) wo.heap.size 114 (bx 0)) := Lib.hid (by rw [S0.out]; exact ARow.new wo _ _)
      have P1 : Hid (ARow (wo.alloc (.cells (bcells T0) 114)) w.heap.size 113 ((List.range 256).map pw)) := Lib.hid (RP.out.alloc _)
      have B1 := Lib.hid (HB.out.alloc HB.out.size (.cells (bcells T0) 114))
      have HS := HB.out.size
      clear hs0 hp0 hT0 HR HB RP hlt hj
      go_wp2_with fail
      refine C.out.mono ?_
      rintro e w' ⟨rfl, rfl⟩
      go_wp2_with fail
      generalize wo.alloc (.cells (bcells T0) 114) = w1 at *
      obtain ⟨g, hg⟩ : ∃ g, g = wo.heap.size := ⟨_, rfl⟩
      rw [← hg] at R1 ⊢
      have GW : Hid (w.heap.size ≠ g ∧ w.heap.size ≤ g) := Lib.hid (by omega)
      have HPW : Hid (((List.range 256).map pw).length = 256 ∧ ∀ i, i < 256 → ((List.range 256).map pw).getD i 0 = pw i) := Lib.hid ⟨by simp, fun i hi => by
        rw [List.getD_eq_getElem?_getD, List.getElem?_map, List.getElem?_range hi]; rfl⟩
      generalize (List.range 256).map pw = PW at *
      clear hz1 hne hset S0 SB C ZZ HS SZ hg
      go_loopw [20] (fun kv wr => ∃ j : Nat, kv = .int .i64 (j : Int) ∧ j ≤ 255 ∧ Hid (ARow wr g 114 (bx j)) ∧ Hid (ARow wr w.heap.size 113 PW) ∧ Hid (Below w.heap.size w wr)) (fun kv _ => 255 - (intOf kv).toNat)
      case atStart => exact ⟨0, rfl, by omega, R1, P1, B1⟩
      case round =>
        obtain ⟨j, rfl, hj, HR, HP, HB⟩ := hrel
        clear R1 P1 B1
        by_cases hlt : j < 255
        · obtain ⟨i, hi⟩ : ∃ i, i = 255 - j := ⟨_, rfl⟩
          have BE : Hid (bx (j + 1) = (bx j).set (pw j) (spr (pw i))) := Lib.hid (by rw [hi]; rfl)
          have b1 := pw_lt j
          have b2 := pw_lt i
          have S := Lib.hid (spread_no (pw i) b2)
          have i256 : i < 256 := by omega
          have XC : Hid (∀ w' : World, Below wr.drew.heap.size wr.drew w' → w'.cell? ⟨w.heap.size, j, none⟩ = some (.int .u8 ((pw j : Nat) : Int)) ∧ w'.cell? ⟨w.heap.size, i, none⟩ = some (.int .u8 ((pw i : Nat) : Int))) := Lib.hid fun w' hw => by
            have r : ARow w' w.heap.size 113 PW := ARow.up (show ARow wr.drew w.heap.size 113 PW from HP.out) hw
            have q1 := r.cell j (by rw [HPW.out.1]; omega)
            have q2 := r.cell i (by rw [HPW.out.1]; omega)
            rw [HPW.out.2 _ (by omega)] at q1
            rw [HPW.out.2 _ (by omega)] at q2
            exact ⟨q1, q2⟩
          have HG : Hid (ARow wr.drew g 114 (bx j)) := Lib.hid HR.out
          generalize spr (pw i) = sp at *
          generalize pw j = p1 at *
          generalize pw i = p2 at *
          go_wp2_with fail
          -- REGION 13
          refine wp_region_free [0, 1, 2, 3, 4, 5, 6, 7, 8, 9] 10 [11] (fun w1 w2 => Below w1.heap.size w1 w2) (fun k' w' v => match k' with
            | 0 => v = .pointer (some ⟨g, 0, none⟩)
            | 1 => v = .int .i64 ((j : Int))
            | 2 => v = .pointer (some ⟨w.heap.size, j, none⟩)
            | 3 => v = .int .u8 ((p1 : Int))
            | 4 => v = .int .i64 ((j : Int))
            | 5 => v = .int .i64 (255 - (j : Int))
            | 6 => v = .pointer (some ⟨w.heap.size, i, none⟩)
            | 7 => v = .int .u8 ((p2 : Int))
            | 8 => v = .int .u8 ((sp : Int))
            | _ => v = .pointer (some ⟨g, 0, none⟩)) (by kernel_rfl) (by kernel_rfl) (Below.refl _ _) (fun _ _ _ h k => h.trans (k.mono h.size)) (fun k' w1 w2 v h => match k' with
            | 0 => fun x => x
            | 1 => fun x => x
            | 2 => fun x => x
            | 3 => fun x => x
            | 4 => fun x => x
            | 5 => fun x => x
            | 6 => fun x => x
            | 7 => fun x => x
            | 8 => fun x => x
            | _ + 9 => fun x => x) (fun _ _ _ _ _ h => h) ?_ _ (by rfl) ?_
          · refine obs_cons (by rfl) (fun vals w' hgr hdep K hK => ?_) (obs_cons (by rfl) (fun vals w' hgr hdep K hK => ?_) (obs_cons (by rfl) (fun vals w' hgr hdep K hK => ?_) (obs_cons (by rfl) (fun vals w' hgr hdep K hK => ?_) (obs_cons (by rfl) (fun vals w' hgr hdep K hK => ?_) (obs_cons (by rfl) (fun vals w' hgr hdep K hK => ?_) (obs_cons (by rfl) (fun vals w' hgr hdep K hK => ?_) (obs_cons (by rfl) (fun vals w' hgr hdep K hK => ?_) (obs_cons (by rfl) (fun vals w' hgr hdep K hK => ?_) (obs_cons (by rfl) (fun vals w' hgr hdep K hK => ?_) (obs_nil))))))))))
            · exact wp_move (.tmp 4) rfl _ (at_out _ (by kernel_rfl) rfl) (hK _ _ (Below.refl _ _) rfl)
            · exact wp_move (.tmp 5) rfl _ (at_out _ (by kernel_rfl) rfl) (hK _ _ (Below.refl _ _) rfl)
            · exact st_arr_at Tryd.underlying113 (.tmp 1) (.tmp 24) rfl w.heap.size j .i64 _ (at_out _ (by kernel_rfl) rfl) ((at_dst 1 (by kernel_rfl)).trans (hdep 1 (by simp) (by kernel_rfl))) rfl (by omega) (hK _ _ (Below.refl _ _) rfl)
            · exact wp_load1 (.tmp 25) rfl ⟨w.heap.size, j, none⟩ ((at_dst 2 (by kernel_rfl)).trans (hdep 2 (by simp) (by kernel_rfl))) Tryd.underlying5 rfl _ ((XC.out w' hgr).1) (hK _ _ (Below.refl _ _) rfl)
            · exact wp_move (.tmp 5) rfl _ (at_out _ (by kernel_rfl) rfl) (hK _ _ (Below.refl _ _) rfl)
            · exact wp_bin (.const (.int .i64 255)) (.tmp 27) rfl _ _ _ rfl ((at_dst 4 (by kernel_rfl)).trans (hdep 4 (by simp) (by kernel_rfl))) (b_sub _ _ _ _ _ (by omega) (by omega)) (hK _ _ (Below.refl _ _) rfl)
            · exact st_arr_at Tryd.underlying113 (.tmp 1) (.tmp 28) rfl w.heap.size i .i64 _ (at_out _ (by kernel_rfl) rfl) ((at_dst 5 (by kernel_rfl)).trans (hdep 5 (by simp) (by kernel_rfl))) (by omega) i256 (hK _ _ (Below.refl _ _) rfl)
            · exact wp_load1 (.tmp 29) rfl ⟨w.heap.size, i, none⟩ ((at_dst 6 (by kernel_rfl)).trans (hdep 6 (by simp) (by kernel_rfl))) Tryd.underlying5 rfl _ ((XC.out w' hgr).2) (hK _ _ (Below.refl _ _) rfl)
            · exact wp_call 61 [.tmp 30] _ rfl ent_spread [.int .u8 (p2 : Int)] (congrArg (fun z => [z]) ((at_dst 7 (by kernel_rfl)).trans (hdep 7 (by simp) (by kernel_rfl)))) (fun v w'' => v = .int .u8 (sp : Int) ∧ w' = w'') ((S.out w').mono fun e w'' ⟨h1, h2⟩ => ⟨_, h1, rfl, h2⟩) (fun v w'' ⟨h1, h2⟩ => by subst h2; exact hK _ _ (Below.refl _ _) h1)
            · exact st_nil (.tmp 23) rfl _ ((at_dst 0 (by kernel_rfl)).trans (hdep 0 (by simp) (by kernel_rfl))) (hK _ _ (Below.refl _ _) rfl)
          · intro vals w' hgr hG
            refine st_arr_at Tryd.underlying114 (.tmp 32) (.tmp 26) rfl g p1 .u8 _ ((at_dst 9 (by kernel_rfl)).trans (hG 9 (by simp))) ((at_dst 3 (by kernel_rfl)).trans (hG 3 (by simp))) rfl b1 ?_
            have W8 : ARow w' g 114 (bx j) := ARow.up HG.out hgr
            refine wpAnyH_next 11 _ rfl rfl (by kernel_rfl) (st_store_b (.tmp 33) (.tmp 31) rfl ⟨g, p1, none⟩ (put_tmps_eq (fill_size _ _ _) (by kernel_rfl)) _ (put_tmps_ne (by rfl) ((at_dst 8 (by kernel_rfl)).trans (hG 8 (by simp)))) _ (W8.cell p1 (by rw [bx_len]; exact b1)) (W8.free p1) ⟨trivial, wpAnyH_done (by kernel_rfl) ?_ _⟩)
            have R2 : Hid (ARow (w'.setCell ⟨g, p1, none⟩ (.int .u8 (sp : Int))) g 114 (bx (j + 1))) := Lib.hid (by rw [BE.out]; exact W8.put p1 sp)
            have P2 : Hid (ARow (w'.setCell ⟨g, p1, none⟩ (.int .u8 (sp : Int))) w.heap.size 113 PW) := Lib.hid ((ARow.up (show ARow wr.drew w.heap.size 113 PW from HP.out) hgr).far (p := ⟨g, p1, none⟩) GW.out.1 _)
            have B2 : Hid (Below w.heap.size w (w'.setCell ⟨g, p1, none⟩ (.int .u8 (sp : Int)))) := Lib.hid (((below_drewN HB.out 1).trans (hgr.mono HB.out.size)).setCell (p := ⟨g, p1, none⟩) GW.out.2 (.int .u8 (sp : Int)))
            clear hG hgr W8 HR HP HB HG XC BE hi
            simp only [fill, dstAt, List.getElem?_cons_zero, List.getElem?_cons_succ, Option.bind_some, Act.put, List.setIfInBounds_toArray, List.set_cons_zero, List.set_cons_succ]
            generalize w'.setCell ⟨g, p1, none⟩ (.int .u8 (sp : Int)) = w9 at *
            generalize vals 0 = z0, vals 1 = z1, vals 2 = z2, vals 3 = z3, vals 4 = z4, vals 5 = z5, vals 6 = z6, vals 7 = z7, vals 8 = z8, vals 9 = z9 at *
            go_wp2_with fail
            go_roundw
            case rel => exact ⟨j + 1, by go_num, by omega, R2, P2, B2⟩
            case measure => simp [intOf]; omega
        · obtain rfl : j = 255 := by omega
          have RF : Hid (ARow wr g 114 boxes) := Lib.hid (by have := HR.out; rwa [bx_all] at this)
          go_wp2_with fail
          go_ret
          exact ⟨g, rfl, GW.out.2, RF.out, HB.out⟩

end Go.Proofs.YtdnkbefpbehllaaDoor.Aes2

/- Contracts of the document: with. -/
set_option linter.unusedVariables false
namespace Go.Proofs.YtdnkbefpbehllaaDoor.AesR3
open Go.RowKit Go.Proofs.YtdnkbefpbehllaaDoor.Sums Go.Proofs.YtdnkbefpbehllaaDoor.Mem Go.Proofs.YtdnkbefpbehllaaDoor.Blk Go.Proofs.YtdnkbefpbehllaaDoor.Bits3 Go.Proofs.YtdnkbefpbehllaaDoor.Ints Go.Proofs.YtdnkbefpbehllaaDoor.AesF Go.Proofs.YtdnkbefpbehllaaDoor.AesB Go.Proofs.YtdnkbefpbehllaaDoor.AesR Go.Proofs.YtdnkbefpbehllaaDoor.AesR2

theorem nats_byt {l : List Int} (h : Bytes l) : Byt (nats l) := nats_lt (fun z hz => h z hz)

end Go.Proofs.YtdnkbefpbehllaaDoor.AesR3

