/- Contracts of the code: examine, Parse. -/
import Derived.Test.YtadjkidjkgnkoaaSeg2
import Derived.Test.YtadjkidjkgnkoaaCom
set_option linter.unusedVariables false
namespace Go.Proofs.Ytadjkidjkgnkoaa.Seg3
open Go.RowKit Go.Sort Go.Proofs.Ytadjkidjkgnkoaa.Sums Go.Proofs.Ytadjkidjkgnkoaa.Words Go.Proofs.Ytadjkidjkgnkoaa.Mem Go.Proofs.Ytadjkidjkgnkoaa.Ahead Go.Proofs.Ytadjkidjkgnkoaa.SegD Go.Proofs.Ytadjkidjkgnkoaa.Blk Go.Proofs.Ytadjkidjkgnkoaa.Bits Go.Proofs.Ytadjkidjkgnkoaa.InetSum Go.Proofs.Ytadjkidjkgnkoaa.Steps Go.Proofs.Ytadjkidjkgnkoaa.Free Go.Proofs.Ytadjkidjkgnkoaa.Cut
open Go.Proofs.Ytadjkidjkgnkoaa.Seg2 Go.Proofs.Ytadjkidjkgnkoaa.Com
open Go.Proofs.Ytadjkidjkgnkoaa.Regs (st_byte_at conv_int and_u8 cell_getD)

set_option maxHeartbeats 1000000 in
theorem examine_any (s d : ByteArray) (A : Option Addr) (n c : Nat) (l : List Int) (w : World) (B : Nat) (h : Holds w B A n c l) (hB : B ≤ w.heap.size) (hn : n ≤ 1048576) :
    Calls Try.prog 32 #[.slice A n c, .string s, .string d] w fun e w' => e = .returned (.int .i64 (perr l s d)) ∧ Below w.heap.size w w' := by
  have hl := h.1
  have P := Lib.hid (paired_any s d w)
  cases hp : paired s d with
  | false =>
    rw [hp] at P
    have E : Hid (perr l s d = 1) := Lib.hid (by unfold perr; rw [hp, if_pos rfl])
    clear h hp
    go_enter Try.func32, Try.ntmps32
    go_wp2_with fail
    refine P.out.mono ?_
    rintro e w1 ⟨rfl, hb⟩
    go_wp2_with fail
    go_ret
    exact ⟨by rw [E.out]; rfl, hb⟩
  | true =>
  rw [hp] at P
  by_cases q0 : n < 20
  · have E : Hid (perr l s d = 8) := Lib.hid (by unfold perr; rw [hp, if_neg (by decide), if_pos (by omega)])
    have g1 : decide (n < 20) = true := decide_eq_true q0
    have g2 : decide ((n : Int) < 20) = true := decide_eq_true (by omega)
    clear h hp hl
    go_enter Try.func32, Try.ntmps32
    go_wp2_with fail
    refine P.out.mono ?_
    rintro e w1 ⟨rfl, hb⟩
    go_wp2_with fail
    go_ret
    exact ⟨by rw [E.out]; rfl, hb⟩
  obtain ⟨b, p, rfl, _⟩ := h.2.2.2.2 (by omega)
  have HD := Lib.hid (fun (W : World) (hw : Below w.heap.size w W) => head_any (some ⟨b, p, none⟩) n c l W B (h.below (hw.mono hB)) (by omega))
  have C12 := Lib.hid (fun (W : World) (hw : Below w.heap.size w W) => cell_getD (h.below (hw.mono hB)) 12 (by omega))
  have SM := Lib.hid (fun (W : World) (hw : Below w.heap.size w W) (h5 : n ≤ 65535) => sum_code s d (some ⟨b, p, none⟩) n c l W B (h.below (hw.mono hB)) (Nat.le_trans hB hw.size) h5 hp)
  have y := getD_in h.2.2.2.1 12
  have E0 : Hid (perr l s d = if (n : Int) < l.getD 12 0 / 16 * 4 then 8 else if 65535 < n then 2 else if l.getD 12 0 / 16 * 4 < 20 then 4 else if l.getD 12 0 % 16 ≠ 0 then 4 else if whole s d 6 l ≠ 65535 then 5 else 0) := Lib.hid (by
    unfold perr
    rw [hp, if_neg (by decide), if_neg (by omega), hl])
  clear h hp hl
  generalize l.getD 12 0 = y0 at *
  generalize whole s d 6 l = t at *
  obtain ⟨y1, y2⟩ := y
  have e15 : bits .and .u8 y0 15 = y0 % 16 := and_u8 y1 y2
  have YY : Hid (0 ≤ y0 ∧ y0 ≤ 255) := Lib.hid ⟨y1, y2⟩
  have g1 : decide (n < 20) = false := decide_eq_false q0
  have g2 : decide ((n : Int) < 20) = false := decide_eq_false (by omega)
  have i12 : 12 < n := by omega
  have i12' : (12 : Int) < (n : Int) := by omega
  obtain ⟨T, hT⟩ : ∃ T, T = y0 / 16 * 4 := ⟨_, rfl⟩
  have TB : 0 ≤ T ∧ T ≤ 60 := by omega
  rw [← hT] at HD E0
  clear hT
  have m0 : (y0 % 16 != 0) = true ∨ (y0 % 16 != 0) = false := by cases (y0 % 16 != 0) <;> simp
  by_cases q1 : (n : Int) < T
  · have q1' : decide ((n : Int) < T) = true := decide_eq_true q1
    have F : Hid (perr l s d = 8) := Lib.hid (by rw [E0.out, if_pos q1])
    clear E0 q1
    go_enter Try.func32, Try.ntmps32
    go_wp2_with fail
    refine P.out.mono ?_
    rintro e w1 ⟨rfl, hb⟩
    have HB := Lib.hid hb
    have c12 := C12.out w1 hb
    clear hb
    go_wp2_with fail
    refine (HD.out w1 HB.out).mono ?_
    rintro e w2 ⟨rfl, rfl⟩
    go_wp2_with fail
    go_ret
    exact ⟨by rw [F.out]; rfl, HB.out⟩
  have q1' : decide ((n : Int) < T) = false := decide_eq_false q1
  by_cases q2 : 65535 < n
  · have q2' : decide (65535 < n) = true := decide_eq_true q2
    have q2'' : decide ((65535 : Int) < (n : Int)) = true := decide_eq_true (by omega)
    have F : Hid (perr l s d = 2) := Lib.hid (by rw [E0.out, if_neg q1, if_pos q2])
    clear E0 q1 q2
    go_enter Try.func32, Try.ntmps32
    go_wp2_with fail
    refine P.out.mono ?_
    rintro e w1 ⟨rfl, hb⟩
    have HB := Lib.hid hb
    have c12 := C12.out w1 hb
    clear hb
    go_wp2_with fail
    refine (HD.out w1 HB.out).mono ?_
    rintro e w2 ⟨rfl, rfl⟩
    go_wp2_with fail
    go_ret
    exact ⟨by rw [F.out]; rfl, HB.out⟩
  have q2' : decide (65535 < n) = false := decide_eq_false q2
  have q2'' : decide ((65535 : Int) < (n : Int)) = false := decide_eq_false (by omega)
  by_cases q3 : T < 20
  · have q3' : decide (T < 20) = true := decide_eq_true q3
    have F : Hid (perr l s d = 4) := Lib.hid (by rw [E0.out, if_neg q1, if_neg q2, if_pos q3])
    clear E0 q1 q2 q3
    go_enter Try.func32, Try.ntmps32
    go_wp2_with fail
    refine P.out.mono ?_
    rintro e w1 ⟨rfl, hb⟩
    have HB := Lib.hid hb
    have c12 := C12.out w1 hb
    clear hb
    go_wp2_with fail
    refine (HD.out w1 HB.out).mono ?_
    rintro e w2 ⟨rfl, rfl⟩
    go_wp2_with fail
    refine (HD.out w1 HB.out).mono ?_
    rintro e w2 ⟨rfl, rfl⟩
    go_wp2_with fail
    go_ret
    exact ⟨by rw [F.out]; rfl, HB.out⟩
  have q3' : decide (T < 20) = false := decide_eq_false q3
  by_cases q4 : y0 % 16 = 0
  rotate_left
  · have q4' : (y0 % 16 != 0) = true := by simpa using q4
    have F : Hid (perr l s d = 4) := Lib.hid (by rw [E0.out, if_neg q1, if_neg q2, if_neg q3, if_pos q4])
    clear E0 q1 q2 q3 q4 m0
    go_enter Try.func32, Try.ntmps32
    go_wp2_with fail
    refine P.out.mono ?_
    rintro e w1 ⟨rfl, hb⟩
    have HB := Lib.hid hb
    have c12 := C12.out w1 hb
    clear hb
    go_wp2_with fail
    refine (HD.out w1 HB.out).mono ?_
    rintro e w2 ⟨rfl, rfl⟩
    go_wp2_with fail
    refine (HD.out w1 HB.out).mono ?_
    rintro e w2 ⟨rfl, rfl⟩
    go_wp2_with fail
    go_ret
    exact ⟨by rw [F.out]; rfl, HB.out⟩
  have q4' : (y0 % 16 != 0) = false := by rw [q4]; rfl
  by_cases q5 : t = 65535
  · have q5' : (t != 65535) = false := by rw [q5]; rfl
    have F : Hid (perr l s d = 0) := Lib.hid (by rw [E0.out, if_neg q1, if_neg q2, if_neg q3, if_neg (by omega), if_neg (by omega)])
    clear E0 q1 q3 q4 q5 m0
    go_enter Try.func32, Try.ntmps32
    go_wp2_with fail
    refine P.out.mono ?_
    rintro e w1 ⟨rfl, hb⟩
    have HB := Lib.hid hb
    have c12 := C12.out w1 hb
    clear hb
    go_wp2_with fail
    refine (HD.out w1 HB.out).mono ?_
    rintro e w2 ⟨rfl, rfl⟩
    go_wp2_with fail
    refine (HD.out w1 HB.out).mono ?_
    rintro e w2 ⟨rfl, rfl⟩
    go_wp2_with fail
    refine (SM.out w1 HB.out (by omega)).mono ?_
    rintro e w2 ⟨rfl, hb⟩
    have HB2 := Lib.hid (HB.out.trans (hb.mono HB.out.size))
    clear hb
    go_wp2_with fail
    go_ret
    exact ⟨by rw [F.out]; rfl, HB2.out⟩
  · have q5' : (t != 65535) = true := by simpa using q5
    have F : Hid (perr l s d = 5) := Lib.hid (by rw [E0.out, if_neg q1, if_neg q2, if_neg q3, if_neg (by omega), if_pos q5])
    clear E0 q1 q3 q4 q5 m0
    go_enter Try.func32, Try.ntmps32
    go_wp2_with fail
    refine P.out.mono ?_
    rintro e w1 ⟨rfl, hb⟩
    have HB := Lib.hid hb
    have c12 := C12.out w1 hb
    clear hb
    go_wp2_with fail
    refine (HD.out w1 HB.out).mono ?_
    rintro e w2 ⟨rfl, rfl⟩
    go_wp2_with fail
    refine (HD.out w1 HB.out).mono ?_
    rintro e w2 ⟨rfl, rfl⟩
    go_wp2_with fail
    refine (SM.out w1 HB.out (by omega)).mono ?_
    rintro e w2 ⟨rfl, hb⟩
    have HB2 := Lib.hid (HB.out.trans (hb.mono HB.out.size))
    clear hb
    go_wp2_with fail
    go_ret
    exact ⟨by rw [F.out]; rfl, HB2.out⟩

theorem oneS (p : Sg) (A : Option Addr) (n c : Nat) : (#[.int .i64 p.src, .int .i64 p.dst, .int .i64 p.seq, .int .i64 p.ack, .int .i64 p.flags, .int .i64 p.window, .int .i64 p.urgent, .string p.opt, .slice A n c] : Array Value).all (·.oneCell') = true := by simp [Value.oneCell']
theorem buildS (a0 a1 a2 a3 a4 a5 a6 : Int) (o : ByteArray) (A : Option Addr) (n c : Nat) (w : World) : (Instr.build 24 [(0, Value.int .i64 a0), (1, .int .i64 a1), (2, .int .i64 a2), (3, .int .i64 a3), (4, .int .i64 a4), (5, .int .i64 a5), (6, .int .i64 a6), (7, .string o), (8, .slice A n c)].toArray).run Try.prog w = .ok (.agg #[.int .i64 a0, .int .i64 a1, .int .i64 a2, .int .i64 a3, .int .i64 a4, .int .i64 a5, .int .i64 a6, .string o, .slice A n c]) w := by kernel_rfl
theorem ent_word : Enters Try.prog 34 := enters_of Try.func34 (by kernel_rfl) rfl
theorem ent_wide : Enters Try.prog 35 := enters_of Try.func35 (by kernel_rfl) rfl
theorem ent_clone : Enters Try.prog 36 := enters_of Try.func36 (by kernel_rfl) rfl

/-- What Parse gives. -/
def Gs (l : List Int) (s d : ByteArray) (w : World) (e : Ending) (w' : World) : Prop :=
  ((perr l s d = 0 ∧ ∃ A' n' c', e = .returned (.tuple #[.agg #[.int .i64 (sgOf l).src, .int .i64 (sgOf l).dst, .int .i64 (sgOf l).seq, .int .i64 (sgOf l).ack, .int .i64 (sgOf l).flags, .int .i64 (sgOf l).window, .int .i64 (sgOf l).urgent, .string (sgOf l).opt, .slice A' n' c'], .int .i64 0]) ∧ Owns w' w.heap.size (.slice A' n' c') n' (l.drop (hdOf l))) ∨
   (perr l s d ≠ 0 ∧ e = .returned (.tuple #[.agg #[.int .i64 0, .int .i64 0, .int .i64 0, .int .i64 0, .int .i64 0, .int .i64 0, .int .i64 0, .string ⟨#[]⟩, .slice none 0 0], .int .i64 (perr l s d)]))) ∧ Below w.heap.size w w'

set_option maxHeartbeats 4000000 in
set_option maxRecDepth 100000 in
theorem parse_any (s d : ByteArray) (A : Option Addr) (n c : Nat) (l : List Int) (w : World) (B : Nat) (h : Holds w B A n c l) (hB : B ≤ w.heap.size) (hn : n ≤ 1048576) :
    Calls Try.prog 18 #[.slice A n c, .string s, .string d] w (Gs l s d w) := by
  have HL := Lib.hid h.1
  have hnc := h.2.1
  have B0 := Lib.hid ((Below.refl w.heap.size w).alloc (Nat.le_refl _) (.cells #[.int .i64 0, .int .i64 0, .int .i64 0, .int .i64 0, .int .i64 0, .int .i64 0, .int .i64 0, .string ⟨#[]⟩, .slice none 0 0] 24))
  have R0 := Lib.hid (Blk.new w 24 #[.int .i64 0, .int .i64 0, .int .i64 0, .int .i64 0, .int .i64 0, .int .i64 0, .int .i64 0, .string ⟨#[]⟩, .slice none 0 0])
  have H0 := Lib.hid (h.below (B0.out.mono hB))
  have hby := h.2.2.2.1
  clear h
  go_enter Try.func18, Try.ntmps18
  go_wp2_with fail
  generalize w.alloc (.cells #[.int .i64 0, .int .i64 0, .int .i64 0, .int .i64 0, .int .i64 0, .int .i64 0, .int .i64 0, .string ⟨#[]⟩, .slice none 0 0] 24) = w3 at *
  have hs3 := B0.out.size
  refine (examine_any s d A n c l w3 B H0.out (by omega) hn).mono ?_
  rintro e w4 ⟨rfl, hb⟩
  have B4 := Lib.hid (B0.out.trans (hb.mono B0.out.size))
  have R4 := Lib.hid (R0.out.below hb R0.out.lt)
  have H4 := Lib.hid (H0.out.below (hb.mono (by omega)))
  clear hb B0 R0 H0
  have hs4 := B4.out.size
  obtain ⟨pe, hpe⟩ : ∃ pe, pe = perr l s d := ⟨_, rfl⟩
  have PH := Lib.hid hpe
  rw [← hpe]
  clear hpe
  by_cases q : pe = 0
  · subst q
    have pz := perr_zero PH.out.symm
    have PZ := Lib.hid pz
    have h20 : 20 ≤ n := by have := pz.2.1; rw [HL.out] at this; exact this
    obtain ⟨H, hH⟩ : ∃ H, H = hdOf l := ⟨_, rfl⟩
    have hT : l.getD 12 0 / 16 * 4 = (H : Int) := by
      have := pz.2.2.2.2.1
      rw [hH]; unfold hdOf; omega
    have hH1 : 20 ≤ H := by have := pz.2.2.2.2.1; omega
    have hH2 : H ≤ n := by have := pz.2.2.1; rw [HL.out] at this; omega
    have HH := Lib.hid hH
    have HD := Lib.hid (head_any A n c l w4 B H4.out (by omega))
    rw [hT] at HD
    clear pz hH hT
    obtain ⟨b, p, rfl, _⟩ := H4.out.2.2.2.2 (by omega)
    go_wp2_with fail
    refine HD.out.mono ?_
    rintro e w5 ⟨rfl, rfl⟩
    clear HD
    go_wp2_with fail
    have HW : Hid (∀ w', Below w4.drew.heap.size w4.drew w' → Holds w' B (some ⟨b, p, none⟩) n c l) := Lib.hid fun w' hw => H4.out.below ((((below_drewN (Below.refl w4.heap.size w4) 1).trans hw)).mono (by omega))
    have hBw : B ≤ w4.drew.heap.size := by show B ≤ w4.heap.size; omega
    have hsw : w.heap.size ≤ w4.drew.heap.size := B4.out.size
    have x13 := getD_in hby 13
    refine wp_region_free [0, 1, 2, 3, 4, 5, 6, 7, 8, 9, 10, 11, 12, 13, 14, 15, 16, 17, 18, 19, 20, 21, 22, 23] 24 [25, 26] (fun w1 w2 => Below w1.heap.size w1 w2) (fun k' w' v => match k' with
      | 0 => v = .slice (some ⟨b, p, none⟩) n c
      | 1 => v = .int .i64 (w16 l 0)
      | 2 => v = .slice (some ⟨b, p, none⟩) n c
      | 3 => v = .int .i64 (w16 l 2)
      | 4 => v = .slice (some ⟨b, p, none⟩) n c
      | 5 => v = .int .i64 (w32 l 4)
      | 6 => v = .slice (some ⟨b, p, none⟩) n c
      | 7 => v = .int .i64 (w32 l 8)
      | 8 => v = .slice (some ⟨b, p, none⟩) n c
      | 9 => v = .pointer (some ⟨b, p + 13, none⟩)
      | 10 => v = .int .u8 (l.getD 13 0)
      | 11 => v = .int .i64 (l.getD 13 0)
      | 12 => v = .slice (some ⟨b, p, none⟩) n c
      | 13 => v = .int .i64 (w16 l 14)
      | 14 => v = .slice (some ⟨b, p, none⟩) n c
      | 15 => v = .int .i64 (w16 l 18)
      | 16 => v = .slice (some ⟨b, p, none⟩) n c
      | 17 => v = .int .i64 ((H : Int))
      | 18 => v = .slice (some (adr b p c 20)) (H - 20) (c - 20)
      | 19 => v = .string (strOfNums ((l.drop 20).take (H - 20)))
      | 20 => v = .slice (some ⟨b, p, none⟩) n c
      | 21 => v = .int .i64 ((H : Int))
      | 22 => v = .slice (some (adr b p c H)) (n - H) (c - H)
      | _ => ∃ A' c', v = .slice A' (n - H) c' ∧ Owns w' w.heap.size v (n - H) (l.drop H)) (by kernel_rfl) (by kernel_rfl) (Below.refl _ _) (fun _ _ _ h k => h.trans (k.mono h.size)) (fun k' w1 w2 v h => match k' with
      | 0 => fun x => x
      | 1 => fun x => x
      | 2 => fun x => x
      | 3 => fun x => x
      | 4 => fun x => x
      | 5 => fun x => x
      | 6 => fun x => x
      | 7 => fun x => x
      | 8 => fun x => x
      | 9 => fun x => x
      | 10 => fun x => x
      | 11 => fun x => x
      | 12 => fun x => x
      | 13 => fun x => x
      | 14 => fun x => x
      | 15 => fun x => x
      | 16 => fun x => x
      | 17 => fun x => x
      | 18 => fun x => x
      | 19 => fun x => x
      | 20 => fun x => x
      | 21 => fun x => x
      | 22 => fun x => x
      | _ + 23 => fun ⟨A', c', e, o⟩ => ⟨A', c', e, Owns.below o h (Nat.le_refl _)⟩) (fun _ _ _ _ _ h => h) ?_ _ (by rfl) ?_
    · refine obs_cons (by rfl) (fun vals w' hgr hdep K hK => ?_) (obs_cons (by rfl) (fun vals w' hgr hdep K hK => ?_) (obs_cons (by rfl) (fun vals w' hgr hdep K hK => ?_) (obs_cons (by rfl) (fun vals w' hgr hdep K hK => ?_) (obs_cons (by rfl) (fun vals w' hgr hdep K hK => ?_) (obs_cons (by rfl) (fun vals w' hgr hdep K hK => ?_) (obs_cons (by rfl) (fun vals w' hgr hdep K hK => ?_) (obs_cons (by rfl) (fun vals w' hgr hdep K hK => ?_) (obs_cons (by rfl) (fun vals w' hgr hdep K hK => ?_) (obs_cons (by rfl) (fun vals w' hgr hdep K hK => ?_) (obs_cons (by rfl) (fun vals w' hgr hdep K hK => ?_) (obs_cons (by rfl) (fun vals w' hgr hdep K hK => ?_) (obs_cons (by rfl) (fun vals w' hgr hdep K hK => ?_) (obs_cons (by rfl) (fun vals w' hgr hdep K hK => ?_) (obs_cons (by rfl) (fun vals w' hgr hdep K hK => ?_) (obs_cons (by rfl) (fun vals w' hgr hdep K hK => ?_) (obs_cons (by rfl) (fun vals w' hgr hdep K hK => ?_) (obs_cons (by rfl) (fun vals w' hgr hdep K hK => ?_) (obs_cons (by rfl) (fun vals w' hgr hdep K hK => ?_) (obs_cons (by rfl) (fun vals w' hgr hdep K hK => ?_) (obs_cons (by rfl) (fun vals w' hgr hdep K hK => ?_) (obs_cons (by rfl) (fun vals w' hgr hdep K hK => ?_) (obs_cons (by rfl) (fun vals w' hgr hdep K hK => ?_) (obs_cons (by rfl) (fun vals w' hgr hdep K hK => ?_) (obs_nil))))))))))))))))))))))))
      · exact wp_move (.tmp 0) rfl _ (at_out _ (by kernel_rfl) rfl) (hK _ _ (Below.refl _ _) rfl)
      · exact wp_call 34 [.tmp 20, .const (.int .i64 0)] _ rfl ent_word [.slice (some ⟨b, p, none⟩) n c, .int .i64 0] (congrArg (fun z => [z, Value.int .i64 0]) ((at_dst 0 (by kernel_rfl)).trans (hdep 0 (by simp) (by kernel_rfl)))) (fun v w'' => v = .int .i64 (w16 l 0) ∧ Below w'.heap.size w' w'') ((word_any _ n c l w' B (HW.out _ hgr) 0 (by omega)).mono fun e w'' ⟨h1, h2⟩ => ⟨_, h1, rfl, h2⟩) (fun v w'' ⟨h1, h2⟩ => hK v w'' h2 h1)
      · exact wp_move (.tmp 0) rfl _ (at_out _ (by kernel_rfl) rfl) (hK _ _ (Below.refl _ _) rfl)
      · exact wp_call 34 [.tmp 22, .const (.int .i64 2)] _ rfl ent_word [.slice (some ⟨b, p, none⟩) n c, .int .i64 2] (congrArg (fun z => [z, Value.int .i64 2]) ((at_dst 2 (by kernel_rfl)).trans (hdep 2 (by simp) (by kernel_rfl)))) (fun v w'' => v = .int .i64 (w16 l 2) ∧ Below w'.heap.size w' w'') ((word_any _ n c l w' B (HW.out _ hgr) 2 (by omega)).mono fun e w'' ⟨h1, h2⟩ => ⟨_, h1, rfl, h2⟩) (fun v w'' ⟨h1, h2⟩ => hK v w'' h2 h1)
      · exact wp_move (.tmp 0) rfl _ (at_out _ (by kernel_rfl) rfl) (hK _ _ (Below.refl _ _) rfl)
      · exact wp_call 35 [.tmp 24, .const (.int .i64 4)] _ rfl ent_wide [.slice (some ⟨b, p, none⟩) n c, .int .i64 4] (congrArg (fun z => [z, Value.int .i64 4]) ((at_dst 4 (by kernel_rfl)).trans (hdep 4 (by simp) (by kernel_rfl)))) (fun v w'' => v = .int .i64 (w32 l 4) ∧ Below w'.heap.size w' w'') ((wide_any _ n c l w' B (HW.out _ hgr) (Nat.le_trans hBw hgr.size) 4 (by omega)).mono fun e w'' ⟨h1, h2⟩ => ⟨_, h1, rfl, h2⟩) (fun v w'' ⟨h1, h2⟩ => hK v w'' h2 h1)
      · exact wp_move (.tmp 0) rfl _ (at_out _ (by kernel_rfl) rfl) (hK _ _ (Below.refl _ _) rfl)
      · exact wp_call 35 [.tmp 26, .const (.int .i64 8)] _ rfl ent_wide [.slice (some ⟨b, p, none⟩) n c, .int .i64 8] (congrArg (fun z => [z, Value.int .i64 8]) ((at_dst 6 (by kernel_rfl)).trans (hdep 6 (by simp) (by kernel_rfl)))) (fun v w'' => v = .int .i64 (w32 l 8) ∧ Below w'.heap.size w' w'') ((wide_any _ n c l w' B (HW.out _ hgr) (Nat.le_trans hBw hgr.size) 8 (by omega)).mono fun e w'' ⟨h1, h2⟩ => ⟨_, h1, rfl, h2⟩) (fun v w'' ⟨h1, h2⟩ => hK v w'' h2 h1)
      · exact wp_move (.tmp 0) rfl _ (at_out _ (by kernel_rfl) rfl) (hK _ _ (Below.refl _ _) rfl)
      · exact st_byte_at (.tmp 28) (.const (.int .i64 13)) rfl b p n c 13 ((at_dst 8 (by kernel_rfl)).trans (hdep 8 (by simp) (by kernel_rfl))) rfl (by omega) (hK _ _ (Below.refl _ _) rfl)
      · exact wp_load1 (.tmp 29) rfl ⟨b, p + 13, none⟩ ((at_dst 9 (by kernel_rfl)).trans (hdep 9 (by simp) (by kernel_rfl))) Try.underlying5 rfl _ (cell_getD (HW.out _ hgr) 13 (by omega)) (hK _ _ (Below.refl _ _) rfl)
      · exact wp_conv (.tmp 30) rfl _ _ ((at_dst 10 (by kernel_rfl)).trans (hdep 10 (by simp) (by kernel_rfl))) (conv_int _ _ (by omega) (by omega)) (hK _ _ (Below.refl _ _) rfl)
      · exact wp_move (.tmp 0) rfl _ (at_out _ (by kernel_rfl) rfl) (hK _ _ (Below.refl _ _) rfl)
      · exact wp_call 34 [.tmp 32, .const (.int .i64 14)] _ rfl ent_word [.slice (some ⟨b, p, none⟩) n c, .int .i64 14] (congrArg (fun z => [z, Value.int .i64 14]) ((at_dst 12 (by kernel_rfl)).trans (hdep 12 (by simp) (by kernel_rfl)))) (fun v w'' => v = .int .i64 (w16 l 14) ∧ Below w'.heap.size w' w'') ((word_any _ n c l w' B (HW.out _ hgr) 14 (by omega)).mono fun e w'' ⟨h1, h2⟩ => ⟨_, h1, rfl, h2⟩) (fun v w'' ⟨h1, h2⟩ => hK v w'' h2 h1)
      · exact wp_move (.tmp 0) rfl _ (at_out _ (by kernel_rfl) rfl) (hK _ _ (Below.refl _ _) rfl)
      · exact wp_call 34 [.tmp 34, .const (.int .i64 18)] _ rfl ent_word [.slice (some ⟨b, p, none⟩) n c, .int .i64 18] (congrArg (fun z => [z, Value.int .i64 18]) ((at_dst 14 (by kernel_rfl)).trans (hdep 14 (by simp) (by kernel_rfl)))) (fun v w'' => v = .int .i64 (w16 l 18) ∧ Below w'.heap.size w' w'') ((word_any _ n c l w' B (HW.out _ hgr) 18 (by omega)).mono fun e w'' ⟨h1, h2⟩ => ⟨_, h1, rfl, h2⟩) (fun v w'' ⟨h1, h2⟩ => hK v w'' h2 h1)
      · exact wp_move (.tmp 0) rfl _ (at_out _ (by kernel_rfl) rfl) (hK _ _ (Below.refl _ _) rfl)
      · exact wp_move (.tmp 9) rfl _ (at_out _ (by kernel_rfl) rfl) (hK _ _ (Below.refl _ _) rfl)
      · exact wp_slice (.tmp 36) rfl _ _ (some (.int .i64 20)) (some (.int .i64 ((H : Int)))) none ((at_dst 16 (by kernel_rfl)).trans (hdep 16 (by simp) (by kernel_rfl))) rfl (congrArg some ((at_dst 17 (by kernel_rfl)).trans (hdep 17 (by simp) (by kernel_rfl)))) rfl (cutA_lh b p n c 20 H _ (by omega) (by omega)) (hK _ _ (Below.refl _ _) rfl)
      · exact wp_conv (.tmp 38) rfl _ _ ((at_dst 18 (by kernel_rfl)).trans (hdep 18 (by simp) (by kernel_rfl))) (run_string_bytes (cutA_holds (lo := 20) (hi := H) (HW.out _ hgr) (by omega) (by omega))) (hK _ _ (Below.refl _ _) rfl)
      · exact wp_move (.tmp 0) rfl _ (at_out _ (by kernel_rfl) rfl) (hK _ _ (Below.refl _ _) rfl)
      · exact wp_move (.tmp 9) rfl _ (at_out _ (by kernel_rfl) rfl) (hK _ _ (Below.refl _ _) rfl)
      · exact wp_slice (.tmp 40) rfl _ _ (some (.int .i64 ((H : Int)))) none none ((at_dst 20 (by kernel_rfl)).trans (hdep 20 (by simp) (by kernel_rfl))) (congrArg some ((at_dst 21 (by kernel_rfl)).trans (hdep 21 (by simp) (by kernel_rfl)))) rfl rfl (cutA_l b p n c H _ (by omega) (by omega)) (hK _ _ (Below.refl _ _) rfl)
      · exact wp_call 36 [.tmp 42] _ rfl ent_clone [.slice (some (adr b p c H)) (n - H) (c - H)] (congrArg (fun z => [z]) ((at_dst 22 (by kernel_rfl)).trans (hdep 22 (by simp) (by kernel_rfl)))) (fun v w'' => (∃ A' c', v = .slice A' (n - H) c' ∧ Owns w'' w'.heap.size v (n - H) (l.drop H)) ∧ Below w'.heap.size w' w'') ((clone_any _ _ _ _ w' B (cutA_rest (HW.out _ hgr) (by omega)) (Nat.le_trans hBw hgr.size) (by omega)).mono fun e w'' ⟨A', c', h1, h2, h3⟩ => ⟨_, h1, ⟨A', c', rfl, h2⟩, h3⟩) (fun v w'' ⟨⟨A', c', h1, h2⟩, h3⟩ => hK v w'' h3 ⟨A', c', h1, h2.mono (Nat.le_trans hsw hgr.size)⟩)
    · intro vals w' hgr hG
      obtain ⟨A', c', ec, oc⟩ : ∃ A' c', vals 23 = .slice A' (n - H) c' ∧ Owns w' w.heap.size (vals 23) (n - H) (l.drop H) := hG 23 (by simp)
      have e1 : vals 1 = .int .i64 (w16 l 0) := hG 1 (by simp)
      have e3 : vals 3 = .int .i64 (w16 l 2) := hG 3 (by simp)
      have e5 : vals 5 = .int .i64 (w32 l 4) := hG 5 (by simp)
      have e7 : vals 7 = .int .i64 (w32 l 8) := hG 7 (by simp)
      have e11 : vals 11 = .int .i64 (l.getD 13 0) := hG 11 (by simp)
      have e13 : vals 13 = .int .i64 (w16 l 14) := hG 13 (by simp)
      have e15 : vals 15 = .int .i64 (w16 l 18) := hG 15 (by simp)
      have e19 : vals 19 = .string (strOfNums ((l.drop 20).take (H - 20))) := hG 19 (by simp)
      rw [ec] at oc
      refine st_build ([(0, 21, 1), (1, 23, 3), (2, 25, 5), (3, 27, 7), (4, 31, 11), (5, 33, 13), (6, 35, 15), (7, 39, 19), (8, 43, 23)].map fun q => (q.1, Operand.tmp q.2.1)) rfl ([(0, 21, 1), (1, 23, 3), (2, 25, 5), (3, 27, 7), (4, 31, 11), (5, 33, 13), (6, 35, 15), (7, 39, 19), (8, 43, 23)].map fun q => (q.1, vals q.2.2)) (map_fill [(0, 21, 1), (1, 23, 3), (2, 25, 5), (3, 27, 7), (4, 31, 11), (5, 33, 13), (6, 35, 15), (7, 39, 19), (8, 43, 23)] (by kernel_rfl)) (.agg #[.int .i64 (w16 l 0), .int .i64 (w16 l 2), .int .i64 (w32 l 4), .int .i64 (w32 l 8), .int .i64 (l.getD 13 0), .int .i64 (w16 l 14), .int .i64 (w16 l 18), .string (strOfNums ((l.drop 20).take (H - 20))), .slice A' (n - H) c']) ?_ ?_
      · simp only [List.map, e1, e3, e5, e7, e11, e13, e15, e19, ec]
        exact buildS _ _ _ _ _ _ _ _ _ _ _ _
      · have R9 := R4.out.drew.below hgr R4.out.lt
        refine wpAnyH_next 25 _ rfl rfl (by kernel_rfl) (st_store_row 24 (.tmp 6) (.tmp 44) rfl w.heap.size _ (put_tmps_ne (by rfl) (at_out _ (by kernel_rfl) rfl)) (put_tmps_eq (fill_size _ _ _) (by kernel_rfl)) 24 _ R9 (by kernel_rfl) rfl (oneS ⟨_, _, _, _, _, _, _, _⟩ _ _ _) ⟨trivial, wpAnyH_next 26 _ rfl rfl (by kernel_rfl) (st_assign (.const (.int .i64 0)) (.int .i64 0) rfl rfl ⟨trivial, wpAnyH_done (by kernel_rfl) ?_ _⟩)⟩)
        have BB : Below w.heap.size w (w'.setRow w.heap.size #[.int .i64 (w16 l 0), .int .i64 (w16 l 2), .int .i64 (w32 l 4), .int .i64 (w32 l 8), .int .i64 (l.getD 13 0), .int .i64 (w16 l 14), .int .i64 (w16 l 18), .string (strOfNums ((l.drop 20).take (H - 20))), .slice A' (n - H) c']) := setRow_bel ((below_drewN B4.out 1).trans (hgr.mono hsw)) (Nat.le_refl _) _
        have RR := setRow_heap w' w.heap.size _ #[.int .i64 (w16 l 0), .int .i64 (w16 l 2), .int .i64 (w32 l 4), .int .i64 (w32 l 8), .int .i64 (l.getD 13 0), .int .i64 (w16 l 14), .int .i64 (w16 l 18), .string (strOfNums ((l.drop 20).take (H - 20))), .slice A' (n - H) c'] _ _ R9
        have OO : Owns (w'.setRow w.heap.size #[.int .i64 (w16 l 0), .int .i64 (w16 l 2), .int .i64 (w32 l 4), .int .i64 (w32 l 8), .int .i64 (l.getD 13 0), .int .i64 (w16 l 14), .int .i64 (w16 l 18), .string (strOfNums ((l.drop 20).take (H - 20))), .slice A' (n - H) c']) w.heap.size (.slice A' (n - H) c') (n - H) (l.drop H) := oc.kept (row := some w.heap.size) (grown_row _ _ _) (.inr (own_other oc R9 (by decide)))
        generalize hF : Act.put _ _ _ = F
        have h2 : F.eval (.tmp 6) = .pointer (some ⟨w.heap.size, 0, none⟩) := by
          rw [← hF]
          exact put_tmps_ne (d := 7) (by rfl) (put_none (put_tmps_ne (d := 44) (by rfl) (at_out _ (by kernel_rfl) rfl)))
        have h3 : F.eval (.tmp 7) = .int .i64 0 := by
          rw [← hF]
          exact put_tmps_eq (d := 7) (put_size (put_size (fill_size _ _ _))) (by kernel_rfl)
        have h0 : F.defers = [] := by
          rw [← hF]
          exact put_defs (put_defs (put_defs (fill_defs _ _ _)))
        clear hF hG oc R9
        generalize w'.setRow w.heap.size _ = w9 at *
        go_wp2_with fail
        exact bodyPost_ret (results_pair rfl _ _ w.heap.size 24 _ (0, 0) _ _ h2 h3 RR Try.underlying24 rfl (by kernel_rfl)) h0 ⟨.inl ⟨PH.out.symm, A', n - H, c', by rw [HH.out]; rfl, by rw [← HH.out]; exact OO⟩, BB⟩
  · have q1 : (pe != 0) = true := by simpa using q
    have Q := Lib.hid q
    clear q
    go_wp2_with (refine wpList_store_row rfl 24 (.tmp 6) (.tmp 16) rfl w.heap.size #[.int .i64 0, .int .i64 0, .int .i64 0, .int .i64 0, .int .i64 0, .int .i64 0, .int .i64 0, .string ⟨#[]⟩, .slice none 0 0] rfl rfl 24 _ R4.out (by kernel_rfl) rfl (oneS Sg.zero _ _ _) ?_)
    exact bodyPost_ret (results_pair rfl _ _ w.heap.size 24 _ (0, 0) _ _ rfl rfl (setRow_heap _ _ _ _ _ _ R4.out) Try.underlying24 rfl (by kernel_rfl)) rfl ⟨.inr ⟨by rw [← PH.out]; exact Q.out, by rw [← PH.out]; rfl⟩, setRow_bel B4.out (Nat.le_refl _) _⟩
end Go.Proofs.Ytadjkidjkgnkoaa.Seg3
