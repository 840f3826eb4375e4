/- The code's Check, Matches. -/
import Derived.Test.YtmomkjgnopcobaaPick2
set_option linter.unusedVariables false
namespace Go.Proofs.Ytmomkjgnopcobaa.Pick3
open Go.RowKit Go.Proofs.Ytmomkjgnopcobaa.Mem Go.Proofs.Ytmomkjgnopcobaa.Blk Go.Proofs.Ytmomkjgnopcobaa.Ahead Go.Proofs.Ytmomkjgnopcobaa.PickD Go.Proofs.Ytmomkjgnopcobaa.PickR1 Go.Proofs.Ytmomkjgnopcobaa.PickR2 Go.Proofs.Ytmomkjgnopcobaa.Pick1 Go.Proofs.Ytmomkjgnopcobaa.Pick2 Go.Proofs.Ytmomkjgnopcobaa.Steps

def chkE (p : Pk) : Int := if mayP p then 0 else 1
set_option maxRecDepth 100000 in
set_option maxHeartbeats 2000000 in
theorem check_code (p : Pk) (w : World) : Calls Try.prog 22 #[.agg #[.string p.hl, .string p.hh, .string p.tl, .string p.th, .int .i64 p.pr, .int .i64 p.nl, .int .i64 p.nh, .int .i64 p.fl, .int .i64 p.fh]] w fun e w' => e = .returned (.int .i64 (chkE p)) ∧ Below w.heap.size w w' := by
  obtain ⟨r, hr⟩ : ∃ r, r = chkE p := ⟨_, rfl⟩
  rw [← hr]
  have hm : mayP p = (spanB p.hl p.hh && (spanB p.tl p.th && ((decide (-1 ≤ p.pr) && decide (p.pr ≤ 255)) && (portsB p.nl p.nh && portsB p.fl p.fh)))) := by
    unfold mayP
    simp only [Bool.and_assoc]
  unfold chkE at hr
  rw [hm] at hr
  clear hm
  have S1 := Lib.hid (span_code p.hl p.hh)
  have S2 := Lib.hid (span_code p.tl p.th)
  have WI := Lib.hid (within_i p.pr (-1) 255)
  have P1 := Lib.hid (ports_code p.nl p.nh)
  have P2 := Lib.hid (ports_code p.fl p.fh)
  generalize spanB p.hl p.hh = x1 at *
  generalize spanB p.tl p.th = x2 at *
  generalize (decide (-1 ≤ p.pr) && decide (p.pr ≤ 255)) = x3 at *
  generalize portsB p.nl p.nh = x4 at *
  generalize portsB p.fl p.fh = x5 at *
  have K0 := Lib.hid (Blk.new w 33 #[.string p.hl, .string p.hh, .string p.tl, .string p.th, .int .i64 p.pr, .int .i64 p.nl, .int .i64 p.nh, .int .i64 p.fl, .int .i64 p.fh])
  have B0 := Lib.hid ((Below.refl w.heap.size w).alloc (Nat.le_refl _) (.cells #[.string p.hl, .string p.hh, .string p.tl, .string p.th, .int .i64 p.pr, .int .i64 p.nl, .int .i64 p.nh, .int .i64 p.fl, .int .i64 p.fh] 33))
  cases x1
  · have E : Hid (r = 1) := Lib.hid (by rw [hr]; rfl)
    clear hr
    go_enter Try.func22, Try.ntmps22
    go_wp2_with (refine wpList_load_part rfl 29 (.tmp 4) rfl w.heap.size 0 [.string p.hl, .string p.hh] rfl (part_span 0 p.hl p.hh K0.out rfl rfl) ?_)
    refine (S1.out _).mono ?_
    rintro e w1 ⟨rfl, hb⟩
    have B1 := Lib.hid (B0.out.trans (hb.mono (by simp)))
    have K1 := Lib.hid (Blk.below K0.out hb (Blk.lt K0.out))
    clear hb
    go_wp2_with fail
    go_ret
    exact ⟨by rw [E.out]; rfl, B1.out⟩
  · cases x2
    · have E : Hid (r = 1) := Lib.hid (by rw [hr]; rfl)
      clear hr
      go_enter Try.func22, Try.ntmps22
      go_wp2_with (refine wpList_load_part rfl 29 (.tmp 4) rfl w.heap.size 0 [.string p.hl, .string p.hh] rfl (part_span 0 p.hl p.hh K0.out rfl rfl) ?_)
      refine (S1.out _).mono ?_
      rintro e w1 ⟨rfl, hb⟩
      have B1 := Lib.hid (B0.out.trans (hb.mono (by simp)))
      have K1 := Lib.hid (Blk.below K0.out hb (Blk.lt K0.out))
      clear hb
      go_wp2_with (refine wpList_load_part rfl 29 (.tmp 8) rfl w.heap.size 2 [.string p.tl, .string p.th] rfl (part_span 2 p.tl p.th K1.out rfl rfl) ?_)
      refine (S2.out _).mono ?_
      rintro e w2 ⟨rfl, hb⟩
      have B2 := Lib.hid (B1.out.trans (hb.mono B1.out.size))
      have K2 := Lib.hid (Blk.below K1.out hb (Blk.lt K1.out))
      clear hb
      go_wp2_with fail
      go_ret
      exact ⟨by rw [E.out]; rfl, B2.out⟩
    · cases x3
      · have E : Hid (r = 1) := Lib.hid (by rw [hr]; rfl)
        clear hr
        go_enter Try.func22, Try.ntmps22
        go_wp2_with (refine wpList_load_part rfl 29 (.tmp 4) rfl w.heap.size 0 [.string p.hl, .string p.hh] rfl (part_span 0 p.hl p.hh K0.out rfl rfl) ?_)
        refine (S1.out _).mono ?_
        rintro e w1 ⟨rfl, hb⟩
        have B1 := Lib.hid (B0.out.trans (hb.mono (by simp)))
        have K1 := Lib.hid (Blk.below K0.out hb (Blk.lt K0.out))
        clear hb
        go_wp2_with (refine wpList_load_part rfl 29 (.tmp 8) rfl w.heap.size 2 [.string p.tl, .string p.th] rfl (part_span 2 p.tl p.th K1.out rfl rfl) ?_)
        refine (S2.out _).mono ?_
        rintro e w2 ⟨rfl, hb⟩
        have B2 := Lib.hid (B1.out.trans (hb.mono B1.out.size))
        have K2 := Lib.hid (Blk.below K1.out hb (Blk.lt K1.out))
        clear hb
        have k4 : w2.cell? ⟨w.heap.size, 4, none⟩ = some (.int .i64 p.pr) := K2.out.cell 4
        go_wp2_with fail
        refine (WI.out _).mono ?_
        rintro e w3 ⟨rfl, rfl⟩
        go_wp2_with fail
        go_ret
        exact ⟨by rw [E.out]; rfl, B2.out⟩
      · cases x4
        · have E : Hid (r = 1) := Lib.hid (by rw [hr]; rfl)
          clear hr
          go_enter Try.func22, Try.ntmps22
          go_wp2_with (refine wpList_load_part rfl 29 (.tmp 4) rfl w.heap.size 0 [.string p.hl, .string p.hh] rfl (part_span 0 p.hl p.hh K0.out rfl rfl) ?_)
          refine (S1.out _).mono ?_
          rintro e w1 ⟨rfl, hb⟩
          have B1 := Lib.hid (B0.out.trans (hb.mono (by simp)))
          have K1 := Lib.hid (Blk.below K0.out hb (Blk.lt K0.out))
          clear hb
          go_wp2_with (refine wpList_load_part rfl 29 (.tmp 8) rfl w.heap.size 2 [.string p.tl, .string p.th] rfl (part_span 2 p.tl p.th K1.out rfl rfl) ?_)
          refine (S2.out _).mono ?_
          rintro e w2 ⟨rfl, hb⟩
          have B2 := Lib.hid (B1.out.trans (hb.mono B1.out.size))
          have K2 := Lib.hid (Blk.below K1.out hb (Blk.lt K1.out))
          clear hb
          have k4 : w2.cell? ⟨w.heap.size, 4, none⟩ = some (.int .i64 p.pr) := K2.out.cell 4
          go_wp2_with fail
          refine (WI.out _).mono ?_
          rintro e w3 ⟨rfl, rfl⟩
          go_wp2_with (refine wpList_load_part rfl 31 (.tmp 16) rfl w.heap.size 5 [.int .i64 p.nl, .int .i64 p.nh] rfl (part_ports 5 p.nl p.nh K2.out rfl rfl) ?_)
          refine (P1.out _).mono ?_
          rintro e w4 ⟨rfl, hb⟩
          have B3 := Lib.hid (B2.out.trans (hb.mono B2.out.size))
          have K3 := Lib.hid (Blk.below K2.out hb (Blk.lt K2.out))
          clear hb
          go_wp2_with fail
          go_ret
          exact ⟨by rw [E.out]; rfl, B3.out⟩
        · cases x5
          · have E : Hid (r = 1) := Lib.hid (by rw [hr]; rfl)
            clear hr
            go_enter Try.func22, Try.ntmps22
            go_wp2_with (refine wpList_load_part rfl 29 (.tmp 4) rfl w.heap.size 0 [.string p.hl, .string p.hh] rfl (part_span 0 p.hl p.hh K0.out rfl rfl) ?_)
            refine (S1.out _).mono ?_
            rintro e w1 ⟨rfl, hb⟩
            have B1 := Lib.hid (B0.out.trans (hb.mono (by simp)))
            have K1 := Lib.hid (Blk.below K0.out hb (Blk.lt K0.out))
            clear hb
            go_wp2_with (refine wpList_load_part rfl 29 (.tmp 8) rfl w.heap.size 2 [.string p.tl, .string p.th] rfl (part_span 2 p.tl p.th K1.out rfl rfl) ?_)
            refine (S2.out _).mono ?_
            rintro e w2 ⟨rfl, hb⟩
            have B2 := Lib.hid (B1.out.trans (hb.mono B1.out.size))
            have K2 := Lib.hid (Blk.below K1.out hb (Blk.lt K1.out))
            clear hb
            have k4 : w2.cell? ⟨w.heap.size, 4, none⟩ = some (.int .i64 p.pr) := K2.out.cell 4
            go_wp2_with fail
            refine (WI.out _).mono ?_
            rintro e w3 ⟨rfl, rfl⟩
            go_wp2_with (refine wpList_load_part rfl 31 (.tmp 16) rfl w.heap.size 5 [.int .i64 p.nl, .int .i64 p.nh] rfl (part_ports 5 p.nl p.nh K2.out rfl rfl) ?_)
            refine (P1.out _).mono ?_
            rintro e w4 ⟨rfl, hb⟩
            have B3 := Lib.hid (B2.out.trans (hb.mono B2.out.size))
            have K3 := Lib.hid (Blk.below K2.out hb (Blk.lt K2.out))
            clear hb
            go_wp2_with (refine wpList_load_part rfl 31 (.tmp 20) rfl w.heap.size 7 [.int .i64 p.fl, .int .i64 p.fh] rfl (part_ports 7 p.fl p.fh K3.out rfl rfl) ?_)
            refine (P2.out _).mono ?_
            rintro e w5 ⟨rfl, hb⟩
            have B4 := Lib.hid (B3.out.trans (hb.mono B3.out.size))
            have K4 := Lib.hid (Blk.below K3.out hb (Blk.lt K3.out))
            clear hb
            go_wp2_with fail
            go_ret
            exact ⟨by rw [E.out]; rfl, B4.out⟩
          · have E : Hid (r = 0) := Lib.hid (by rw [hr]; rfl)
            clear hr
            go_enter Try.func22, Try.ntmps22
            go_wp2_with (refine wpList_load_part rfl 29 (.tmp 4) rfl w.heap.size 0 [.string p.hl, .string p.hh] rfl (part_span 0 p.hl p.hh K0.out rfl rfl) ?_)
            refine (S1.out _).mono ?_
            rintro e w1 ⟨rfl, hb⟩
            have B1 := Lib.hid (B0.out.trans (hb.mono (by simp)))
            have K1 := Lib.hid (Blk.below K0.out hb (Blk.lt K0.out))
            clear hb
            go_wp2_with (refine wpList_load_part rfl 29 (.tmp 8) rfl w.heap.size 2 [.string p.tl, .string p.th] rfl (part_span 2 p.tl p.th K1.out rfl rfl) ?_)
            refine (S2.out _).mono ?_
            rintro e w2 ⟨rfl, hb⟩
            have B2 := Lib.hid (B1.out.trans (hb.mono B1.out.size))
            have K2 := Lib.hid (Blk.below K1.out hb (Blk.lt K1.out))
            clear hb
            have k4 : w2.cell? ⟨w.heap.size, 4, none⟩ = some (.int .i64 p.pr) := K2.out.cell 4
            go_wp2_with fail
            refine (WI.out _).mono ?_
            rintro e w3 ⟨rfl, rfl⟩
            go_wp2_with (refine wpList_load_part rfl 31 (.tmp 16) rfl w.heap.size 5 [.int .i64 p.nl, .int .i64 p.nh] rfl (part_ports 5 p.nl p.nh K2.out rfl rfl) ?_)
            refine (P1.out _).mono ?_
            rintro e w4 ⟨rfl, hb⟩
            have B3 := Lib.hid (B2.out.trans (hb.mono B2.out.size))
            have K3 := Lib.hid (Blk.below K2.out hb (Blk.lt K2.out))
            clear hb
            go_wp2_with (refine wpList_load_part rfl 31 (.tmp 20) rfl w.heap.size 7 [.int .i64 p.fl, .int .i64 p.fh] rfl (part_ports 7 p.fl p.fh K3.out rfl rfl) ?_)
            refine (P2.out _).mono ?_
            rintro e w5 ⟨rfl, hb⟩
            have B4 := Lib.hid (B3.out.trans (hb.mono B3.out.size))
            have K4 := Lib.hid (Blk.below K3.out hb (Blk.lt K3.out))
            clear hb
            go_wp2_with fail
            go_ret
            exact ⟨by rw [E.out]; rfl, B4.out⟩

def matC (p : Pk) (f : Fl) : Bool := mayP p && (inC f.here p.hl p.hh && (inC f.there p.tl p.th && ((decide (p.pr = -1) || decide (p.pr = f.pr)) && (portB f.near p.nl p.nh && portB f.far p.fl p.fh))))
theorem matC_eq (p : Pk) (f : Fl) : matC p f = matB p f := by
  unfold matC matB
  by_cases h : mayP p = true
  · have h1 := h
    unfold mayP at h1
    simp only [Bool.and_eq_true] at h1
    rw [inC_eq h1.1, inC_eq h1.2.1]
  · have h' : mayP p = false := by simpa using h
    rw [h', Bool.false_and, Bool.false_and]
theorem chk_0 {p : Pk} (h : mayP p = true) : chkE p = 0 := by unfold chkE; rw [h]; rfl
theorem chk_1 {p : Pk} (h : mayP p = false) : chkE p = 1 := by unfold chkE; rw [h]; rfl
set_option maxRecDepth 100000 in
set_option maxHeartbeats 4000000 in
theorem matches_code (p : Pk) (f : Fl) (w : World) : Calls Try.prog 13 #[.agg #[.string p.hl, .string p.hh, .string p.tl, .string p.th, .int .i64 p.pr, .int .i64 p.nl, .int .i64 p.nh, .int .i64 p.fl, .int .i64 p.fh], .agg #[.string f.here, .string f.there, .int .i64 f.pr, .int .i64 f.near, .int .i64 f.far]] w fun e w' => e = .returned (.bool (matB p f)) ∧ Below w.heap.size w w' := by
  obtain ⟨r, hr⟩ : ∃ r, r = matB p f := ⟨_, rfl⟩
  rw [← hr]
  rw [← matC_eq] at hr
  unfold matC at hr
  have M := Lib.hid (check_code p)
  have I1 := Lib.hid (in_code f.here p.hl p.hh)
  have I2 := Lib.hid (in_code f.there p.tl p.th)
  have P1 := Lib.hid (inp_code f.near p.nl p.nh)
  have P2 := Lib.hid (inp_code f.far p.fl p.fh)
  obtain ⟨c0, hc0⟩ : ∃ c, c = chkE p := ⟨_, rfl⟩
  rw [← hc0] at M
  unfold chkE at hc0
  generalize mayP p = x0 at *
  generalize inC f.here p.hl p.hh = x1 at *
  generalize inC f.there p.tl p.th = x2 at *
  generalize portB f.near p.nl p.nh = x3 at *
  generalize portB f.far p.fl p.fh = x4 at *
  have K0 := Lib.hid (Blk.alloc (Blk.new w 33 #[.string p.hl, .string p.hh, .string p.tl, .string p.th, .int .i64 p.pr, .int .i64 p.nl, .int .i64 p.nh, .int .i64 p.fl, .int .i64 p.fh]) (.cells #[.string f.here, .string f.there, .int .i64 f.pr, .int .i64 f.near, .int .i64 f.far] 24))
  have J0 : Hid (Blk ((w.alloc (.cells #[.string p.hl, .string p.hh, .string p.tl, .string p.th, .int .i64 p.pr, .int .i64 p.nl, .int .i64 p.nh, .int .i64 p.fl, .int .i64 p.fh] 33)).alloc (.cells #[.string f.here, .string f.there, .int .i64 f.pr, .int .i64 f.near, .int .i64 f.far] 24)) (w.heap.size + 1) 24 #[.string f.here, .string f.there, .int .i64 f.pr, .int .i64 f.near, .int .i64 f.far]) := Lib.hid (by
    have := Blk.new (w.alloc (.cells #[.string p.hl, .string p.hh, .string p.tl, .string p.th, .int .i64 p.pr, .int .i64 p.nl, .int .i64 p.nh, .int .i64 p.fl, .int .i64 p.fh] 33)) 24 #[.string f.here, .string f.there, .int .i64 f.pr, .int .i64 f.near, .int .i64 f.far]
    simpa using this)
  have B0 := Lib.hid (((Below.refl w.heap.size w).alloc (Nat.le_refl _) (.cells #[.string p.hl, .string p.hh, .string p.tl, .string p.th, .int .i64 p.pr, .int .i64 p.nl, .int .i64 p.nh, .int .i64 p.fl, .int .i64 p.fh] 33)).alloc (by simp) (.cells #[.string f.here, .string f.there, .int .i64 f.pr, .int .i64 f.near, .int .i64 f.far] 24))
  cases x0
  · obtain rfl : c0 = 1 := hc0
    have E : Hid (r = false) := Lib.hid (by rw [hr]; simp)
    clear hr 
    go_enter Try.func13, Try.ntmps13
    go_wp2_with (refine Loads.wpList_load_w rfl 33 (.tmp 2) rfl w.heap.size rfl 33 #[.string p.hl, .string p.hh, .string p.tl, .string p.th, .int .i64 p.pr, .int .i64 p.nl, .int .i64 p.nh, .int .i64 p.fl, .int .i64 p.fh] (0, 0) _ (K0.out) Try.underlying33 rfl (by kernel_rfl) ?_)
    refine (M.out _).mono ?_
    rintro e w1 ⟨rfl, hb⟩
    have B1 := Lib.hid (B0.out.trans (hb.mono (by simp; omega)))
    have K1 := Lib.hid (Blk.below K0.out hb (Blk.lt K0.out))
    have J1 := Lib.hid (Blk.below J0.out hb (Blk.lt J0.out))
    clear hb
    go_wp2_with fail
    go_ret
    exact ⟨by rw [E.out]; rfl, B1.out⟩
  obtain rfl : c0 = 0 := hc0
  cases x1
  · have E : Hid (r = false) := Lib.hid (by rw [hr]; simp)
    clear hr 
    go_enter Try.func13, Try.ntmps13
    go_wp2_with (refine Loads.wpList_load_w rfl 33 (.tmp 2) rfl w.heap.size rfl 33 #[.string p.hl, .string p.hh, .string p.tl, .string p.th, .int .i64 p.pr, .int .i64 p.nl, .int .i64 p.nh, .int .i64 p.fl, .int .i64 p.fh] (0, 0) _ (K0.out) Try.underlying33 rfl (by kernel_rfl) ?_)
    refine (M.out _).mono ?_
    rintro e w1 ⟨rfl, hb⟩
    have B1 := Lib.hid (B0.out.trans (hb.mono (by simp; omega)))
    have K1 := Lib.hid (Blk.below K0.out hb (Blk.lt K0.out))
    have J1 := Lib.hid (Blk.below J0.out hb (Blk.lt J0.out))
    clear hb
    have h0 : w1.cell? ⟨w.heap.size + 1, 0, none⟩ = some (.string f.here) := J1.out.cell 0
    go_wp2_with (refine wpList_load_part rfl 29 (.tmp 11) rfl w.heap.size 0 [.string p.hl, .string p.hh] rfl (part_span 0 p.hl p.hh K1.out rfl rfl) ?_)
    refine (I1.out _).mono ?_
    rintro e w2 ⟨rfl, hb⟩
    have B2 := Lib.hid (B1.out.trans (hb.mono B1.out.size))
    have K2 := Lib.hid (Blk.below K1.out hb (Blk.lt K1.out))
    have J2 := Lib.hid (Blk.below J1.out hb (Blk.lt J1.out))
    clear hb
    go_wp2_with fail
    go_ret
    exact ⟨by rw [E.out]; rfl, B2.out⟩
  cases x2
  · have E : Hid (r = false) := Lib.hid (by rw [hr]; simp)
    clear hr 
    go_enter Try.func13, Try.ntmps13
    go_wp2_with (refine Loads.wpList_load_w rfl 33 (.tmp 2) rfl w.heap.size rfl 33 #[.string p.hl, .string p.hh, .string p.tl, .string p.th, .int .i64 p.pr, .int .i64 p.nl, .int .i64 p.nh, .int .i64 p.fl, .int .i64 p.fh] (0, 0) _ (K0.out) Try.underlying33 rfl (by kernel_rfl) ?_)
    refine (M.out _).mono ?_
    rintro e w1 ⟨rfl, hb⟩
    have B1 := Lib.hid (B0.out.trans (hb.mono (by simp; omega)))
    have K1 := Lib.hid (Blk.below K0.out hb (Blk.lt K0.out))
    have J1 := Lib.hid (Blk.below J0.out hb (Blk.lt J0.out))
    clear hb
    have h0 : w1.cell? ⟨w.heap.size + 1, 0, none⟩ = some (.string f.here) := J1.out.cell 0
    go_wp2_with (refine wpList_load_part rfl 29 (.tmp 11) rfl w.heap.size 0 [.string p.hl, .string p.hh] rfl (part_span 0 p.hl p.hh K1.out rfl rfl) ?_)
    refine (I1.out _).mono ?_
    rintro e w2 ⟨rfl, hb⟩
    have B2 := Lib.hid (B1.out.trans (hb.mono B1.out.size))
    have K2 := Lib.hid (Blk.below K1.out hb (Blk.lt K1.out))
    have J2 := Lib.hid (Blk.below J1.out hb (Blk.lt J1.out))
    clear hb
    have h1 : w2.cell? ⟨w.heap.size + 1, 1, none⟩ = some (.string f.there) := J2.out.cell 1
    go_wp2_with (refine wpList_load_part rfl 29 (.tmp 18) rfl w.heap.size 2 [.string p.tl, .string p.th] rfl (part_span 2 p.tl p.th K2.out rfl rfl) ?_)
    refine (I2.out _).mono ?_
    rintro e w3 ⟨rfl, hb⟩
    have B3 := Lib.hid (B2.out.trans (hb.mono B2.out.size))
    have K3 := Lib.hid (Blk.below K2.out hb (Blk.lt K2.out))
    have J3 := Lib.hid (Blk.below J2.out hb (Blk.lt J2.out))
    clear hb
    have h4 : w3.cell? ⟨w.heap.size, 4, none⟩ = some (.int .i64 p.pr) := K3.out.cell 4
    have h2 : w3.cell? ⟨w.heap.size + 1, 2, none⟩ = some (.int .i64 f.pr) := J3.out.cell 2
    have h3 : w3.cell? ⟨w.heap.size + 1, 3, none⟩ = some (.int .i64 f.near) := J3.out.cell 3
    go_wp2_with fail
    go_ret
    exact ⟨by rw [E.out]; rfl, B3.out⟩
  by_cases a1 : p.pr = -1
  · have g1 : (p.pr == -1) = true := by rw [beq_iff_eq]; exact a1
    cases x3
    · have E : Hid (r = false) := Lib.hid (by rw [hr]; simp [a1])
      clear hr a1
      go_enter Try.func13, Try.ntmps13
      go_wp2_with (refine Loads.wpList_load_w rfl 33 (.tmp 2) rfl w.heap.size rfl 33 #[.string p.hl, .string p.hh, .string p.tl, .string p.th, .int .i64 p.pr, .int .i64 p.nl, .int .i64 p.nh, .int .i64 p.fl, .int .i64 p.fh] (0, 0) _ (K0.out) Try.underlying33 rfl (by kernel_rfl) ?_)
      refine (M.out _).mono ?_
      rintro e w1 ⟨rfl, hb⟩
      have B1 := Lib.hid (B0.out.trans (hb.mono (by simp; omega)))
      have K1 := Lib.hid (Blk.below K0.out hb (Blk.lt K0.out))
      have J1 := Lib.hid (Blk.below J0.out hb (Blk.lt J0.out))
      clear hb
      have h0 : w1.cell? ⟨w.heap.size + 1, 0, none⟩ = some (.string f.here) := J1.out.cell 0
      go_wp2_with (refine wpList_load_part rfl 29 (.tmp 11) rfl w.heap.size 0 [.string p.hl, .string p.hh] rfl (part_span 0 p.hl p.hh K1.out rfl rfl) ?_)
      refine (I1.out _).mono ?_
      rintro e w2 ⟨rfl, hb⟩
      have B2 := Lib.hid (B1.out.trans (hb.mono B1.out.size))
      have K2 := Lib.hid (Blk.below K1.out hb (Blk.lt K1.out))
      have J2 := Lib.hid (Blk.below J1.out hb (Blk.lt J1.out))
      clear hb
      have h1 : w2.cell? ⟨w.heap.size + 1, 1, none⟩ = some (.string f.there) := J2.out.cell 1
      go_wp2_with (refine wpList_load_part rfl 29 (.tmp 18) rfl w.heap.size 2 [.string p.tl, .string p.th] rfl (part_span 2 p.tl p.th K2.out rfl rfl) ?_)
      refine (I2.out _).mono ?_
      rintro e w3 ⟨rfl, hb⟩
      have B3 := Lib.hid (B2.out.trans (hb.mono B2.out.size))
      have K3 := Lib.hid (Blk.below K2.out hb (Blk.lt K2.out))
      have J3 := Lib.hid (Blk.below J2.out hb (Blk.lt J2.out))
      clear hb
      have h4 : w3.cell? ⟨w.heap.size, 4, none⟩ = some (.int .i64 p.pr) := K3.out.cell 4
      have h2 : w3.cell? ⟨w.heap.size + 1, 2, none⟩ = some (.int .i64 f.pr) := J3.out.cell 2
      have h3 : w3.cell? ⟨w.heap.size + 1, 3, none⟩ = some (.int .i64 f.near) := J3.out.cell 3
      go_wp2_with (refine wpList_load_part rfl 31 (.tmp 37) rfl w.heap.size 5 [.int .i64 p.nl, .int .i64 p.nh] rfl (part_ports 5 p.nl p.nh K3.out rfl rfl) ?_)
      refine (P1.out _).mono ?_
      rintro e w4 ⟨rfl, hb⟩
      have B4 := Lib.hid (B3.out.trans (hb.mono B3.out.size))
      have K4 := Lib.hid (Blk.below K3.out hb (Blk.lt K3.out))
      have J4 := Lib.hid (Blk.below J3.out hb (Blk.lt J3.out))
      clear hb
      have h5 : w4.cell? ⟨w.heap.size + 1, 4, none⟩ = some (.int .i64 f.far) := J4.out.cell 4
      go_wp2_with fail
      go_ret
      exact ⟨by rw [E.out]; rfl, B4.out⟩
    · cases x4
      · have E : Hid (r = false) := Lib.hid (by rw [hr]; simp [a1])
        clear hr a1
        go_enter Try.func13, Try.ntmps13
        go_wp2_with (refine Loads.wpList_load_w rfl 33 (.tmp 2) rfl w.heap.size rfl 33 #[.string p.hl, .string p.hh, .string p.tl, .string p.th, .int .i64 p.pr, .int .i64 p.nl, .int .i64 p.nh, .int .i64 p.fl, .int .i64 p.fh] (0, 0) _ (K0.out) Try.underlying33 rfl (by kernel_rfl) ?_)
        refine (M.out _).mono ?_
        rintro e w1 ⟨rfl, hb⟩
        have B1 := Lib.hid (B0.out.trans (hb.mono (by simp; omega)))
        have K1 := Lib.hid (Blk.below K0.out hb (Blk.lt K0.out))
        have J1 := Lib.hid (Blk.below J0.out hb (Blk.lt J0.out))
        clear hb
        have h0 : w1.cell? ⟨w.heap.size + 1, 0, none⟩ = some (.string f.here) := J1.out.cell 0
        go_wp2_with (refine wpList_load_part rfl 29 (.tmp 11) rfl w.heap.size 0 [.string p.hl, .string p.hh] rfl (part_span 0 p.hl p.hh K1.out rfl rfl) ?_)
        refine (I1.out _).mono ?_
        rintro e w2 ⟨rfl, hb⟩
        have B2 := Lib.hid (B1.out.trans (hb.mono B1.out.size))
        have K2 := Lib.hid (Blk.below K1.out hb (Blk.lt K1.out))
        have J2 := Lib.hid (Blk.below J1.out hb (Blk.lt J1.out))
        clear hb
        have h1 : w2.cell? ⟨w.heap.size + 1, 1, none⟩ = some (.string f.there) := J2.out.cell 1
        go_wp2_with (refine wpList_load_part rfl 29 (.tmp 18) rfl w.heap.size 2 [.string p.tl, .string p.th] rfl (part_span 2 p.tl p.th K2.out rfl rfl) ?_)
        refine (I2.out _).mono ?_
        rintro e w3 ⟨rfl, hb⟩
        have B3 := Lib.hid (B2.out.trans (hb.mono B2.out.size))
        have K3 := Lib.hid (Blk.below K2.out hb (Blk.lt K2.out))
        have J3 := Lib.hid (Blk.below J2.out hb (Blk.lt J2.out))
        clear hb
        have h4 : w3.cell? ⟨w.heap.size, 4, none⟩ = some (.int .i64 p.pr) := K3.out.cell 4
        have h2 : w3.cell? ⟨w.heap.size + 1, 2, none⟩ = some (.int .i64 f.pr) := J3.out.cell 2
        have h3 : w3.cell? ⟨w.heap.size + 1, 3, none⟩ = some (.int .i64 f.near) := J3.out.cell 3
        go_wp2_with (refine wpList_load_part rfl 31 (.tmp 37) rfl w.heap.size 5 [.int .i64 p.nl, .int .i64 p.nh] rfl (part_ports 5 p.nl p.nh K3.out rfl rfl) ?_)
        refine (P1.out _).mono ?_
        rintro e w4 ⟨rfl, hb⟩
        have B4 := Lib.hid (B3.out.trans (hb.mono B3.out.size))
        have K4 := Lib.hid (Blk.below K3.out hb (Blk.lt K3.out))
        have J4 := Lib.hid (Blk.below J3.out hb (Blk.lt J3.out))
        clear hb
        have h5 : w4.cell? ⟨w.heap.size + 1, 4, none⟩ = some (.int .i64 f.far) := J4.out.cell 4
        go_wp2_with (refine wpList_load_part rfl 31 (.tmp 44) rfl w.heap.size 7 [.int .i64 p.fl, .int .i64 p.fh] rfl (part_ports 7 p.fl p.fh K4.out rfl rfl) ?_)
        refine (P2.out _).mono ?_
        rintro e w5 ⟨rfl, hb⟩
        have B5 := Lib.hid (B4.out.trans (hb.mono B4.out.size))
        have K5 := Lib.hid (Blk.below K4.out hb (Blk.lt K4.out))
        have J5 := Lib.hid (Blk.below J4.out hb (Blk.lt J4.out))
        clear hb
        go_wp2_with fail
        go_ret
        exact ⟨by rw [E.out]; rfl, B5.out⟩
      · have E : Hid (r = true) := Lib.hid (by rw [hr]; simp [a1])
        clear hr a1
        go_enter Try.func13, Try.ntmps13
        go_wp2_with (refine Loads.wpList_load_w rfl 33 (.tmp 2) rfl w.heap.size rfl 33 #[.string p.hl, .string p.hh, .string p.tl, .string p.th, .int .i64 p.pr, .int .i64 p.nl, .int .i64 p.nh, .int .i64 p.fl, .int .i64 p.fh] (0, 0) _ (K0.out) Try.underlying33 rfl (by kernel_rfl) ?_)
        refine (M.out _).mono ?_
        rintro e w1 ⟨rfl, hb⟩
        have B1 := Lib.hid (B0.out.trans (hb.mono (by simp; omega)))
        have K1 := Lib.hid (Blk.below K0.out hb (Blk.lt K0.out))
        have J1 := Lib.hid (Blk.below J0.out hb (Blk.lt J0.out))
        clear hb
        have h0 : w1.cell? ⟨w.heap.size + 1, 0, none⟩ = some (.string f.here) := J1.out.cell 0
        go_wp2_with (refine wpList_load_part rfl 29 (.tmp 11) rfl w.heap.size 0 [.string p.hl, .string p.hh] rfl (part_span 0 p.hl p.hh K1.out rfl rfl) ?_)
        refine (I1.out _).mono ?_
        rintro e w2 ⟨rfl, hb⟩
        have B2 := Lib.hid (B1.out.trans (hb.mono B1.out.size))
        have K2 := Lib.hid (Blk.below K1.out hb (Blk.lt K1.out))
        have J2 := Lib.hid (Blk.below J1.out hb (Blk.lt J1.out))
        clear hb
        have h1 : w2.cell? ⟨w.heap.size + 1, 1, none⟩ = some (.string f.there) := J2.out.cell 1
        go_wp2_with (refine wpList_load_part rfl 29 (.tmp 18) rfl w.heap.size 2 [.string p.tl, .string p.th] rfl (part_span 2 p.tl p.th K2.out rfl rfl) ?_)
        refine (I2.out _).mono ?_
        rintro e w3 ⟨rfl, hb⟩
        have B3 := Lib.hid (B2.out.trans (hb.mono B2.out.size))
        have K3 := Lib.hid (Blk.below K2.out hb (Blk.lt K2.out))
        have J3 := Lib.hid (Blk.below J2.out hb (Blk.lt J2.out))
        clear hb
        have h4 : w3.cell? ⟨w.heap.size, 4, none⟩ = some (.int .i64 p.pr) := K3.out.cell 4
        have h2 : w3.cell? ⟨w.heap.size + 1, 2, none⟩ = some (.int .i64 f.pr) := J3.out.cell 2
        have h3 : w3.cell? ⟨w.heap.size + 1, 3, none⟩ = some (.int .i64 f.near) := J3.out.cell 3
        go_wp2_with (refine wpList_load_part rfl 31 (.tmp 37) rfl w.heap.size 5 [.int .i64 p.nl, .int .i64 p.nh] rfl (part_ports 5 p.nl p.nh K3.out rfl rfl) ?_)
        refine (P1.out _).mono ?_
        rintro e w4 ⟨rfl, hb⟩
        have B4 := Lib.hid (B3.out.trans (hb.mono B3.out.size))
        have K4 := Lib.hid (Blk.below K3.out hb (Blk.lt K3.out))
        have J4 := Lib.hid (Blk.below J3.out hb (Blk.lt J3.out))
        clear hb
        have h5 : w4.cell? ⟨w.heap.size + 1, 4, none⟩ = some (.int .i64 f.far) := J4.out.cell 4
        go_wp2_with (refine wpList_load_part rfl 31 (.tmp 44) rfl w.heap.size 7 [.int .i64 p.fl, .int .i64 p.fh] rfl (part_ports 7 p.fl p.fh K4.out rfl rfl) ?_)
        refine (P2.out _).mono ?_
        rintro e w5 ⟨rfl, hb⟩
        have B5 := Lib.hid (B4.out.trans (hb.mono B4.out.size))
        have K5 := Lib.hid (Blk.below K4.out hb (Blk.lt K4.out))
        have J5 := Lib.hid (Blk.below J4.out hb (Blk.lt J4.out))
        clear hb
        go_wp2_with fail
        go_ret
        exact ⟨by rw [E.out]; rfl, B5.out⟩
  · have g1 : (p.pr == -1) = false := by rw [beq_eq_false_iff_ne]; exact a1
    by_cases a2 : p.pr = f.pr
    · have g2 : (p.pr == f.pr) = true := by rw [beq_iff_eq]; exact a2
      have a3 : (decide (p.pr = -1) || decide (p.pr = f.pr)) = true := by rw [decide_eq_true a2, Bool.or_true]
      clear a1 a2
      cases x3
      · have E : Hid (r = false) := Lib.hid (by rw [hr]; rw [a3]; simp)
        clear hr a3
        go_enter Try.func13, Try.ntmps13
        go_wp2_with (refine Loads.wpList_load_w rfl 33 (.tmp 2) rfl w.heap.size rfl 33 #[.string p.hl, .string p.hh, .string p.tl, .string p.th, .int .i64 p.pr, .int .i64 p.nl, .int .i64 p.nh, .int .i64 p.fl, .int .i64 p.fh] (0, 0) _ (K0.out) Try.underlying33 rfl (by kernel_rfl) ?_)
        refine (M.out _).mono ?_
        rintro e w1 ⟨rfl, hb⟩
        have B1 := Lib.hid (B0.out.trans (hb.mono (by simp; omega)))
        have K1 := Lib.hid (Blk.below K0.out hb (Blk.lt K0.out))
        have J1 := Lib.hid (Blk.below J0.out hb (Blk.lt J0.out))
        clear hb
        have h0 : w1.cell? ⟨w.heap.size + 1, 0, none⟩ = some (.string f.here) := J1.out.cell 0
        go_wp2_with (refine wpList_load_part rfl 29 (.tmp 11) rfl w.heap.size 0 [.string p.hl, .string p.hh] rfl (part_span 0 p.hl p.hh K1.out rfl rfl) ?_)
        refine (I1.out _).mono ?_
        rintro e w2 ⟨rfl, hb⟩
        have B2 := Lib.hid (B1.out.trans (hb.mono B1.out.size))
        have K2 := Lib.hid (Blk.below K1.out hb (Blk.lt K1.out))
        have J2 := Lib.hid (Blk.below J1.out hb (Blk.lt J1.out))
        clear hb
        have h1 : w2.cell? ⟨w.heap.size + 1, 1, none⟩ = some (.string f.there) := J2.out.cell 1
        go_wp2_with (refine wpList_load_part rfl 29 (.tmp 18) rfl w.heap.size 2 [.string p.tl, .string p.th] rfl (part_span 2 p.tl p.th K2.out rfl rfl) ?_)
        refine (I2.out _).mono ?_
        rintro e w3 ⟨rfl, hb⟩
        have B3 := Lib.hid (B2.out.trans (hb.mono B2.out.size))
        have K3 := Lib.hid (Blk.below K2.out hb (Blk.lt K2.out))
        have J3 := Lib.hid (Blk.below J2.out hb (Blk.lt J2.out))
        clear hb
        have h4 : w3.cell? ⟨w.heap.size, 4, none⟩ = some (.int .i64 p.pr) := K3.out.cell 4
        have h2 : w3.cell? ⟨w.heap.size + 1, 2, none⟩ = some (.int .i64 f.pr) := J3.out.cell 2
        have h3 : w3.cell? ⟨w.heap.size + 1, 3, none⟩ = some (.int .i64 f.near) := J3.out.cell 3
        go_wp2_with (refine wpList_load_part rfl 31 (.tmp 37) rfl w.heap.size 5 [.int .i64 p.nl, .int .i64 p.nh] rfl (part_ports 5 p.nl p.nh K3.out rfl rfl) ?_)
        refine (P1.out _).mono ?_
        rintro e w4 ⟨rfl, hb⟩
        have B4 := Lib.hid (B3.out.trans (hb.mono B3.out.size))
        have K4 := Lib.hid (Blk.below K3.out hb (Blk.lt K3.out))
        have J4 := Lib.hid (Blk.below J3.out hb (Blk.lt J3.out))
        clear hb
        have h5 : w4.cell? ⟨w.heap.size + 1, 4, none⟩ = some (.int .i64 f.far) := J4.out.cell 4
        go_wp2_with fail
        go_ret
        exact ⟨by rw [E.out]; rfl, B4.out⟩
      · cases x4
        · have E : Hid (r = false) := Lib.hid (by rw [hr]; rw [a3]; simp)
          clear hr a3
          go_enter Try.func13, Try.ntmps13
          go_wp2_with (refine Loads.wpList_load_w rfl 33 (.tmp 2) rfl w.heap.size rfl 33 #[.string p.hl, .string p.hh, .string p.tl, .string p.th, .int .i64 p.pr, .int .i64 p.nl, .int .i64 p.nh, .int .i64 p.fl, .int .i64 p.fh] (0, 0) _ (K0.out) Try.underlying33 rfl (by kernel_rfl) ?_)
          refine (M.out _).mono ?_
          rintro e w1 ⟨rfl, hb⟩
          have B1 := Lib.hid (B0.out.trans (hb.mono (by simp; omega)))
          have K1 := Lib.hid (Blk.below K0.out hb (Blk.lt K0.out))
          have J1 := Lib.hid (Blk.below J0.out hb (Blk.lt J0.out))
          clear hb
          have h0 : w1.cell? ⟨w.heap.size + 1, 0, none⟩ = some (.string f.here) := J1.out.cell 0
          go_wp2_with (refine wpList_load_part rfl 29 (.tmp 11) rfl w.heap.size 0 [.string p.hl, .string p.hh] rfl (part_span 0 p.hl p.hh K1.out rfl rfl) ?_)
          refine (I1.out _).mono ?_
          rintro e w2 ⟨rfl, hb⟩
          have B2 := Lib.hid (B1.out.trans (hb.mono B1.out.size))
          have K2 := Lib.hid (Blk.below K1.out hb (Blk.lt K1.out))
          have J2 := Lib.hid (Blk.below J1.out hb (Blk.lt J1.out))
          clear hb
          have h1 : w2.cell? ⟨w.heap.size + 1, 1, none⟩ = some (.string f.there) := J2.out.cell 1
          go_wp2_with (refine wpList_load_part rfl 29 (.tmp 18) rfl w.heap.size 2 [.string p.tl, .string p.th] rfl (part_span 2 p.tl p.th K2.out rfl rfl) ?_)
          refine (I2.out _).mono ?_
          rintro e w3 ⟨rfl, hb⟩
          have B3 := Lib.hid (B2.out.trans (hb.mono B2.out.size))
          have K3 := Lib.hid (Blk.below K2.out hb (Blk.lt K2.out))
          have J3 := Lib.hid (Blk.below J2.out hb (Blk.lt J2.out))
          clear hb
          have h4 : w3.cell? ⟨w.heap.size, 4, none⟩ = some (.int .i64 p.pr) := K3.out.cell 4
          have h2 : w3.cell? ⟨w.heap.size + 1, 2, none⟩ = some (.int .i64 f.pr) := J3.out.cell 2
          have h3 : w3.cell? ⟨w.heap.size + 1, 3, none⟩ = some (.int .i64 f.near) := J3.out.cell 3
          go_wp2_with (refine wpList_load_part rfl 31 (.tmp 37) rfl w.heap.size 5 [.int .i64 p.nl, .int .i64 p.nh] rfl (part_ports 5 p.nl p.nh K3.out rfl rfl) ?_)
          refine (P1.out _).mono ?_
          rintro e w4 ⟨rfl, hb⟩
          have B4 := Lib.hid (B3.out.trans (hb.mono B3.out.size))
          have K4 := Lib.hid (Blk.below K3.out hb (Blk.lt K3.out))
          have J4 := Lib.hid (Blk.below J3.out hb (Blk.lt J3.out))
          clear hb
          have h5 : w4.cell? ⟨w.heap.size + 1, 4, none⟩ = some (.int .i64 f.far) := J4.out.cell 4
          go_wp2_with (refine wpList_load_part rfl 31 (.tmp 44) rfl w.heap.size 7 [.int .i64 p.fl, .int .i64 p.fh] rfl (part_ports 7 p.fl p.fh K4.out rfl rfl) ?_)
          refine (P2.out _).mono ?_
          rintro e w5 ⟨rfl, hb⟩
          have B5 := Lib.hid (B4.out.trans (hb.mono B4.out.size))
          have K5 := Lib.hid (Blk.below K4.out hb (Blk.lt K4.out))
          have J5 := Lib.hid (Blk.below J4.out hb (Blk.lt J4.out))
          clear hb
          go_wp2_with fail
          go_ret
          exact ⟨by rw [E.out]; rfl, B5.out⟩
        · have E : Hid (r = true) := Lib.hid (by rw [hr]; rw [a3]; simp)
          clear hr a3
          go_enter Try.func13, Try.ntmps13
          go_wp2_with (refine Loads.wpList_load_w rfl 33 (.tmp 2) rfl w.heap.size rfl 33 #[.string p.hl, .string p.hh, .string p.tl, .string p.th, .int .i64 p.pr, .int .i64 p.nl, .int .i64 p.nh, .int .i64 p.fl, .int .i64 p.fh] (0, 0) _ (K0.out) Try.underlying33 rfl (by kernel_rfl) ?_)
          refine (M.out _).mono ?_
          rintro e w1 ⟨rfl, hb⟩
          have B1 := Lib.hid (B0.out.trans (hb.mono (by simp; omega)))
          have K1 := Lib.hid (Blk.below K0.out hb (Blk.lt K0.out))
          have J1 := Lib.hid (Blk.below J0.out hb (Blk.lt J0.out))
          clear hb
          have h0 : w1.cell? ⟨w.heap.size + 1, 0, none⟩ = some (.string f.here) := J1.out.cell 0
          go_wp2_with (refine wpList_load_part rfl 29 (.tmp 11) rfl w.heap.size 0 [.string p.hl, .string p.hh] rfl (part_span 0 p.hl p.hh K1.out rfl rfl) ?_)
          refine (I1.out _).mono ?_
          rintro e w2 ⟨rfl, hb⟩
          have B2 := Lib.hid (B1.out.trans (hb.mono B1.out.size))
          have K2 := Lib.hid (Blk.below K1.out hb (Blk.lt K1.out))
          have J2 := Lib.hid (Blk.below J1.out hb (Blk.lt J1.out))
          clear hb
          have h1 : w2.cell? ⟨w.heap.size + 1, 1, none⟩ = some (.string f.there) := J2.out.cell 1
          go_wp2_with (refine wpList_load_part rfl 29 (.tmp 18) rfl w.heap.size 2 [.string p.tl, .string p.th] rfl (part_span 2 p.tl p.th K2.out rfl rfl) ?_)
          refine (I2.out _).mono ?_
          rintro e w3 ⟨rfl, hb⟩
          have B3 := Lib.hid (B2.out.trans (hb.mono B2.out.size))
          have K3 := Lib.hid (Blk.below K2.out hb (Blk.lt K2.out))
          have J3 := Lib.hid (Blk.below J2.out hb (Blk.lt J2.out))
          clear hb
          have h4 : w3.cell? ⟨w.heap.size, 4, none⟩ = some (.int .i64 p.pr) := K3.out.cell 4
          have h2 : w3.cell? ⟨w.heap.size + 1, 2, none⟩ = some (.int .i64 f.pr) := J3.out.cell 2
          have h3 : w3.cell? ⟨w.heap.size + 1, 3, none⟩ = some (.int .i64 f.near) := J3.out.cell 3
          go_wp2_with (refine wpList_load_part rfl 31 (.tmp 37) rfl w.heap.size 5 [.int .i64 p.nl, .int .i64 p.nh] rfl (part_ports 5 p.nl p.nh K3.out rfl rfl) ?_)
          refine (P1.out _).mono ?_
          rintro e w4 ⟨rfl, hb⟩
          have B4 := Lib.hid (B3.out.trans (hb.mono B3.out.size))
          have K4 := Lib.hid (Blk.below K3.out hb (Blk.lt K3.out))
          have J4 := Lib.hid (Blk.below J3.out hb (Blk.lt J3.out))
          clear hb
          have h5 : w4.cell? ⟨w.heap.size + 1, 4, none⟩ = some (.int .i64 f.far) := J4.out.cell 4
          go_wp2_with (refine wpList_load_part rfl 31 (.tmp 44) rfl w.heap.size 7 [.int .i64 p.fl, .int .i64 p.fh] rfl (part_ports 7 p.fl p.fh K4.out rfl rfl) ?_)
          refine (P2.out _).mono ?_
          rintro e w5 ⟨rfl, hb⟩
          have B5 := Lib.hid (B4.out.trans (hb.mono B4.out.size))
          have K5 := Lib.hid (Blk.below K4.out hb (Blk.lt K4.out))
          have J5 := Lib.hid (Blk.below J4.out hb (Blk.lt J4.out))
          clear hb
          go_wp2_with fail
          go_ret
          exact ⟨by rw [E.out]; rfl, B5.out⟩
    · have g2 : (p.pr == f.pr) = false := by rw [beq_eq_false_iff_ne]; exact a2
      have E : Hid (r = false) := Lib.hid (by rw [hr]; simp [a1, a2])
      clear hr a1 a2
      go_enter Try.func13, Try.ntmps13
      go_wp2_with (refine Loads.wpList_load_w rfl 33 (.tmp 2) rfl w.heap.size rfl 33 #[.string p.hl, .string p.hh, .string p.tl, .string p.th, .int .i64 p.pr, .int .i64 p.nl, .int .i64 p.nh, .int .i64 p.fl, .int .i64 p.fh] (0, 0) _ (K0.out) Try.underlying33 rfl (by kernel_rfl) ?_)
      refine (M.out _).mono ?_
      rintro e w1 ⟨rfl, hb⟩
      have B1 := Lib.hid (B0.out.trans (hb.mono (by simp; omega)))
      have K1 := Lib.hid (Blk.below K0.out hb (Blk.lt K0.out))
      have J1 := Lib.hid (Blk.below J0.out hb (Blk.lt J0.out))
      clear hb
      have h0 : w1.cell? ⟨w.heap.size + 1, 0, none⟩ = some (.string f.here) := J1.out.cell 0
      go_wp2_with (refine wpList_load_part rfl 29 (.tmp 11) rfl w.heap.size 0 [.string p.hl, .string p.hh] rfl (part_span 0 p.hl p.hh K1.out rfl rfl) ?_)
      refine (I1.out _).mono ?_
      rintro e w2 ⟨rfl, hb⟩
      have B2 := Lib.hid (B1.out.trans (hb.mono B1.out.size))
      have K2 := Lib.hid (Blk.below K1.out hb (Blk.lt K1.out))
      have J2 := Lib.hid (Blk.below J1.out hb (Blk.lt J1.out))
      clear hb
      have h1 : w2.cell? ⟨w.heap.size + 1, 1, none⟩ = some (.string f.there) := J2.out.cell 1
      go_wp2_with (refine wpList_load_part rfl 29 (.tmp 18) rfl w.heap.size 2 [.string p.tl, .string p.th] rfl (part_span 2 p.tl p.th K2.out rfl rfl) ?_)
      refine (I2.out _).mono ?_
      rintro e w3 ⟨rfl, hb⟩
      have B3 := Lib.hid (B2.out.trans (hb.mono B2.out.size))
      have K3 := Lib.hid (Blk.below K2.out hb (Blk.lt K2.out))
      have J3 := Lib.hid (Blk.below J2.out hb (Blk.lt J2.out))
      clear hb
      have h4 : w3.cell? ⟨w.heap.size, 4, none⟩ = some (.int .i64 p.pr) := K3.out.cell 4
      have h2 : w3.cell? ⟨w.heap.size + 1, 2, none⟩ = some (.int .i64 f.pr) := J3.out.cell 2
      have h3 : w3.cell? ⟨w.heap.size + 1, 3, none⟩ = some (.int .i64 f.near) := J3.out.cell 3
      go_wp2_with fail
      go_ret
      exact ⟨by rw [E.out]; rfl, B3.out⟩
end Go.Proofs.Ytmomkjgnopcobaa.Pick3
