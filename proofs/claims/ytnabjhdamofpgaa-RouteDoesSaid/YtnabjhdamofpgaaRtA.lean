/- The chapter's examples. -/
import Derived.Test.YtnabjhdamofpgaaRt9
set_option linter.unusedVariables false
namespace Go.Proofs.Ytnabjhdamofpgaa.RtA
open Go.RowKit Go.PlainAid Go.Proofs.Ytnabjhdamofpgaa.Sums Go.Proofs.Ytnabjhdamofpgaa.Mem Go.Proofs.Ytnabjhdamofpgaa.Blk Go.Proofs.Ytnabjhdamofpgaa.Grp Go.Proofs.Ytnabjhdamofpgaa.AdrD Go.Proofs.Ytnabjhdamofpgaa.AdrR Go.Proofs.Ytnabjhdamofpgaa.Steps Go.Proofs.Ytnabjhdamofpgaa.Com Go.Proofs.Ytnabjhdamofpgaa.RowN Go.Proofs.Ytnabjhdamofpgaa.RowA Go.Proofs.Ytnabjhdamofpgaa.ArgT Go.Proofs.Ytnabjhdamofpgaa.TabD Go.Proofs.Ytnabjhdamofpgaa.TabOps Go.Proofs.Ytnabjhdamofpgaa.TabM Go.Proofs.Ytnabjhdamofpgaa.Free Go.Proofs.Ytnabjhdamofpgaa.RtD Go.Proofs.Ytnabjhdamofpgaa.Rt1 Go.Proofs.Ytnabjhdamofpgaa.Rt6 Go.Proofs.Ytnabjhdamofpgaa.Rt9

theorem ex1 : addL [] ⟨#[10, 0, 0, 0]⟩ 8 ⟨#[]⟩ 1 = [(⟨⟨#[10, 0, 0, 0]⟩, 8, ⟨#[]⟩, 1⟩ : RouteR)] := by kernel_rfl
theorem ex2 : addL [(⟨⟨#[10, 0, 0, 0]⟩, 8, ⟨#[]⟩, 1⟩ : RouteR)] ⟨#[10, 1, 0, 0]⟩ 16 ⟨#[]⟩ 2 = [(⟨⟨#[10, 0, 0, 0]⟩, 8, ⟨#[]⟩, 1⟩ : RouteR), ⟨⟨#[10, 1, 0, 0]⟩, 16, ⟨#[]⟩, 2⟩] := by kernel_rfl
theorem ex3 : findR [(⟨⟨#[10, 0, 0, 0]⟩, 8, ⟨#[]⟩, 1⟩ : RouteR), ⟨⟨#[10, 1, 0, 0]⟩, 16, ⟨#[]⟩, 2⟩] ⟨#[10, 1, 2, 3]⟩ = ⟨⟨#[10, 1, 0, 0]⟩, 16, ⟨#[]⟩, 2⟩ ∧ findE [(⟨⟨#[10, 0, 0, 0]⟩, 8, ⟨#[]⟩, 1⟩ : RouteR), ⟨⟨#[10, 1, 0, 0]⟩, 16, ⟨#[]⟩, 2⟩] ⟨#[10, 1, 2, 3]⟩ = 0 := ⟨by kernel_rfl, by kernel_rfl⟩
theorem ex4 : findR [(⟨⟨#[10, 0, 0, 0]⟩, 8, ⟨#[]⟩, 1⟩ : RouteR), ⟨⟨#[10, 1, 0, 0]⟩, 16, ⟨#[]⟩, 2⟩] ⟨#[10, 2, 0, 1]⟩ = ⟨⟨#[10, 0, 0, 0]⟩, 8, ⟨#[]⟩, 1⟩ ∧ findE [(⟨⟨#[10, 0, 0, 0]⟩, 8, ⟨#[]⟩, 1⟩ : RouteR), ⟨⟨#[10, 1, 0, 0]⟩, 16, ⟨#[]⟩, 2⟩] ⟨#[10, 2, 0, 1]⟩ = 0 := ⟨by kernel_rfl, by kernel_rfl⟩
theorem ex5 : findR [(⟨⟨#[10, 0, 0, 0]⟩, 8, ⟨#[]⟩, 1⟩ : RouteR), ⟨⟨#[10, 1, 0, 0]⟩, 16, ⟨#[]⟩, 2⟩] ⟨#[11, 0, 0, 1]⟩ = ZR ∧ findE [(⟨⟨#[10, 0, 0, 0]⟩, 8, ⟨#[]⟩, 1⟩ : RouteR), ⟨⟨#[10, 1, 0, 0]⟩, 16, ⟨#[]⟩, 2⟩] ⟨#[11, 0, 0, 1]⟩ = 182 := ⟨by kernel_rfl, by kernel_rfl⟩
set_option maxRecDepth 100000 in
set_option maxHeartbeats 2000000 in
theorem awake_any (w : World) : Calls Try.prog 18 #[] w fun e w' => e = .returned (.bool true) ∧ Below w.heap.size w w' := by
  have N0 := Lib.hid (new_c w)
  obtain ⟨g, hg⟩ : ∃ g, g = w.heap.size := ⟨_, rfl⟩
  have lim : ∀ {n : Nat}, n ≤ 16 → n ≤ maxLen := fun h => by unfold maxLen; omega
  have A1 : Hid (∀ W, w.heap.size ≤ W.heap.size → RtAt (fun k => k < w.heap.size) W w.heap.size [] → Calls Try.prog 10 #[.pointer (some ⟨w.heap.size, 0, none⟩), .agg #[.string ⟨#[10, 0, 0, 0]⟩, .int .i64 8, .string ⟨#[]⟩, .int .i64 1]] W fun e w' => (∃ n, e = .returned (.int .i64 n)) ∧ RtAt (fun k => k < w.heap.size) w' w.heap.size [(⟨⟨#[10, 0, 0, 0]⟩, 8, ⟨#[]⟩, 1⟩ : RouteR)] ∧ Keep (fun k => k < w.heap.size) W w') := Lib.hid fun W hW h =>
    (add_c _ _ [] ⟨⟨#[10, 0, 0, 0]⟩, 8, ⟨#[]⟩, 1⟩ W h (fun k hk => by omega) (lim (by decide)) (lim (by decide))).mono fun e w' q => ⟨⟨_, q.1⟩, by have := q.2.1; rwa [ex1] at this, q.2.2⟩
  have A2 : Hid (∀ W, w.heap.size ≤ W.heap.size → RtAt (fun k => k < w.heap.size) W w.heap.size [(⟨⟨#[10, 0, 0, 0]⟩, 8, ⟨#[]⟩, 1⟩ : RouteR)] → Calls Try.prog 10 #[.pointer (some ⟨w.heap.size, 0, none⟩), .agg #[.string ⟨#[10, 1, 0, 0]⟩, .int .i64 16, .string ⟨#[]⟩, .int .i64 2]] W fun e w' => (∃ n, e = .returned (.int .i64 n)) ∧ RtAt (fun k => k < w.heap.size) w' w.heap.size [(⟨⟨#[10, 0, 0, 0]⟩, 8, ⟨#[]⟩, 1⟩ : RouteR), ⟨⟨#[10, 1, 0, 0]⟩, 16, ⟨#[]⟩, 2⟩] ∧ Keep (fun k => k < w.heap.size) W w') := Lib.hid fun W hW h =>
    (add_c _ _ [(⟨⟨#[10, 0, 0, 0]⟩, 8, ⟨#[]⟩, 1⟩ : RouteR)] ⟨⟨#[10, 1, 0, 0]⟩, 16, ⟨#[]⟩, 2⟩ W h (fun k hk => by omega) (lim (by decide)) (lim (by decide))).mono fun e w' q => ⟨⟨_, q.1⟩, by have := q.2.1; rwa [ex2] at this, q.2.2⟩
  have F1 : Hid (∀ W, RtAt (fun k => k < w.heap.size) W w.heap.size [(⟨⟨#[10, 0, 0, 0]⟩, 8, ⟨#[]⟩, 1⟩ : RouteR), ⟨⟨#[10, 1, 0, 0]⟩, 16, ⟨#[]⟩, 2⟩] → Calls Try.prog 14 #[.pointer (some ⟨w.heap.size, 0, none⟩), .string ⟨#[10, 1, 2, 3]⟩] W fun e w' => e = .returned (.tuple #[.agg (RA ⟨⟨#[10, 1, 0, 0]⟩, 16, ⟨#[]⟩, 2⟩), .int .i64 0]) ∧ Below W.heap.size W w') := Lib.hid fun W h => by
    have q := find_c _ _ [(⟨⟨#[10, 0, 0, 0]⟩, 8, ⟨#[]⟩, 1⟩ : RouteR), ⟨⟨#[10, 1, 0, 0]⟩, 16, ⟨#[]⟩, 2⟩] ⟨#[10, 1, 2, 3]⟩ W h (lim (by decide))
    rwa [ex3.1, ex3.2] at q
  have F2 : Hid (∀ W, RtAt (fun k => k < w.heap.size) W w.heap.size [(⟨⟨#[10, 0, 0, 0]⟩, 8, ⟨#[]⟩, 1⟩ : RouteR), ⟨⟨#[10, 1, 0, 0]⟩, 16, ⟨#[]⟩, 2⟩] → Calls Try.prog 14 #[.pointer (some ⟨w.heap.size, 0, none⟩), .string ⟨#[10, 2, 0, 1]⟩] W fun e w' => e = .returned (.tuple #[.agg (RA ⟨⟨#[10, 0, 0, 0]⟩, 8, ⟨#[]⟩, 1⟩), .int .i64 0]) ∧ Below W.heap.size W w') := Lib.hid fun W h => by
    have q := find_c _ _ [(⟨⟨#[10, 0, 0, 0]⟩, 8, ⟨#[]⟩, 1⟩ : RouteR), ⟨⟨#[10, 1, 0, 0]⟩, 16, ⟨#[]⟩, 2⟩] ⟨#[10, 2, 0, 1]⟩ W h (lim (by decide))
    rwa [ex4.1, ex4.2] at q
  have F3 : Hid (∀ W, RtAt (fun k => k < w.heap.size) W w.heap.size [(⟨⟨#[10, 0, 0, 0]⟩, 8, ⟨#[]⟩, 1⟩ : RouteR), ⟨⟨#[10, 1, 0, 0]⟩, 16, ⟨#[]⟩, 2⟩] → Calls Try.prog 14 #[.pointer (some ⟨w.heap.size, 0, none⟩), .string ⟨#[11, 0, 0, 1]⟩] W fun e w' => e = .returned (.tuple #[.agg (RA ZR), .int .i64 182]) ∧ Below W.heap.size W w') := Lib.hid fun W h => by
    have q := find_c _ _ [(⟨⟨#[10, 0, 0, 0]⟩, 8, ⟨#[]⟩, 1⟩ : RouteR), ⟨⟨#[10, 1, 0, 0]⟩, 16, ⟨#[]⟩, 2⟩] ⟨#[11, 0, 0, 1]⟩ W h (lim (by decide))
    rwa [ex5.1, ex5.2] at q
  clear lim hg
  go_enter Try.func18, Try.ntmps18
  go_wp2_with fail
  refine N0.out.mono ?_
  rintro e w1 ⟨rfl, hb, hlt, ht⟩
  have B1 := Lib.hid hb
  have T1 := Lib.hid ht
  clear hb hlt ht N0
  go_wp2_with fail
  refine (A1.out _ B1.out.size T1.out).mono ?_
  rintro e w2 ⟨⟨n2, rfl⟩, ht, hk⟩
  have T2 := Lib.hid ht
  have B2 := Lib.hid (B1.out.trans (hk.below B1.out.size fun k hk => hk))
  clear ht hk A1 T1 B1
  go_wp2_with fail
  refine (A2.out _ B2.out.size T2.out).mono ?_
  rintro e w3 ⟨⟨n3, rfl⟩, ht, hk⟩
  have T3 := Lib.hid ht
  have B3 := Lib.hid (B2.out.trans (hk.below B2.out.size fun k hk => hk))
  clear ht hk A2 T2 B2
  go_wp2_with fail
  refine (F1.out _ T3.out).mono ?_
  rintro e w4 ⟨rfl, hb⟩
  have T4 := Lib.hid ((T3.out.below hb).below ((Below.refl w4.heap.size w4).alloc (Nat.le_refl _) (.cells (RA ⟨⟨#[10, 1, 0, 0]⟩, 16, ⟨#[]⟩, 2⟩) 33)))
  have B4 := Lib.hid ((B3.out.trans (hb.mono B3.out.size)).alloc (B3.out.trans (hb.mono B3.out.size)).size (.cells (RA ⟨⟨#[10, 1, 0, 0]⟩, 16, ⟨#[]⟩, 2⟩) 33))
  have K4 := Lib.hid (Blk.new w4 33 (RA ⟨⟨#[10, 1, 0, 0]⟩, 16, ⟨#[]⟩, 2⟩))
  clear hb F1 T3 B3
  go_wp2_with fail
  refine (F2.out _ T4.out).mono ?_
  rintro e w5 ⟨rfl, hb⟩
  have T5 := Lib.hid ((T4.out.below hb).below ((Below.refl w5.heap.size w5).alloc (Nat.le_refl _) (.cells (RA ⟨⟨#[10, 0, 0, 0]⟩, 8, ⟨#[]⟩, 1⟩) 33)))
  have B5 := Lib.hid ((B4.out.trans (hb.mono B4.out.size)).alloc (B4.out.trans (hb.mono B4.out.size)).size (.cells (RA ⟨⟨#[10, 0, 0, 0]⟩, 8, ⟨#[]⟩, 1⟩) 33))
  have K5 := Lib.hid (Blk.new w5 33 (RA ⟨⟨#[10, 0, 0, 0]⟩, 8, ⟨#[]⟩, 1⟩))
  have K45 := Lib.hid (Blk.alloc (K4.out.below hb K4.out.lt) (.cells (RA ⟨⟨#[10, 0, 0, 0]⟩, 8, ⟨#[]⟩, 1⟩) 33))
  clear hb F2 T4 B4 K4
  go_wp2_with fail
  refine (F3.out _ T5.out).mono ?_
  rintro e w6 ⟨rfl, hb⟩
  have B6 := Lib.hid ((B5.out.trans (hb.mono B5.out.size)).alloc (B5.out.trans (hb.mono B5.out.size)).size (.cells (RA ZR) 33))
  have c4 := (Blk.alloc (K45.out.below hb K45.out.lt) (.cells (RA ZR) 33)).cell 3
  have c5 := (Blk.alloc (K5.out.below hb K5.out.lt) (.cells (RA ZR) 33)).cell 3
  clear hb F3 T5 B5 K45 K5
  go_wp2_with fail
  go_ret
  exact ⟨rfl, B6.out⟩
end Go.Proofs.Ytnabjhdamofpgaa.RtA
