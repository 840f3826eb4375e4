/- The contract of the code's Counter, where it answers. -/
import Derived.Test.YthjbcdjphokjbaaCtr1
set_option linter.unusedVariables false
namespace Go.Proofs.Ythjbcdjphokjbaa.Ctr2
open Go.RowKit Go.PlainAid Go.Proofs.Ythjbcdjphokjbaa.Sums Go.Proofs.Ythjbcdjphokjbaa.Mem Go.Proofs.Ythjbcdjphokjbaa.Blk Go.Proofs.Ythjbcdjphokjbaa.Bits3 Go.Proofs.Ythjbcdjphokjbaa.Ints Go.Proofs.Ythjbcdjphokjbaa.CtrD Go.Proofs.Ythjbcdjphokjbaa.AesB Go.Proofs.Ythjbcdjphokjbaa.AesK Go.Proofs.Ythjbcdjphokjbaa.AesR3 Go.Proofs.Ythjbcdjphokjbaa.Ctr1

theorem make_cap (n : Nat) (hn : n ≤ 1048576) (w : World) :
    (Instr.makeSlice 22 (.int .i64 0) (.int .i64 (n : Int))).run Try.prog w = .ok (.slice (some ⟨w.heap.size, 0, none⟩) 0 n) (w.alloc (.cells (bcells (List.replicate n 0)) 5)) := by
  obtain ⟨i, hi, hz, hsz, hby⟩ := info_parts byte_info
  have hr := run_make (P := Try.prog) w 22 5 i (.int .u8 0) Try.underlying22 hi hz .i64 .i64 0 (n : Int) (by omega) (by omega) (by rw [hby]; omega) (by omega)
  rw [Int.toNat_natCast, hsz, Nat.mul_one] at hr
  rw [← made_b]
  exact hr
theorem owns_cap (w : World) (base n : Nat) (hb : base ≤ w.heap.size) (hn : n ≤ 1048576) : Owns (w.alloc (.cells (bcells (List.replicate n 0)) 5)) base (.slice (some ⟨w.heap.size, 0, none⟩) 0 n) 0 [] :=
  ⟨rfl, fun _ h => (by cases h), .inr ⟨w.heap.size, n, bcells (List.replicate n 0), (0, 0), rfl, hb, heap_alloc_new w _, .inl rfl, Nat.zero_le _, by simp only [maxLen]; omega, by simp [bcells], by simp⟩⟩
theorem shr_byte (n k : Nat) : (IntKind.u8.wrap ((n : Int) / (2 ^ k : Nat))) = ((n / 2 ^ k % 256 : Nat) : Int) := by
  rw [IntKind.wrap_u8]
  omega

set_option maxHeartbeats 1000000 in
theorem counter_ok (As Av : Option Addr) (cs cv : Nat) (sa iv : List Int) (n : Nat) (w : World) (B : Nat) (hs : Holds w B As 4 cs sa) (hv : Holds w B Av 8 cv iv) (hB : B ≤ w.heap.size) (h1 : 1 ≤ n) (h2 : n ≤ 4294967295) :
    Calls Try.prog 9 #[.slice As 4 cs, .slice Av 8 cv, .int .i64 (n : Int)] w fun e w' => ∃ A c, e = .returned (.tuple #[.slice A 16 c, .int .i64 0]) ∧ Holds w' w'.heap.size A 16 c (ints (cnt (nats sa) (nats iv) n)) ∧ Below w.heap.size w w' := by
  have g1 : decide ((n : Int) < 1) = false := decide_eq_false (by omega)
  have g2 : decide ((4294967295 : Int) < (n : Int)) = false := decide_eq_false (by omega)
  have mk : (Instr.makeSlice 22 (.int .i64 0) (.int .i64 16)).run Try.prog w = .ok (.slice (some ⟨w.heap.size, 0, none⟩) 0 16) (w.alloc (.cells (bcells (List.replicate 16 0)) 5)) := make_cap 16 (by decide) w
  have O0 := Lib.hid (owns_cap w w.heap.size 16 (Nat.le_refl _) (by decide))
  obtain ⟨Z, hZ⟩ : ∃ Z, Z = List.replicate 16 0 := ⟨_, rfl⟩
  rw [← hZ] at mk O0
  have B0 := Lib.hid ((Below.refl w.heap.size w).alloc (Nat.le_refl _) (.cells (bcells Z) 5))
  have LB : Hid (Bytes [(n : Int) / 16777216, (n : Int) / 65536 % 256, (n : Int) / 256 % 256, (n : Int) % 256]) := Lib.hid fun z hz => by simp at hz; omega
  have E : Hid ((([] ++ sa) ++ iv) ++ [(n : Int) / 16777216, (n : Int) / 65536 % 256, (n : Int) / 256 % 256, (n : Int) % 256] = ints (cnt (nats sa) (nats iv) n)) := Lib.hid (by
    have F : [(n : Int) / 16777216, (n : Int) / 65536 % 256, (n : Int) / 256 % 256, (n : Int) % 256] = ints (four n) := by simp [ints, four]; omega
    rw [F, cnt, ints_app, ints_app, ints_nats (fun z hz => hs.2.2.2.1 z hz), ints_nats (fun z hz => hv.2.2.2.1 z hz)]; simp)
  have HS := Lib.hid hs
  have HV := Lib.hid hv
  clear hs hv hZ
  go_enter Try.func9, Try.ntmps9
  go_wp2_with (first
    | (at_builtin
       refine wpList_append_bytes rfl (.tmp 26) (.tmp 27) rfl w.heap.size _ 0 [] rfl O0.out B As 4 cs sa rfl (HS.out.below (B0.out.mono hB)) (by omega) B0.out.size ?_
       intro v1 w1 o1 q1 _
       have b1 := Lib.hid (B0.out.grown q1 B0.out.size fun k hk => (O0.out.lt k hk).1))
    | (at_builtin
       refine wpList_append_bytes rfl (.tmp 29) (.tmp 30) rfl w.heap.size v1 _ _ rfl o1 B Av 8 cv iv rfl (HV.out.below (b1.out.mono hB)) (by omega) b1.out.size ?_
       intro v2 w2 o2 q2 _
       have b2 := Lib.hid (b1.out.grown q2 b1.out.size fun k hk => (o1.lt k hk).1))
    | (at_builtin
       refine wpList_append_bytes rfl (.tmp 32) (.tmp 44) rfl w.heap.size v2 _ _ rfl (o2.alloc _) _ _ 4 4 [(n : Int) / 16777216, (n : Int) / 65536 % 256, (n : Int) / 256 % 256, (n : Int) % 256] rfl (Holds.lit w2 [(n : Int) / 16777216, (n : Int) / 65536 % 256, (n : Int) / 256 % 256, (n : Int) % 256] _ rfl (by simp [maxLen]) LB.out) (by omega) (by have := b2.out.size; simp; omega) ?_
       intro v3 w3 o3 q3 _
       have b3 := Lib.hid ((b2.out.alloc b2.out.size _).grown q3 (by have := b2.out.size; simp; omega) fun k hk => (o2.lt k hk).1)
       obtain ⟨A, c, rfl, hh⟩ := o3.slice
       rw [E.out] at hh
       have HH := Lib.hid hh))
  go_ret2
  exact ⟨A, c, rfl, HH.out, b3.out⟩
end Go.Proofs.Ythjbcdjphokjbaa.Ctr2
