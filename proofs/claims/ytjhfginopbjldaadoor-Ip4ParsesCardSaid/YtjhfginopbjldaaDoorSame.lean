/- Contracts of the document's Same and of the law's few and one. -/
import Derived.Test.YtjhfginopbjldaaDoorCheck
import Derived.Test.YtjhfginopbjldaaDoorBlk
namespace Go.Proofs.YtjhfginopbjldaaDoor.Same
open Go.RowKit Go.Proofs.YtjhfginopbjldaaDoor.Sums Go.Proofs.YtjhfginopbjldaaDoor.Mem Go.Proofs.YtjhfginopbjldaaDoor.Blk Go.Proofs.YtjhfginopbjldaaDoor.Pkt Go.Proofs.YtjhfginopbjldaaDoor.Check

/-- The same packet, with the same bytes behind. -/
theorem same_yes (p : Pkt) (A A' : Option Addr) (n c n' c' B : Nat) (l : List Int) (w : World) (h : Holds w B A n c l) (h' : Holds w B A' n' c' l) (hB : B ≤ w.heap.size) :
    Calls Tryd.prog 13 #[val p (.slice A n c), val p (.slice A' n' c')] w fun e w' => e = .returned (.bool true) ∧ Below w.heap.size w w' := by
  have C1 := Lib.hid (fun W (hW : Below w.heap.size w W) => run_string_bytes (h.below (hW.mono hB)))
  have C2 := Lib.hid (fun W (hW : Below w.heap.size w W) => run_string_bytes (h'.below (hW.mono hB)))
  have B1 : Below w.heap.size w ((w.alloc (.cells #[.int .i64 p.tos, .int .i64 p.id, .int .i64 p.ttl, .int .i64 p.proto, .bool p.df, .bool p.mf, .int .i64 p.off, .string p.src, .string p.dst, .string p.opt, .slice A n c] 24)).alloc (.cells #[.int .i64 p.tos, .int .i64 p.id, .int .i64 p.ttl, .int .i64 p.proto, .bool p.df, .bool p.mf, .int .i64 p.off, .string p.src, .string p.dst, .string p.opt, .slice A' n' c'] 24)) := ((Below.refl _ _).alloc (Nat.le_refl _) _).alloc (by simp) _
  have c1 := C1.out _ B1
  have c2 := C2.out _ B1
  have b1 := Lib.hid B1
  clear B1 C1 C2 h h'
  unfold val
  go_enter Tryd.func13, Tryd.ntmps13
  go_wp2_with fail
  go_ret
  exact ⟨rfl, b1.out⟩

/-- Is a packet small enough? -/
def fewB (p : Pkt) (n : Nat) : Bool := decide (p.src.size + p.dst.size + p.opt.size ≤ 300) && (decide (n ≤ 2000) || (decide (65400 < n) && decide (n < 66000)))
theorem few_any (p : Pkt) (A : Option Addr) (n c : Nat) (w : World) (h1 : p.src.size ≤ 140737488355328) (h2 : p.dst.size ≤ 140737488355328) (h3 : p.opt.size ≤ 140737488355328) (h4 : n ≤ 140737488355328) :
    Calls Tryd.prog 8 #[val p (.slice A n c)] w fun e w' => e = .returned (.bool (fewB p n)) ∧ Below w.heap.size w w' := by
  have F : Hid (fewB p n = (decide (p.src.size + p.dst.size + p.opt.size ≤ 300) && (decide (n ≤ 2000) || (decide (65400 < n) && decide (n < 66000))))) := Lib.hid rfl
  unfold val
  by_cases q1 : p.src.size + p.dst.size + p.opt.size ≤ 300
  · by_cases q2 : n ≤ 2000
    · go_enter Tryd.func8, Tryd.ntmps8
      go_wp2_with fail
      all_goals go_ret
      all_goals exact ⟨by rw [F.out]; first | (simp [q1, q2]; done) | (simp [q1, q2]; omega), (Below.refl _ _).alloc (Nat.le_refl _) _⟩
    · by_cases q3 : 65400 < n
      · by_cases q4 : n < 66000
        all_goals
          go_enter Tryd.func8, Tryd.ntmps8
          go_wp2_with fail
        all_goals go_ret
        all_goals exact ⟨by rw [F.out]; first | (simp [q1, q2, q3, q4]; done) | (simp [q1, q2, q3, q4]; omega), (Below.refl _ _).alloc (Nat.le_refl _) _⟩
      · go_enter Tryd.func8, Tryd.ntmps8
        go_wp2_with fail
        all_goals go_ret
        all_goals exact ⟨by rw [F.out]; first | (simp [q1, q2, q3]; done) | (simp [q1, q2, q3]; omega), (Below.refl _ _).alloc (Nat.le_refl _) _⟩
  · go_enter Tryd.func8, Tryd.ntmps8
    go_wp2_with fail
    all_goals go_ret
    all_goals exact ⟨by rw [F.out]; first | (simp [q1]; done) | (simp [q1]; omega), (Below.refl _ _).alloc (Nat.le_refl _) _⟩

/-- The document's packet. -/
def onePkt : Pkt := ⟨0, 0, 64, 17, false, false, 0, ⟨#[10, 0, 0, 1]⟩, ⟨#[10, 0, 0, 2]⟩, ⟨#[]⟩⟩
theorem one_any (w : World) : Calls Tryd.prog 28 #[] w fun e w' => e = .returned (val onePkt (.slice none 0 0)) ∧ Below w.heap.size w w' := by
  go_enter Tryd.func28, Tryd.ntmps28
  go_wp2_with fail
  refine bodyPost_ret (v := val onePkt (.slice none 0 0)) (by simp [results, Tryd.results28, go_sem, val, onePkt]) rfl ?_
  exact ⟨rfl, (Below.refl _ _).alloc (Nat.le_refl _) _⟩

end Go.Proofs.YtjhfginopbjldaaDoor.Same
