/- Contracts of the document's Same and of the law's few and one. -/
import Derived.Test.YtnpggkpcadefjaaDoorCheck
import Derived.Test.YtnpggkpcadefjaaDoorBlk
namespace Go.Proofs.YtnpggkpcadefjaaDoor.Same
open Go.RowKit Go.Proofs.YtnpggkpcadefjaaDoor.Sums Go.Proofs.YtnpggkpcadefjaaDoor.Mem Go.Proofs.YtnpggkpcadefjaaDoor.Blk Go.Proofs.YtnpggkpcadefjaaDoor.Pkt Go.Proofs.YtnpggkpcadefjaaDoor.Check

/-- The same packet, with the same bytes behind. -/
theorem same_yes (p : Pkt) (A A' : Option Addr) (n c n' c' B : Nat) (l : List Int) (w : World) (h : Holds w B A n c l) (h' : Holds w B A' n' c' l) (hB : B ≤ w.heap.size) :
    Calls Tryd.prog 16 #[val p (.slice A n c), val p (.slice A' n' c')] w fun e w' => e = .returned (.bool true) ∧ Below w.heap.size w w' := by
  have C1 := Lib.hid (fun W (hW : Below w.heap.size w W) => run_string_bytes (h.below (hW.mono hB)))
  have C2 := Lib.hid (fun W (hW : Below w.heap.size w W) => run_string_bytes (h'.below (hW.mono hB)))
  have B1 : Below w.heap.size w ((w.alloc (.cells #[.int .i64 p.tos, .int .i64 p.id, .int .i64 p.ttl, .int .i64 p.proto, .bool p.df, .bool p.mf, .int .i64 p.off, .string p.src, .string p.dst, .string p.opt, .slice A n c] 32)).alloc (.cells #[.int .i64 p.tos, .int .i64 p.id, .int .i64 p.ttl, .int .i64 p.proto, .bool p.df, .bool p.mf, .int .i64 p.off, .string p.src, .string p.dst, .string p.opt, .slice A' n' c'] 32)) := ((Below.refl _ _).alloc (Nat.le_refl _) _).alloc (by simp) _
  have c1 := C1.out _ B1
  have c2 := C2.out _ B1
  have b1 := Lib.hid B1
  clear B1 C1 C2 h h'
  unfold val
  go_enter Tryd.func16, Tryd.ntmps16
  go_wp2_with fail
  go_ret
  exact ⟨rfl, b1.out⟩

/-- Is a packet small enough? -/
def fewB (p : Pkt) (n : Nat) : Bool := decide (p.src.size + p.dst.size + p.opt.size ≤ 300) && (decide (n ≤ 2000) || (decide (65400 < n) && decide (n < 66000)))
/-- The document's packet. -/
def onePkt : Pkt := ⟨0, 0, 64, 17, false, false, 0, ⟨#[10, 0, 0, 1]⟩, ⟨#[10, 0, 0, 2]⟩, ⟨#[]⟩⟩
end Go.Proofs.YtnpggkpcadefjaaDoor.Same
