/- The contract of Parse of the code. -/
import Derived.Test.YtjhfginopbjldaaDoorDecode
import Derived.Test.YtjhfginopbjldaaDoorCut
import Derived.Test.YtjhfginopbjldaaDoorHeader
import Derived.Test.YtjhfginopbjldaaDoorCheck
set_option linter.unusedVariables false
namespace Go.Proofs.YtjhfginopbjldaaDoor.ParseCode
open Go.RowKit Go.Proofs.YtjhfginopbjldaaDoor.Head Go.Proofs.YtjhfginopbjldaaDoor.Sums Go.Proofs.YtjhfginopbjldaaDoor.Mem Go.Proofs.YtjhfginopbjldaaDoor.Blk Go.Proofs.YtjhfginopbjldaaDoor.Bits Go.Proofs.YtjhfginopbjldaaDoor.Pkt Go.Proofs.YtjhfginopbjldaaDoor.Check Go.Proofs.YtjhfginopbjldaaDoor.Errno Go.Proofs.YtjhfginopbjldaaDoor.Decode Go.Proofs.YtjhfginopbjldaaDoor.Free Go.Proofs.YtjhfginopbjldaaDoor.Steps Go.Proofs.YtjhfginopbjldaaDoor.Cut

theorem ent_size : Enters Tryd.prog 32 := enters_of Tryd.func32 (by kernel_rfl) rfl
theorem ent_clone : Enters Tryd.prog 33 := enters_of Tryd.func33 (by kernel_rfl) rfl
theorem fieldH1 (g : Nat) (w : World) : (Instr.fieldAt 49 (.pointer (some ⟨g, 0, none⟩)) 1).run Tryd.prog w = .ok (.pointer (some ⟨g, 1, none⟩)) w := by kernel_rfl
theorem fieldH3 (g : Nat) (w : World) : (Instr.fieldAt 49 (.pointer (some ⟨g, 0, none⟩)) 3).run Tryd.prog w = .ok (.pointer (some ⟨g, 3, none⟩)) w := by kernel_rfl
theorem fieldH4 (g : Nat) (w : World) : (Instr.fieldAt 49 (.pointer (some ⟨g, 0, none⟩)) 4).run Tryd.prog w = .ok (.pointer (some ⟨g, 4, none⟩)) w := by kernel_rfl
theorem fieldH5 (g : Nat) (w : World) : (Instr.fieldAt 49 (.pointer (some ⟨g, 0, none⟩)) 5).run Tryd.prog w = .ok (.pointer (some ⟨g, 5, none⟩)) w := by kernel_rfl
theorem fieldH6 (g : Nat) (w : World) : (Instr.fieldAt 49 (.pointer (some ⟨g, 0, none⟩)) 6).run Tryd.prog w = .ok (.pointer (some ⟨g, 6, none⟩)) w := by kernel_rfl
theorem build_ip4 (a0 a1 a2 a3 a6 : Int) (a4 a5 : Bool) (s0 s1 s2 : ByteArray) (A : Option Addr) (n c : Nat) (w : World) :
    (Instr.build 24 [(0, Value.int .i64 a0), (1, .int .i64 a1), (2, .int .i64 a2), (3, .int .i64 a3), (4, .bool a4), (5, .bool a5), (6, .int .i64 a6), (7, .string s0), (8, .string s1), (9, .string s2), (10, .slice A n c)].toArray).run Tryd.prog w
      = .ok (.agg #[.int .i64 a0, .int .i64 a1, .int .i64 a2, .int .i64 a3, .bool a4, .bool a5, .int .i64 a6, .string s0, .string s1, .string s2, .slice A n c]) w := by kernel_rfl
theorem one11 (a0 a1 a2 a3 a6 : Int) (a4 a5 : Bool) (s0 s1 s2 : ByteArray) (A : Option Addr) (n c : Nat) : (#[.int .i64 a0, .int .i64 a1, .int .i64 a2, .int .i64 a3, .bool a4, .bool a5, .int .i64 a6, .string s0, .string s1, .string s2, .slice A n c] : Array Value).all (·.oneCell') = true := by simp [Value.oneCell']

/-- The packet of some bytes, by its head's numbers. -/
def ppkt (b1 i z b8 b9 : Int) (l : List Int) (H : Nat) : Pkt := ⟨b1, i, b8, b9, decide (z / 16384 % 2 = 1), decide (z / 8192 % 2 = 1), z % 8192 * 8, strOfNums ((l.drop 12).take 4), strOfNums ((l.drop 16).take 4), strOfNums ((l.drop 20).take (H - 20))⟩

theorem bit_eq {z k q : Int} (hz : q = z / k % 2 * k) (hk : 0 < k) : (q != 0) = decide (z / k % 2 = 1) := by
  rcases Int.emod_two_eq (z / k) with h | h
  · rw [hz, h]; simp
  · rw [hz, h]
    have : ¬ k = 0 := by omega
    simp [this]

set_option maxHeartbeats 1600000 in
set_option maxRecDepth 100000 in
theorem parse_ok (b p m d : Nat) (b0 b1 b2 b3 b4 b5 b6 b7 b8 b9 b10 b11 : Int) (r : List Int) (w : World) (B : Nat) (hB : B ≤ w.heap.size)
    (h : Holds w B (some ⟨b, p, none⟩) (m + 12) (d + 12) (b0 :: b1 :: b2 :: b3 :: b4 :: b5 :: b6 :: b7 :: b8 :: b9 :: b10 :: b11 :: r)) (hm : 8 ≤ m) (hn : m ≤ 65536 - 12)
    (H T : Nat) (hH : b0 % 16 * 4 = (H : Int)) (hH2 : 20 ≤ H) (hH3 : H ≤ m + 12)
    (hD : ∀ W, B ≤ W.heap.size → Holds W B (some ⟨b, p, none⟩) (m + 12) (d + 12) (b0 :: b1 :: b2 :: b3 :: b4 :: b5 :: b6 :: b7 :: b8 :: b9 :: b10 :: b11 :: r) → Calls Tryd.prog 31 #[.slice (some ⟨b, p, none⟩) (m + 12) (d + 12)] W fun e w' => e = .returned (.tuple #[.agg #[.int .i64 b0, .int .i64 b1, .int .i64 (T : Int), .int .i64 (256 * b4 + b5), .int .i64 (256 * b6 + b7), .int .i64 b8, .int .i64 b9, .int .i64 (256 * b10 + b11)], .nilIface]) ∧ Below W.heap.size W w') :
    Calls Tryd.prog 16 #[.slice (some ⟨b, p, none⟩) (m + 12) (d + 12)] w fun e w' => ∃ A' c', e = .returned (.tuple #[val (ppkt b1 (256 * b4 + b5) (256 * b6 + b7) b8 b9 (b0 :: b1 :: b2 :: b3 :: b4 :: b5 :: b6 :: b7 :: b8 :: b9 :: b10 :: b11 :: r) H) (.slice A' (m + 12 - H) c'), .int .i64 0]) ∧ Owns w' w.heap.size (.slice A' (m + 12 - H) c') (m + 12 - H) ((b0 :: b1 :: b2 :: b3 :: b4 :: b5 :: b6 :: b7 :: b8 :: b9 :: b10 :: b11 :: r).drop H) ∧ Below w.heap.size w w' := by
  have hby := h.2.2.2.1
  have x0 := hby b0 (by simp)
  have x6 := hby b6 (by simp)
  have x7 := hby b7 (by simp)
  have hdm := h.2.1
  have hdx := h.2.2.1
  unfold maxLen at hdx
  have E1 := Lib.hid (and_16384 (a := (256 * b6 + b7)) (by omega) (by omega))
  have E2 := Lib.hid (and_8192 (a := (256 * b6 + b7)) (by omega) (by omega))
  have E3 := Lib.hid (and_8191 (a := (256 * b6 + b7)) (by omega) (by omega))
  have DC := Lib.hid (hD (w.alloc (.cells #[.int .i64 0, .int .i64 0, .int .i64 0, .int .i64 0, .bool false, .bool false, .int .i64 0, .string ⟨#[]⟩, .string ⟨#[]⟩, .string ⟨#[]⟩, .slice none 0 0] 24)) (by simp; omega) (h.below ((Below.refl _ _).alloc hB _)))
  have HL := Lib.hid h
  clear h hby hD
  go_enter Tryd.func16, Tryd.ntmps16
  go_wp2_with fail
  refine DC.out.mono ?_
  rintro e w1 ⟨rfl, bel⟩
  have R1 := Lib.hid ((Blk.new w 24 #[.int .i64 0, .int .i64 0, .int .i64 0, .int .i64 0, .bool false, .bool false, .int .i64 0, .string ⟨#[]⟩, .string ⟨#[]⟩, .string ⟨#[]⟩, .slice none 0 0]).below bel (by simp))
  have B1 := Lib.hid (((Below.refl w.heap.size w).alloc (Nat.le_refl _) (.cells #[.int .i64 0, .int .i64 0, .int .i64 0, .int .i64 0, .bool false, .bool false, .int .i64 0, .string ⟨#[]⟩, .string ⟨#[]⟩, .string ⟨#[]⟩, .slice none 0 0] 24)).trans (bel.mono (by simp)))
  clear bel DC
  go_wp2_with fail
  have R2 := Lib.hid (R1.out.alloc (.cells #[.int .i64 b0, .int .i64 b1, .int .i64 (T : Int), .int .i64 (256 * b4 + b5), .int .i64 (256 * b6 + b7), .int .i64 b8, .int .i64 b9, .int .i64 (256 * b10 + b11)] 49))
  have V2 := Lib.hid (Blk.new w1 49 #[.int .i64 b0, .int .i64 b1, .int .i64 (T : Int), .int .i64 (256 * b4 + b5), .int .i64 (256 * b6 + b7), .int .i64 b8, .int .i64 b9, .int .i64 (256 * b10 + b11)])
  have B2 := Lib.hid (B1.out.alloc B1.out.size (.cells #[.int .i64 b0, .int .i64 b1, .int .i64 (T : Int), .int .i64 (256 * b4 + b5), .int .i64 (256 * b6 + b7), .int .i64 b8, .int .i64 b9, .int .i64 (256 * b10 + b11)] 49))
  have hs2 := B2.out.size
  have hB2 : B ≤ (w1.alloc (.cells #[.int .i64 b0, .int .i64 b1, .int .i64 (T : Int), .int .i64 (256 * b4 + b5), .int .i64 (256 * b6 + b7), .int .i64 b8, .int .i64 b9, .int .i64 (256 * b10 + b11)] 49)).heap.size := Nat.le_trans hB hs2
  have hlt : w.heap.size < w1.heap.size := R1.out.lt
  have SZ := Lib.hid (fun W (hc : W.cell? ⟨w1.heap.size, 0, none⟩ = some (.int .i64 b0)) => size_any w1.heap.size b0 H W x0.1 x0.2 hH hc)
  have HW := Lib.hid (fun W (hW : Below (w1.alloc (.cells #[.int .i64 b0, .int .i64 b1, .int .i64 (T : Int), .int .i64 (256 * b4 + b5), .int .i64 (256 * b6 + b7), .int .i64 b8, .int .i64 b9, .int .i64 (256 * b10 + b11)] 49)).drew.heap.size (w1.alloc (.cells #[.int .i64 b0, .int .i64 b1, .int .i64 (T : Int), .int .i64 (256 * b4 + b5), .int .i64 (256 * b6 + b7), .int .i64 b8, .int .i64 b9, .int .i64 (256 * b10 + b11)] 49)).drew W) => HL.out.below (B2.out.drew.trans (hW.mono hs2) |>.mono hB))
  refine wp_region_free [0, 1, 2, 3, 4, 5, 6, 7, 8, 9, 10, 11, 12, 13, 14, 15, 16, 17, 18, 19, 20, 21, 22, 23, 24, 25, 26, 27, 28, 29, 30, 31, 32, 33] 34 [35, 36] (fun w1 w2 => Below w1.heap.size w1 w2) (fun k w' v => match k with
    | 0 => v = .pointer (some ⟨w1.heap.size, 1, none⟩)
    | 1 => v = .int .i64 b1
    | 2 => v = .pointer (some ⟨w1.heap.size, 3, none⟩)
    | 3 => v = .int .i64 (256 * b4 + b5)
    | 4 => v = .pointer (some ⟨w1.heap.size, 5, none⟩)
    | 5 => v = .int .i64 b8
    | 6 => v = .pointer (some ⟨w1.heap.size, 6, none⟩)
    | 7 => v = .int .i64 b9
    | 8 => v = .pointer (some ⟨w1.heap.size, 4, none⟩)
    | 9 => v = .int .i64 (256 * b6 + b7)
    | 10 => v = .int .i64 (bits .and .i64 (256 * b6 + b7) 16384)
    | 11 => v = .bool (bits .and .i64 (256 * b6 + b7) 16384 != 0)
    | 12 => v = .pointer (some ⟨w1.heap.size, 4, none⟩)
    | 13 => v = .int .i64 (256 * b6 + b7)
    | 14 => v = .int .i64 (bits .and .i64 (256 * b6 + b7) 8192)
    | 15 => v = .bool (bits .and .i64 (256 * b6 + b7) 8192 != 0)
    | 16 => v = .pointer (some ⟨w1.heap.size, 4, none⟩)
    | 17 => v = .int .i64 (256 * b6 + b7)
    | 18 => v = .int .i64 (bits .and .i64 (256 * b6 + b7) 8191)
    | 19 => v = .int .i64 (IntKind.i64.wrap (bits .and .i64 (256 * b6 + b7) 8191 * 8))
    | 20 => v = .slice (some ⟨b, p, none⟩) (m + 12) (d + 12)
    | 21 => v = .slice (some (adr b p (d + 12) 12)) 4 (d + 12 - 12)
    | 22 => v = .string (strOfNums (((b0 :: b1 :: b2 :: b3 :: b4 :: b5 :: b6 :: b7 :: b8 :: b9 :: b10 :: b11 :: r).drop 12).take 4))
    | 23 => v = .slice (some ⟨b, p, none⟩) (m + 12) (d + 12)
    | 24 => v = .slice (some (adr b p (d + 12) 16)) 4 (d + 12 - 16)
    | 25 => v = .string (strOfNums (((b0 :: b1 :: b2 :: b3 :: b4 :: b5 :: b6 :: b7 :: b8 :: b9 :: b10 :: b11 :: r).drop 16).take 4))
    | 26 => v = .slice (some ⟨b, p, none⟩) (m + 12) (d + 12)
    | 27 => v = .int .i64 (H : Int)
    | 28 => v = .slice (some (adr b p (d + 12) 20)) (H - 20) (d + 12 - 20)
    | 29 => v = .string (strOfNums (((b0 :: b1 :: b2 :: b3 :: b4 :: b5 :: b6 :: b7 :: b8 :: b9 :: b10 :: b11 :: r).drop 20).take (H - 20)))
    | 30 => v = .slice (some ⟨b, p, none⟩) (m + 12) (d + 12)
    | 31 => v = .int .i64 (H : Int)
    | 32 => v = .slice (some (adr b p (d + 12) H)) (m + 12 - H) (d + 12 - H)
    | _ => ∃ A' c', v = .slice A' (m + 12 - H) c' ∧ Owns w' w.heap.size v (m + 12 - H) ((b0 :: b1 :: b2 :: b3 :: b4 :: b5 :: b6 :: b7 :: b8 :: b9 :: b10 :: b11 :: r).drop H)) (by kernel_rfl) (by kernel_rfl) (Below.refl _ _) (fun _ _ _ h k => h.trans (k.mono h.size)) (fun k w1 w2 v h => match k with
    | 0 => fun x => x
    | 1 => fun x => x
    | 2 => fun x => x
    | 3 => fun x => x
    | 4 => fun x => x
    | 5 => fun x => x
    | 6 => fun x => x
    | 7 => fun x => x
    | 8 => fun x => x
    | 9 => fun x => x
    | 10 => fun x => x
    | 11 => fun x => x
    | 12 => fun x => x
    | 13 => fun x => x
    | 14 => fun x => x
    | 15 => fun x => x
    | 16 => fun x => x
    | 17 => fun x => x
    | 18 => fun x => x
    | 19 => fun x => x
    | 20 => fun x => x
    | 21 => fun x => x
    | 22 => fun x => x
    | 23 => fun x => x
    | 24 => fun x => x
    | 25 => fun x => x
    | 26 => fun x => x
    | 27 => fun x => x
    | 28 => fun x => x
    | 29 => fun x => x
    | 30 => fun x => x
    | 31 => fun x => x
    | 32 => fun x => x
    | _ + 33 => fun ⟨A', c', e, o⟩ => ⟨A', c', e, Owns.below o h (Nat.le_refl _)⟩) (fun _ _ _ _ _ h => h) ?_ _ (by rfl) ?_
  · refine obs_cons (by rfl) (fun vals w' hgr hdep K hK => ?_) (obs_cons (by rfl) (fun vals w' hgr hdep K hK => ?_) (obs_cons (by rfl) (fun vals w' hgr hdep K hK => ?_) (obs_cons (by rfl) (fun vals w' hgr hdep K hK => ?_) (obs_cons (by rfl) (fun vals w' hgr hdep K hK => ?_) (obs_cons (by rfl) (fun vals w' hgr hdep K hK => ?_) (obs_cons (by rfl) (fun vals w' hgr hdep K hK => ?_) (obs_cons (by rfl) (fun vals w' hgr hdep K hK => ?_) (obs_cons (by rfl) (fun vals w' hgr hdep K hK => ?_) (obs_cons (by rfl) (fun vals w' hgr hdep K hK => ?_) (obs_cons (by rfl) (fun vals w' hgr hdep K hK => ?_) (obs_cons (by rfl) (fun vals w' hgr hdep K hK => ?_) (obs_cons (by rfl) (fun vals w' hgr hdep K hK => ?_) (obs_cons (by rfl) (fun vals w' hgr hdep K hK => ?_) (obs_cons (by rfl) (fun vals w' hgr hdep K hK => ?_) (obs_cons (by rfl) (fun vals w' hgr hdep K hK => ?_) (obs_cons (by rfl) (fun vals w' hgr hdep K hK => ?_) (obs_cons (by rfl) (fun vals w' hgr hdep K hK => ?_) (obs_cons (by rfl) (fun vals w' hgr hdep K hK => ?_) (obs_cons (by rfl) (fun vals w' hgr hdep K hK => ?_) (obs_cons (by rfl) (fun vals w' hgr hdep K hK => ?_) (obs_cons (by rfl) (fun vals w' hgr hdep K hK => ?_) (obs_cons (by rfl) (fun vals w' hgr hdep K hK => ?_) (obs_cons (by rfl) (fun vals w' hgr hdep K hK => ?_) (obs_cons (by rfl) (fun vals w' hgr hdep K hK => ?_) (obs_cons (by rfl) (fun vals w' hgr hdep K hK => ?_) (obs_cons (by rfl) (fun vals w' hgr hdep K hK => ?_) (obs_cons (by rfl) (fun vals w' hgr hdep K hK => ?_) (obs_cons (by rfl) (fun vals w' hgr hdep K hK => ?_) (obs_cons (by rfl) (fun vals w' hgr hdep K hK => ?_) (obs_cons (by rfl) (fun vals w' hgr hdep K hK => ?_) (obs_cons (by rfl) (fun vals w' hgr hdep K hK => ?_) (obs_cons (by rfl) (fun vals w' hgr hdep K hK => ?_) (obs_cons (by rfl) (fun vals w' hgr hdep K hK => ?_) obs_nil)))))))))))))))))))))))))))))))))
    · exact wp_field (.tmp 4) rfl (.pointer (some ⟨w1.heap.size, 0, none⟩)) (.pointer (some ⟨w1.heap.size, 1, none⟩)) (at_out _ (by kernel_rfl) rfl) (fieldH1 _ _) (hK _ _ (Below.refl _ _) rfl)
    · exact wp_load1 (.tmp 16) rfl ⟨w1.heap.size, 1, none⟩ ((at_dst 0 (by kernel_rfl)).trans (hdep 0 (by simp) (by kernel_rfl))) Tryd.underlying3 rfl (.int .i64 b1) (((V2.out.drew.below hgr V2.out.lt).cell 1).trans rfl) (hK _ _ (Below.refl _ _) rfl)
    · exact wp_field (.tmp 4) rfl (.pointer (some ⟨w1.heap.size, 0, none⟩)) (.pointer (some ⟨w1.heap.size, 3, none⟩)) (at_out _ (by kernel_rfl) rfl) (fieldH3 _ _) (hK _ _ (Below.refl _ _) rfl)
    · exact wp_load1 (.tmp 18) rfl ⟨w1.heap.size, 3, none⟩ ((at_dst 2 (by kernel_rfl)).trans (hdep 2 (by simp) (by kernel_rfl))) Tryd.underlying3 rfl (.int .i64 (256 * b4 + b5)) (((V2.out.drew.below hgr V2.out.lt).cell 3).trans rfl) (hK _ _ (Below.refl _ _) rfl)
    · exact wp_field (.tmp 4) rfl (.pointer (some ⟨w1.heap.size, 0, none⟩)) (.pointer (some ⟨w1.heap.size, 5, none⟩)) (at_out _ (by kernel_rfl) rfl) (fieldH5 _ _) (hK _ _ (Below.refl _ _) rfl)
    · exact wp_load1 (.tmp 20) rfl ⟨w1.heap.size, 5, none⟩ ((at_dst 4 (by kernel_rfl)).trans (hdep 4 (by simp) (by kernel_rfl))) Tryd.underlying3 rfl (.int .i64 b8) (((V2.out.drew.below hgr V2.out.lt).cell 5).trans rfl) (hK _ _ (Below.refl _ _) rfl)
    · exact wp_field (.tmp 4) rfl (.pointer (some ⟨w1.heap.size, 0, none⟩)) (.pointer (some ⟨w1.heap.size, 6, none⟩)) (at_out _ (by kernel_rfl) rfl) (fieldH6 _ _) (hK _ _ (Below.refl _ _) rfl)
    · exact wp_load1 (.tmp 22) rfl ⟨w1.heap.size, 6, none⟩ ((at_dst 6 (by kernel_rfl)).trans (hdep 6 (by simp) (by kernel_rfl))) Tryd.underlying3 rfl (.int .i64 b9) (((V2.out.drew.below hgr V2.out.lt).cell 6).trans rfl) (hK _ _ (Below.refl _ _) rfl)
    · exact wp_field (.tmp 4) rfl (.pointer (some ⟨w1.heap.size, 0, none⟩)) (.pointer (some ⟨w1.heap.size, 4, none⟩)) (at_out _ (by kernel_rfl) rfl) (fieldH4 _ _) (hK _ _ (Below.refl _ _) rfl)
    · exact wp_load1 (.tmp 24) rfl ⟨w1.heap.size, 4, none⟩ ((at_dst 8 (by kernel_rfl)).trans (hdep 8 (by simp) (by kernel_rfl))) Tryd.underlying3 rfl (.int .i64 (256 * b6 + b7)) (((V2.out.drew.below hgr V2.out.lt).cell 4).trans rfl) (hK _ _ (Below.refl _ _) rfl)
    · exact wp_bin (.tmp 25) (.const (.int .i64 16384)) rfl _ _ _ ((at_dst 9 (by kernel_rfl)).trans (hdep 9 (by simp) (by kernel_rfl))) rfl (run_and _ _ _ _ _) (hK _ _ (Below.refl _ _) rfl)
    · exact wp_bin (.tmp 26) (.const (.int .i64 0)) rfl _ _ _ ((at_dst 10 (by kernel_rfl)).trans (hdep 10 (by simp) (by kernel_rfl))) rfl (run_neq _ _ _ _ _) (hK _ _ (Below.refl _ _) rfl)
    · exact wp_field (.tmp 4) rfl (.pointer (some ⟨w1.heap.size, 0, none⟩)) (.pointer (some ⟨w1.heap.size, 4, none⟩)) (at_out _ (by kernel_rfl) rfl) (fieldH4 _ _) (hK _ _ (Below.refl _ _) rfl)
    · exact wp_load1 (.tmp 28) rfl ⟨w1.heap.size, 4, none⟩ ((at_dst 12 (by kernel_rfl)).trans (hdep 12 (by simp) (by kernel_rfl))) Tryd.underlying3 rfl (.int .i64 (256 * b6 + b7)) (((V2.out.drew.below hgr V2.out.lt).cell 4).trans rfl) (hK _ _ (Below.refl _ _) rfl)
    · exact wp_bin (.tmp 29) (.const (.int .i64 8192)) rfl _ _ _ ((at_dst 13 (by kernel_rfl)).trans (hdep 13 (by simp) (by kernel_rfl))) rfl (run_and _ _ _ _ _) (hK _ _ (Below.refl _ _) rfl)
    · exact wp_bin (.tmp 30) (.const (.int .i64 0)) rfl _ _ _ ((at_dst 14 (by kernel_rfl)).trans (hdep 14 (by simp) (by kernel_rfl))) rfl (run_neq _ _ _ _ _) (hK _ _ (Below.refl _ _) rfl)
    · exact wp_field (.tmp 4) rfl (.pointer (some ⟨w1.heap.size, 0, none⟩)) (.pointer (some ⟨w1.heap.size, 4, none⟩)) (at_out _ (by kernel_rfl) rfl) (fieldH4 _ _) (hK _ _ (Below.refl _ _) rfl)
    · exact wp_load1 (.tmp 32) rfl ⟨w1.heap.size, 4, none⟩ ((at_dst 16 (by kernel_rfl)).trans (hdep 16 (by simp) (by kernel_rfl))) Tryd.underlying3 rfl (.int .i64 (256 * b6 + b7)) (((V2.out.drew.below hgr V2.out.lt).cell 4).trans rfl) (hK _ _ (Below.refl _ _) rfl)
    · exact wp_bin (.tmp 33) (.const (.int .i64 8191)) rfl _ _ _ ((at_dst 17 (by kernel_rfl)).trans (hdep 17 (by simp) (by kernel_rfl))) rfl (run_and _ _ _ _ _) (hK _ _ (Below.refl _ _) rfl)
    · exact wp_bin (.tmp 34) (.const (.int .i64 8)) rfl _ _ _ ((at_dst 18 (by kernel_rfl)).trans (hdep 18 (by simp) (by kernel_rfl))) rfl (run_mul _ _ _ _ _) (hK _ _ (Below.refl _ _) rfl)
    · exact wp_move (.tmp 0) rfl _ (at_out _ (by kernel_rfl) rfl) (hK _ _ (Below.refl _ _) rfl)
    · exact wp_slice (.tmp 36) rfl _ _ (some (.int .i64 12)) (some (.int .i64 16)) none ((at_dst 20 (by kernel_rfl)).trans (hdep 20 (by simp) (by kernel_rfl))) rfl rfl rfl (cutA_lh b p (m + 12) (d + 12) 12 16 _ (by omega) (by omega)) (hK _ _ (Below.refl _ _) rfl)
    · exact wp_conv (.tmp 37) rfl _ _ ((at_dst 21 (by kernel_rfl)).trans (hdep 21 (by simp) (by kernel_rfl))) (run_string_bytes (cutA_holds (lo := 12) (hi := 16) (HW.out _ hgr) (by omega) (by omega))) (hK _ _ (Below.refl _ _) rfl)
    · exact wp_move (.tmp 0) rfl _ (at_out _ (by kernel_rfl) rfl) (hK _ _ (Below.refl _ _) rfl)
    · exact wp_slice (.tmp 39) rfl _ _ (some (.int .i64 16)) (some (.int .i64 20)) none ((at_dst 23 (by kernel_rfl)).trans (hdep 23 (by simp) (by kernel_rfl))) rfl rfl rfl (cutA_lh b p (m + 12) (d + 12) 16 20 _ (by omega) (by omega)) (hK _ _ (Below.refl _ _) rfl)
    · exact wp_conv (.tmp 40) rfl _ _ ((at_dst 24 (by kernel_rfl)).trans (hdep 24 (by simp) (by kernel_rfl))) (run_string_bytes (cutA_holds (lo := 16) (hi := 20) (HW.out _ hgr) (by omega) (by omega))) (hK _ _ (Below.refl _ _) rfl)
    · exact wp_move (.tmp 0) rfl _ (at_out _ (by kernel_rfl) rfl) (hK _ _ (Below.refl _ _) rfl)
    · exact wp_call 32 [.tmp 4] _ rfl ent_size [.pointer (some ⟨w1.heap.size, 0, none⟩)] (congrArg (fun z => [z]) (at_out _ (by kernel_rfl) rfl)) (fun v w'' => v = .int .i64 (H : Int) ∧ w'' = w') ((SZ.out w' (((V2.out.drew.below hgr V2.out.lt).cell 0).trans rfl)).mono fun e w'' ⟨h1, h2⟩ => ⟨_, h1, rfl, h2⟩) (fun v w'' ⟨h1, h2⟩ => by subst h2; exact hK v _ (Below.refl _ _) h1)
    · exact wp_slice (.tmp 42) rfl _ _ (some (.int .i64 20)) (some (.int .i64 (H : Int))) none ((at_dst 26 (by kernel_rfl)).trans (hdep 26 (by simp) (by kernel_rfl))) rfl (congrArg some ((at_dst 27 (by kernel_rfl)).trans (hdep 27 (by simp) (by kernel_rfl)))) rfl (cutA_lh b p (m + 12) (d + 12) 20 H _ (by omega) (by omega)) (hK _ _ (Below.refl _ _) rfl)
    · exact wp_conv (.tmp 44) rfl _ _ ((at_dst 28 (by kernel_rfl)).trans (hdep 28 (by simp) (by kernel_rfl))) (run_string_bytes (cutA_holds (lo := 20) (hi := H) (HW.out _ hgr) (by omega) (by omega))) (hK _ _ (Below.refl _ _) rfl)
    · exact wp_move (.tmp 0) rfl _ (at_out _ (by kernel_rfl) rfl) (hK _ _ (Below.refl _ _) rfl)
    · exact wp_call 32 [.tmp 4] _ rfl ent_size [.pointer (some ⟨w1.heap.size, 0, none⟩)] (congrArg (fun z => [z]) (at_out _ (by kernel_rfl) rfl)) (fun v w'' => v = .int .i64 (H : Int) ∧ w'' = w') ((SZ.out w' (((V2.out.drew.below hgr V2.out.lt).cell 0).trans rfl)).mono fun e w'' ⟨h1, h2⟩ => ⟨_, h1, rfl, h2⟩) (fun v w'' ⟨h1, h2⟩ => by subst h2; exact hK v _ (Below.refl _ _) h1)
    · exact wp_slice (.tmp 46) rfl _ _ (some (.int .i64 (H : Int))) none none ((at_dst 30 (by kernel_rfl)).trans (hdep 30 (by simp) (by kernel_rfl))) (congrArg some ((at_dst 31 (by kernel_rfl)).trans (hdep 31 (by simp) (by kernel_rfl)))) rfl rfl (cutA_l b p (m + 12) (d + 12) H _ (by omega) (by omega)) (hK _ _ (Below.refl _ _) rfl)
    · exact wp_call 33 [.tmp 48] _ rfl ent_clone [.slice (some (adr b p (d + 12) H)) (m + 12 - H) (d + 12 - H)] (congrArg (fun z => [z]) ((at_dst 32 (by kernel_rfl)).trans (hdep 32 (by simp) (by kernel_rfl)))) (fun v w'' => (∃ A' c', v = .slice A' (m + 12 - H) c' ∧ Owns w'' w'.heap.size v (m + 12 - H) ((b0 :: b1 :: b2 :: b3 :: b4 :: b5 :: b6 :: b7 :: b8 :: b9 :: b10 :: b11 :: r).drop H)) ∧ Below w'.heap.size w' w'') ((clone_any _ _ _ _ w' B (cutA_rest (HW.out _ hgr) (by omega)) (Nat.le_trans hB2 hgr.size) (by omega)).mono fun e w'' ⟨A', c', h1, h2, h3⟩ => ⟨_, h1, ⟨A', c', rfl, h2⟩, h3⟩) (fun v w'' ⟨⟨A', c', h1, h2⟩, h3⟩ => hK v w'' h3 ⟨A', c', h1, h2.mono (Nat.le_trans hs2 hgr.size)⟩)
  · intro vals w' hgr hG
    obtain ⟨A', c', ec, oc⟩ : ∃ A' c', vals 33 = .slice A' (m + 12 - H) c' ∧ Owns w' w.heap.size (vals 33) (m + 12 - H) ((b0 :: b1 :: b2 :: b3 :: b4 :: b5 :: b6 :: b7 :: b8 :: b9 :: b10 :: b11 :: r).drop H) := hG 33 (by simp)
    have e1 : vals 1 = .int .i64 b1 := hG 1 (by simp)
    have e3 : vals 3 = .int .i64 (256 * b4 + b5) := hG 3 (by simp)
    have e5 : vals 5 = .int .i64 b8 := hG 5 (by simp)
    have e7 : vals 7 = .int .i64 b9 := hG 7 (by simp)
    have e11 : vals 11 = .bool (bits .and .i64 (256 * b6 + b7) 16384 != 0) := hG 11 (by simp)
    have e15 : vals 15 = .bool (bits .and .i64 (256 * b6 + b7) 8192 != 0) := hG 15 (by simp)
    have e19 : vals 19 = .int .i64 (IntKind.i64.wrap (bits .and .i64 (256 * b6 + b7) 8191 * 8)) := hG 19 (by simp)
    have e22 : vals 22 = .string (strOfNums (((b0 :: b1 :: b2 :: b3 :: b4 :: b5 :: b6 :: b7 :: b8 :: b9 :: b10 :: b11 :: r).drop 12).take 4)) := hG 22 (by simp)
    have e25 : vals 25 = .string (strOfNums (((b0 :: b1 :: b2 :: b3 :: b4 :: b5 :: b6 :: b7 :: b8 :: b9 :: b10 :: b11 :: r).drop 16).take 4)) := hG 25 (by simp)
    have e29 : vals 29 = .string (strOfNums (((b0 :: b1 :: b2 :: b3 :: b4 :: b5 :: b6 :: b7 :: b8 :: b9 :: b10 :: b11 :: r).drop 20).take (H - 20))) := hG 29 (by simp)
    rw [ec] at oc
    refine st_build ([(0, 17, 1), (1, 19, 3), (2, 21, 5), (3, 23, 7), (4, 27, 11), (5, 31, 15), (6, 35, 19), (7, 38, 22), (8, 41, 25), (9, 45, 29), (10, 49, 33)].map fun q => (q.1, Operand.tmp q.2.1)) rfl ([(0, 17, 1), (1, 19, 3), (2, 21, 5), (3, 23, 7), (4, 27, 11), (5, 31, 15), (6, 35, 19), (7, 38, 22), (8, 41, 25), (9, 45, 29), (10, 49, 33)].map fun q => (q.1, vals q.2.2)) (map_fill [(0, 17, 1), (1, 19, 3), (2, 21, 5), (3, 23, 7), (4, 27, 11), (5, 31, 15), (6, 35, 19), (7, 38, 22), (8, 41, 25), (9, 45, 29), (10, 49, 33)] (by kernel_rfl)) (.agg #[.int .i64 b1, .int .i64 (256 * b4 + b5), .int .i64 b8, .int .i64 b9, .bool (bits .and .i64 (256 * b6 + b7) 16384 != 0), .bool (bits .and .i64 (256 * b6 + b7) 8192 != 0), .int .i64 (IntKind.i64.wrap (bits .and .i64 (256 * b6 + b7) 8191 * 8)), .string (strOfNums (((b0 :: b1 :: b2 :: b3 :: b4 :: b5 :: b6 :: b7 :: b8 :: b9 :: b10 :: b11 :: r).drop 12).take 4)), .string (strOfNums (((b0 :: b1 :: b2 :: b3 :: b4 :: b5 :: b6 :: b7 :: b8 :: b9 :: b10 :: b11 :: r).drop 16).take 4)), .string (strOfNums (((b0 :: b1 :: b2 :: b3 :: b4 :: b5 :: b6 :: b7 :: b8 :: b9 :: b10 :: b11 :: r).drop 20).take (H - 20))), .slice A' (m + 12 - H) c']) ?_ ?_
    · simp only [List.map, e1, e3, e5, e7, e11, e15, e19, e22, e25, e29, ec]
      exact build_ip4 _ _ _ _ _ _ _ _ _ _ _ _ _ _
    · refine wpAnyH_next 35 _ rfl rfl (by kernel_rfl) (st_store_row 24 (.tmp 2) (.tmp 50) rfl w.heap.size _ (put_tmps_ne (by rfl) (at_out _ (by kernel_rfl) rfl)) (put_tmps_eq (fill_size _ _ _) (by kernel_rfl)) 24 _ (R2.out.drew.below hgr R2.out.lt) (by kernel_rfl) rfl (one11 _ _ _ _ _ _ _ _ _ _ _ _ _) ⟨trivial, wpAnyH_next 36 _ rfl rfl (by kernel_rfl) (st_assign (.const (.int .i64 0)) (.int .i64 0) rfl rfl ⟨trivial, wpAnyH_done (by kernel_rfl) ?_ _⟩)⟩)
      have D1 := bit_eq E1.out (by decide)
      have D2 := bit_eq E2.out (by decide)
      have D3 : IntKind.i64.wrap (bits .and .i64 (256 * b6 + b7) 8191 * 8) = (256 * b6 + b7) % 8192 * 8 := by rw [E3.out, IntWalk.i64_in _ (by omega)]
      have BB : Below w.heap.size w (w'.setRow w.heap.size #[.int .i64 b1, .int .i64 (256 * b4 + b5), .int .i64 b8, .int .i64 b9, .bool (bits .and .i64 (256 * b6 + b7) 16384 != 0), .bool (bits .and .i64 (256 * b6 + b7) 8192 != 0), .int .i64 (IntKind.i64.wrap (bits .and .i64 (256 * b6 + b7) 8191 * 8)), .string (strOfNums (((b0 :: b1 :: b2 :: b3 :: b4 :: b5 :: b6 :: b7 :: b8 :: b9 :: b10 :: b11 :: r).drop 12).take 4)), .string (strOfNums (((b0 :: b1 :: b2 :: b3 :: b4 :: b5 :: b6 :: b7 :: b8 :: b9 :: b10 :: b11 :: r).drop 16).take 4)), .string (strOfNums (((b0 :: b1 :: b2 :: b3 :: b4 :: b5 :: b6 :: b7 :: b8 :: b9 :: b10 :: b11 :: r).drop 20).take (H - 20))), .slice A' (m + 12 - H) c']) := below_setRow (B2.out.drew.trans (hgr.mono hs2)) (Nat.le_refl _) _
      have RR := setRow_heap w' w.heap.size _ #[.int .i64 b1, .int .i64 (256 * b4 + b5), .int .i64 b8, .int .i64 b9, .bool (bits .and .i64 (256 * b6 + b7) 16384 != 0), .bool (bits .and .i64 (256 * b6 + b7) 8192 != 0), .int .i64 (IntKind.i64.wrap (bits .and .i64 (256 * b6 + b7) 8191 * 8)), .string (strOfNums (((b0 :: b1 :: b2 :: b3 :: b4 :: b5 :: b6 :: b7 :: b8 :: b9 :: b10 :: b11 :: r).drop 12).take 4)), .string (strOfNums (((b0 :: b1 :: b2 :: b3 :: b4 :: b5 :: b6 :: b7 :: b8 :: b9 :: b10 :: b11 :: r).drop 16).take 4)), .string (strOfNums (((b0 :: b1 :: b2 :: b3 :: b4 :: b5 :: b6 :: b7 :: b8 :: b9 :: b10 :: b11 :: r).drop 20).take (H - 20))), .slice A' (m + 12 - H) c'] _ _ (R2.out.drew.below hgr R2.out.lt)
      have OO : Owns (w'.setRow w.heap.size #[.int .i64 b1, .int .i64 (256 * b4 + b5), .int .i64 b8, .int .i64 b9, .bool (bits .and .i64 (256 * b6 + b7) 16384 != 0), .bool (bits .and .i64 (256 * b6 + b7) 8192 != 0), .int .i64 (IntKind.i64.wrap (bits .and .i64 (256 * b6 + b7) 8191 * 8)), .string (strOfNums (((b0 :: b1 :: b2 :: b3 :: b4 :: b5 :: b6 :: b7 :: b8 :: b9 :: b10 :: b11 :: r).drop 12).take 4)), .string (strOfNums (((b0 :: b1 :: b2 :: b3 :: b4 :: b5 :: b6 :: b7 :: b8 :: b9 :: b10 :: b11 :: r).drop 16).take 4)), .string (strOfNums (((b0 :: b1 :: b2 :: b3 :: b4 :: b5 :: b6 :: b7 :: b8 :: b9 :: b10 :: b11 :: r).drop 20).take (H - 20))), .slice A' (m + 12 - H) c']) w.heap.size (.slice A' (m + 12 - H) c') (m + 12 - H) ((b0 :: b1 :: b2 :: b3 :: b4 :: b5 :: b6 :: b7 :: b8 :: b9 :: b10 :: b11 :: r).drop H) :=
        oc.kept (row := some w.heap.size) ⟨rfl, rfl, rfl, by simp [World.setRow], fun k _ hk => setRow_other w' w.heap.size k _ (fun e => hk (by rw [e]))⟩ (.inr (own_other oc (R2.out.drew.below hgr R2.out.lt) (by decide)))
      generalize hF : Act.put _ _ _ = F
      have h2 : F.eval (.tmp 2) = .pointer (some ⟨w.heap.size, 0, none⟩) := by
        rw [← hF]
        exact put_tmps_ne (d := 3) (by rfl) (put_none (put_tmps_ne (d := 50) (by rfl) (at_out _ (by kernel_rfl) rfl)))
      have h3 : F.eval (.tmp 3) = .int .i64 0 := by
        rw [← hF]
        exact put_tmps_eq (d := 3) (put_size (put_size (fill_size _ _ _))) (by kernel_rfl)
      have h0 : F.defers = [] := by
        rw [← hF]
        exact put_defs (put_defs (put_defs (fill_defs _ _ _)))
      rw [D1, D2, D3] at BB RR OO ⊢
      clear hF hG oc
      generalize w'.setRow w.heap.size _ = w9 at *
      go_wp2_with fail
      exact bodyPost_ret (results_pair rfl _ _ w.heap.size 24 _ (0, 0) _ _ h2 h3 RR Tryd.underlying24 rfl (by kernel_rfl)) h0 ⟨A', c', rfl, OO, BB⟩
end Go.Proofs.YtjhfginopbjldaaDoor.ParseCode
