/- Parse of the code: any bytes, all together. -/
import Derived.Test.YtjhfginopbjldaaDoorParse
set_option linter.unusedVariables false
namespace Go.Proofs.YtjhfginopbjldaaDoor.ParseCode
open Go.RowKit Go.Proofs.YtjhfginopbjldaaDoor.Head Go.Proofs.YtjhfginopbjldaaDoor.Sums Go.Proofs.YtjhfginopbjldaaDoor.Mem Go.Proofs.YtjhfginopbjldaaDoor.Blk Go.Proofs.YtjhfginopbjldaaDoor.Bits Go.Proofs.YtjhfginopbjldaaDoor.Pkt Go.Proofs.YtjhfginopbjldaaDoor.Check Go.Proofs.YtjhfginopbjldaaDoor.Errno Go.Proofs.YtjhfginopbjldaaDoor.Decode

/-- What Parse gives. -/
def Gives (w : World) (l : List Int) (e : Ending) (w' : World) : Prop :=
  ((perr l = 0 ∧ ∃ A' c', e = .returned (.tuple #[val (pkOf l) (.slice A' (l.length - hdOf l) c'), .int .i64 0]) ∧ Owns w' w.heap.size (.slice A' (l.length - hdOf l) c') (l.length - hdOf l) (l.drop (hdOf l))) ∨
   (perr l ≠ 0 ∧ e = .returned (.tuple #[val Pkt.zero (.slice none 0 0), .int .i64 (perr l)]))) ∧ Below w.heap.size w w'

theorem gives_bad {D : Value} {w : World} {l : List Int} {k : Int} (hg : Handle w) (hk : perr l = k) (h0 : k ≠ 0) (a0 a1 a2 a3 a4 a5 a6 a7 : Int) (s : ByteArray)
    (C : ∀ W, Below w.heap.size w W → Calls Tryd.prog 31 #[D] W fun e w' => e = .returned (.tuple #[.agg #[.int .i64 a0, .int .i64 a1, .int .i64 a2, .int .i64 a3, .int .i64 a4, .int .i64 a5, .int .i64 a6, .int .i64 a7], .iface 71 (.agg #[.string s, .iface 27 (.int .i64 k)])]) ∧ perr l = k ∧ Below W.heap.size W w') :
    Calls Tryd.prog 16 #[D] w (Gives w l) := by
  refine (parse_bad D k w hg fun W hW => (C W hW).mono fun e w' ⟨h1, _, h3⟩ => ⟨⟨_, _, _, _, _, _, _, _, _, h1⟩, h3⟩).mono fun e w' ⟨h1, h2⟩ => ⟨.inr ⟨by rw [hk]; exact h0, by rw [hk]; exact h1⟩, h2⟩

theorem bit15 {z : Int} (h0 : 0 ≤ z) (h1 : z < 65536) : (32768 ≤ z → bits .and .i64 z 32768 = 32768) ∧ (z < 32768 → bits .and .i64 z 32768 = 0) := by
  rw [and_32768 h0 h1]
  constructor
  · intro h; omega
  · intro h; omega

set_option maxHeartbeats 1000000 in
theorem parse_long (b p m d : Nat) (b0 b1 b2 b3 b4 b5 b6 b7 b8 b9 b10 b11 : Int) (r : List Int) (w : World) (B : Nat) (hg : Handle w) (hB : B ≤ w.heap.size)
    (h : Holds w B (some ⟨b, p, none⟩) (m + 12) (d + 12) (b0 :: b1 :: b2 :: b3 :: b4 :: b5 :: b6 :: b7 :: b8 :: b9 :: b10 :: b11 :: r)) (hm : 8 ≤ m) (hn : m ≤ 65536 - 12) :
    Calls Tryd.prog 16 #[.slice (some ⟨b, p, none⟩) (m + 12) (d + 12)] w (Gives w (b0 :: b1 :: b2 :: b3 :: b4 :: b5 :: b6 :: b7 :: b8 :: b9 :: b10 :: b11 :: r)) := by
  have hby := h.2.2.2.1
  have x0 := hby b0 (by simp)
  have x2 := hby b2 (by simp)
  have x3 := hby b3 (by simp)
  have x6 := hby b6 (by simp)
  have x7 := hby b7 (by simp)
  have hlen : (b0 :: b1 :: b2 :: b3 :: b4 :: b5 :: b6 :: b7 :: b8 :: b9 :: b10 :: b11 :: r).length = m + 12 := h.1
  obtain ⟨H, hH⟩ : ∃ H : Nat, b0 % 16 * 4 = (H : Int) := ⟨(b0 % 16 * 4).toNat, by omega⟩
  obtain ⟨T, hT⟩ : ∃ T : Nat, 256 * b2 + b3 = (T : Int) := ⟨(256 * b2 + b3).toNat, by omega⟩
  have z15 := bit15 (z := 256 * b6 + b7) (by omega) (by omega)
  have PE := perr_eq m b0 b1 b2 b3 b4 b5 b6 b7 b8 b9 b10 b11 r (by simpa using hlen) H T hH hT
  by_cases q1 : b0 / 16 = 4
  · by_cases q2 : (H : Int) < 20
    · exact gives_bad hg (by rw [PE, if_neg (by omega), if_neg (by simpa using q1), if_pos q2]) (by decide) _ _ _ _ _ _ _ _ _ (fun W hW => decode_hlen b p m d b0 b1 b2 b3 b4 b5 b6 b7 b8 b9 b10 b11 r W B (Nat.le_trans hB hW.size) (h.below (hW.mono hB)) hm hn H T hH hT q1 q2)
    · by_cases q3 : (m : Int) + 12 < (H : Int)
      · exact gives_bad hg (by rw [PE, if_neg (by omega), if_neg (by simpa using q1), if_neg q2, if_pos (by omega)]) (by decide) _ _ _ _ _ _ _ _ _ (fun W hW => decode_data1 b p m d b0 b1 b2 b3 b4 b5 b6 b7 b8 b9 b10 b11 r W B (Nat.le_trans hB hW.size) (h.below (hW.mono hB)) hm hn H T hH hT q1 (by omega) q3)
      · by_cases q4 : (m : Int) + 12 < (T : Int)
        · exact gives_bad hg (by rw [PE, if_neg (by omega), if_neg (by simpa using q1), if_neg q2, if_neg (by omega), if_pos (by omega)]) (by decide) _ _ _ _ _ _ _ _ _ (fun W hW => decode_data2 b p m d b0 b1 b2 b3 b4 b5 b6 b7 b8 b9 b10 b11 r W B (Nat.le_trans hB hW.size) (h.below (hW.mono hB)) hm hn H T hH hT q1 (by omega) (by omega) q4)
        · by_cases q5 : (T : Int) < (H : Int)
          · exact gives_bad hg (by rw [PE, if_neg (by omega), if_neg (by simpa using q1), if_neg q2, if_neg (by omega), if_neg (by omega), if_pos q5]) (by decide) _ _ _ _ _ _ _ _ _ (fun W hW => decode_tot1 b p m d b0 b1 b2 b3 b4 b5 b6 b7 b8 b9 b10 b11 r W B (Nat.le_trans hB hW.size) (h.below (hW.mono hB)) hm hn H T hH hT q1 (by omega) (by omega) (by omega) q5)
          · by_cases q6 : (T : Int) < (m : Int) + 12
            · exact gives_bad hg (by rw [PE, if_neg (by omega), if_neg (by simpa using q1), if_neg q2, if_neg (by omega), if_neg (by omega), if_neg q5, if_pos (by omega)]) (by decide) _ _ _ _ _ _ _ _ _ (fun W hW => decode_tot2 b p m d b0 b1 b2 b3 b4 b5 b6 b7 b8 b9 b10 b11 r W B (Nat.le_trans hB hW.size) (h.below (hW.mono hB)) hm hn H T hH hT q1 (by omega) (by omega) (by omega) (by omega) q6)
            · by_cases q8 : 32768 ≤ 256 * b6 + b7
              · exact gives_bad hg (by rw [PE, if_neg (by omega), if_neg (by simpa using q1), if_neg q2, if_neg (by omega), if_neg (by omega), if_neg q5, if_neg (by omega), if_pos q8]) (by decide) _ _ _ _ _ _ _ _ _ (fun W hW => decode_res b p m d b0 b1 b2 b3 b4 b5 b6 b7 b8 b9 b10 b11 r W B (Nat.le_trans hB hW.size) (h.below (hW.mono hB)) hm hn H T hH hT q1 (by omega) (by omega) (by omega) (by omega) (by omega) (z15.1 q8) q8)
              · by_cases q9 : sums 0 ((b0 :: b1 :: b2 :: b3 :: b4 :: b5 :: b6 :: b7 :: b8 :: b9 :: b10 :: b11 :: r).take H) = 65535
                · have p0 : perr (b0 :: b1 :: b2 :: b3 :: b4 :: b5 :: b6 :: b7 :: b8 :: b9 :: b10 :: b11 :: r) = 0 := by rw [PE, if_neg (by omega), if_neg (by simpa using q1), if_neg q2, if_neg (by omega), if_neg (by omega), if_neg q5, if_neg (by omega), if_neg q8, if_neg (by rw [q9]; simp)]
                  have hd : hdOf (b0 :: b1 :: b2 :: b3 :: b4 :: b5 :: b6 :: b7 :: b8 :: b9 :: b10 :: b11 :: r) = H := by
                    show (b0 % 16 * 4).toNat = H
                    rw [hH, Int.toNat_natCast]
                  refine (parse_ok b p m d b0 b1 b2 b3 b4 b5 b6 b7 b8 b9 b10 b11 r w B hB h hm hn H T hH (by omega) (by omega) (fun W hWB hWh => (decode_ok b p m d b0 b1 b2 b3 b4 b5 b6 b7 b8 b9 b10 b11 r W B hWB hWh hm hn H T hH hT q1 (by omega) (by omega) (by omega) (by omega) (by omega) (z15.2 (by omega)) (by omega) q9).mono fun e w' ⟨h1, _, h3⟩ => ⟨h1, h3⟩)).mono ?_
                  rintro e w' ⟨A', c', he, ho, hb⟩
                  refine ⟨.inl ⟨p0, A', c', ?_⟩, hb⟩
                  rw [hlen, hd]
                  refine ⟨?_, ho⟩
                  rw [he]
                  have : pkOf (b0 :: b1 :: b2 :: b3 :: b4 :: b5 :: b6 :: b7 :: b8 :: b9 :: b10 :: b11 :: r) = ppkt b1 (256 * b4 + b5) (256 * b6 + b7) b8 b9 (b0 :: b1 :: b2 :: b3 :: b4 :: b5 :: b6 :: b7 :: b8 :: b9 :: b10 :: b11 :: r) H := by
                    unfold pkOf
                    rw [hd]
                    rfl
                  rw [this]
                · exact gives_bad hg (by rw [PE, if_neg (by omega), if_neg (by simpa using q1), if_neg q2, if_neg (by omega), if_neg (by omega), if_neg q5, if_neg (by omega), if_neg q8, if_pos q9]) (by decide) _ _ _ _ _ _ _ _ _ (fun W hW => decode_sum b p m d b0 b1 b2 b3 b4 b5 b6 b7 b8 b9 b10 b11 r W B (Nat.le_trans hB hW.size) (h.below (hW.mono hB)) hm hn H T hH hT q1 (by omega) (by omega) (by omega) (by omega) (by omega) (z15.2 (by omega)) (by omega) _ rfl (by simpa using q9))
  · exact gives_bad hg (by rw [PE, if_neg (by omega), if_pos q1]) (by decide) _ _ _ _ _ _ _ _ _ (fun W hW => decode_version b p m d b0 b1 b2 b3 b4 b5 b6 b7 b8 b9 b10 b11 r W B (Nat.le_trans hB hW.size) (h.below (hW.mono hB)) hm hn H T hH hT (by simpa using q1))

theorem parse_any (A : Option Addr) (n c : Nat) (l : List Int) (w : World) (B : Nat) (hg : Handle w) (hB : B ≤ w.heap.size) (h : Holds w B A n c l) (hn : n ≤ 65536) :
    Calls Tryd.prog 16 #[.slice A n c] w (Gives w l) := by
  by_cases h20 : n < 20
  · have hl := h.1
    exact gives_bad (k := 8) hg (by unfold perr; rw [if_pos (by omega)]) (by decide) _ _ _ _ _ _ _ _ _ (fun W hW => decode_short A n c l W hl h20)
  · obtain ⟨b, p, rfl, _⟩ := h.2.2.2.2 (by omega)
    have hl := h.1
    have hc := h.2.1
    match l, hl with
    | b0 :: b1 :: b2 :: b3 :: b4 :: b5 :: b6 :: b7 :: b8 :: b9 :: b10 :: b11 :: r, hl =>
      obtain ⟨m, rfl⟩ : ∃ m, n = m + 12 := ⟨n - 12, by omega⟩
      obtain ⟨d, rfl⟩ : ∃ d, c = d + 12 := ⟨c - 12, by omega⟩
      exact parse_long b p m d b0 b1 b2 b3 b4 b5 b6 b7 b8 b9 b10 b11 r w B hg hB h (by omega) (by omega)
    | [], hl | [_], hl | [_, _], hl | [_, _, _], hl | [_, _, _, _], hl | [_, _, _, _, _], hl | [_, _, _, _, _, _], hl | [_, _, _, _, _, _, _], hl | [_, _, _, _, _, _, _, _], hl | [_, _, _, _, _, _, _, _, _], hl | [_, _, _, _, _, _, _, _, _, _], hl | [_, _, _, _, _, _, _, _, _, _, _], hl => simp at hl; omega

end Go.Proofs.YtjhfginopbjldaaDoor.ParseCode
