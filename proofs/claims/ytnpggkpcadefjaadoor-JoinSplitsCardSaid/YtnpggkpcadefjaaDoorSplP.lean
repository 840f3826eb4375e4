/- Split's contract, as the laws use it; how its pieces lie in memory. -/
import Derived.Test.YtnpggkpcadefjaaDoorM12
import Derived.Test.YtnpggkpcadefjaaDoorPart
import Derived.Test.YtnpggkpcadefjaaDoorM14
set_option linter.unusedVariables false
namespace Go.Proofs.YtnpggkpcadefjaaDoor.SplP
open Go.RowKit Go.Proofs.YtnpggkpcadefjaaDoor.Sums Go.Proofs.YtnpggkpcadefjaaDoor.Mem Go.Proofs.YtnpggkpcadefjaaDoor.Blk Go.Proofs.YtnpggkpcadefjaaDoor.Pkt Go.Proofs.YtnpggkpcadefjaaDoor.Check Go.Proofs.YtnpggkpcadefjaaDoor.SplD Go.Proofs.YtnpggkpcadefjaaDoor.SplL Go.Proofs.YtnpggkpcadefjaaDoor.SplM Go.Proofs.YtnpggkpcadefjaaDoor.SplN Go.Proofs.YtnpggkpcadefjaaDoor.Errno

def pcCells (p : Pkt) (D : Value) : List Value := [.int .i64 p.tos, .int .i64 p.id, .int .i64 p.ttl, .int .i64 p.proto, .bool p.df, .bool p.mf, .int .i64 p.off, .string p.src, .string p.dst, .string p.opt, D]
theorem val_cells (p : Pkt) (D : Value) : val p D = .agg (pcCells p D).toArray := rfl
/-- Pieces in memory. -/
def PcsAt (W : World) (v : Value) (ps : List (Pkt × List Int)) : Prop := ∃ A c, v = .slice A ps.length c ∧ ∀ k x, ps[k]? = some x → ∃ b o A' c', A = some ⟨b, o, none⟩ ∧ b < W.heap.size ∧ Part.At W b (o + k * 11) (pcCells x.1 (.slice A' x.2.length c')) ∧ Holds W W.heap.size A' x.2.length c' x.2
theorem PcsAt.below {W W' : World} {v : Value} {ps : List (Pkt × List Int)} (h : PcsAt W v ps) (hb : Below W.heap.size W W') : PcsAt W' v ps := by
  obtain ⟨A, c, e, h⟩ := h
  refine ⟨A, c, e, fun k x hx => ?_⟩
  obtain ⟨b, o, A', c', e1, e2, e3, e4⟩ := h k x hx
  exact ⟨b, o, A', c', e1, Nat.lt_of_lt_of_le e2 hb.size, e3.below hb e2, (e4.below hb).more hb.size⟩
/-- What Split does. -/
def SplitSpec : Prop := ∀ (p : Pkt) (A : Option Addr) (n c B : Nat) (l : List Int) (mtu : Int) (w : World), Handle w → Holds w B A n c l → B ≤ w.heap.size → p.opt.size ≤ 10000 → n ≤ 1048576 → -9223372036854775808 ≤ mtu → mtu ≤ 9223372036854775807 →
  Calls Tryd.prog 19 #[val p (.slice A n c), .int .i64 mtu] w fun e w' => (∃ v, e = .returned (.tuple #[v, .int .i64 (splitR p l mtu).1]) ∧ PcsAt w' v (splitR p l mtu).2) ∧ Below w.heap.size w w'
theorem made_z (n : Nat) : (madeCells #[.int .u8 0] n).toList = (List.replicate n (0 : Int)).map (Value.int .u8) := by
  simp only [madeCells, List.map_replicate]
  apply List.ext_getElem
  · simp
  · intro i h1 h2
    simp [Nat.mod_one]
theorem make_z (n : Nat) (hn : n ≤ 1048576) : ∃ Z : Array Value, Z.toList = (List.replicate n (0 : Int)).map (Value.int .u8) ∧ ∀ w : World, (Instr.makeSlice 30 (.int .i64 (n : Int)) (.int .i64 (n : Int))).run Tryd.prog w = .ok (.slice (some ⟨w.heap.size, 0, none⟩) n n) (w.alloc (.cells Z 5)) := by
  obtain ⟨i, hi, hz, hsz, hby⟩ := info_parts byte_info
  refine ⟨madeCells #[.int .u8 0] n, made_z n, fun w => ?_⟩
  have hr := run_make (P := Tryd.prog) w 30 5 i (.int .u8 0) Tryd.underlying30 hi hz .i64 .i64 (n : Int) (n : Int) (by omega) (by omega) (by rw [hby]; omega) (by omega)
  rw [Int.toNat_natCast, hsz, Nat.mul_one] at hr
  exact hr
theorem zero_bytes (n : Nat) : Bytes (List.replicate n (0 : Int)) := fun z hz => by
  obtain ⟨_, rfl⟩ := List.mem_replicate.1 hz
  omega
/-- Bytes without options, as the third law asks. -/
def manyP : Pkt := ⟨0, 0, 0, 0, false, false, 0, ⟨#[97, 98, 99, 100]⟩, ⟨#[101, 102, 103, 104]⟩, ⟨#[]⟩⟩
theorem many_valid : Valid manyP := ⟨by decide, by decide, by decide, by decide, by decide, by decide, by decide, by decide, by decide, by decide, by decide, rfl, rfl, by decide, rfl⟩
theorem later_none : laterL ⟨#[]⟩ = some [] := by
  unfold laterL
  rw [Opts.optsS, dif_neg (by decide)]
  rfl
theorem many_split (n m : Nat) (hn : n ≤ 5000) (hm : 68 ≤ m) : (splitR manyP (List.replicate n 0) m).1 = 0 ∧ (splitR manyP (List.replicate n 0) m).2.length = (cuts m 0 0 n (n + 1) 0).length ∧
    ∀ i x, (splitR manyP (List.replicate n 0) m).2[i]? = some x → i + 1 < (splitR manyP (List.replicate n 0) m).2.length → x.2.length = (m - 20) / 8 * 8 := by
  have z : (splitR manyP (List.replicate n 0) m).1 = 0 := by
    unfold splitR
    rw [List.length_replicate, if_neg (by rw [chk_ok many_valid (show 20 + 0 + n ≤ 65535 by omega)]; exact fun z => z rfl), if_neg (by omega)]
    split
    · rfl
    · rw [if_neg (by decide), show manyP.opt = ⟨#[]⟩ from rfl, later_none]
      simp only
      rw [if_neg]
      intro h
      obtain ⟨q, hq, hq'⟩ := List.any_eq_true.1 h
      obtain ⟨i, hi⟩ := List.mem_iff_getElem?.1 hq
      have := (cuts_each (m := (m : Int).toNat) (o := 0) (lat := 0) (n := n) ⟨by omega, by omega⟩ (n + 1) 0 (Nat.zero_le _) (by omega) i q.1 q.2 hi).2.1
      have := of_decide_eq_true hq'
      have e : manyP.off = 0 := rfl
      omega
  obtain ⟨hv, _, h68, lat, l1, l4, e, _⟩ := split_zero z
  have l0 : lat.size = 0 := Nat.le_zero.1 l1
  rw [l0, List.length_replicate, Int.toNat_natCast, show manyP.opt.size = 0 from rfl] at e
  refine ⟨z, by rw [e, List.length_map], fun i x hx hi => ?_⟩
  rw [e] at hx hi
  rw [List.length_map] at hi
  rw [List.getElem?_map] at hx
  obtain ⟨q, hq, rfl⟩ := Option.map_eq_some_iff.1 hx
  obtain ⟨b, k⟩ := q
  have h := cuts_each (m := m) (o := 0) (lat := 0) (n := n) ⟨by omega, by omega⟩ (n + 1) 0 (Nat.zero_le _) (by omega) i b k hq
  obtain ⟨_, h2, _, _, _, _, h6⟩ := h
  rcases h6 with ⟨_, p2, p3, _⟩ | ⟨p1, _⟩
  · show (((List.replicate n 0).drop b).take k).length = _
    rw [List.length_take, List.length_drop, List.length_replicate, Nat.min_eq_left (by omega), p2]
    unfold room
    split <;> rfl
  · omega
end Go.Proofs.YtnpggkpcadefjaaDoor.SplP
