/- What Split answers: plain. How its pieces lie in memory. -/
import Derived.Test.YtibfdacgdffpiaaDoorSplD
import Derived.Test.YtibfdacgdffpiaaDoorSplL
import Derived.Test.YtibfdacgdffpiaaDoorCheck
import Derived.Test.YtibfdacgdffpiaaDoorBlk
set_option linter.unusedVariables false
namespace Go.Proofs.YtibfdacgdffpiaaDoor.SplM
open Go.RowKit Go.Proofs.YtibfdacgdffpiaaDoor.Sums Go.Proofs.YtibfdacgdffpiaaDoor.Mem Go.Proofs.YtibfdacgdffpiaaDoor.Blk Go.Proofs.YtibfdacgdffpiaaDoor.Pkt Go.Proofs.YtibfdacgdffpiaaDoor.Check Go.Proofs.YtibfdacgdffpiaaDoor.SplD Go.Proofs.YtibfdacgdffpiaaDoor.SplL

theorem str_size (t : List Int) : (strOfNums t).size = t.length := by
  show (strOfNums t).data.size = _
  simp [strOfNums]
/-- The piece that begins at q.1 and has q.2 bytes. -/
def piece (p : Pkt) (lat : ByteArray) (l : List Int) (q : Nat × Nat) : Pkt × List Int :=
  (⟨p.tos, p.id, p.ttl, p.proto, p.df, p.mf || decide (q.1 + q.2 < l.length), p.off + q.1, p.src, p.dst, if q.1 = 0 then p.opt else lat⟩, (l.drop q.1).take q.2)
def splitR (p : Pkt) (l : List Int) (mtu : Int) : Int × List (Pkt × List Int) :=
  if p.chk l.length ≠ 0 then (p.chk l.length, [])
  else if mtu < 68 then (1, [])
  else if 20 + (p.opt.size : Int) + l.length ≤ mtu then (0, [(p, l)])
  else if p.df = true then (181, [])
  else match laterL p.opt with
    | none => (4, [])
    | some t => if (cuts mtu.toNat p.opt.size t.length l.length (l.length + 1) 0).any (fun q => decide (65528 < p.off + q.1)) = true then (2, [])
      else (0, (cuts mtu.toNat p.opt.size t.length l.length (l.length + 1) 0).map (piece p (strOfNums t) l))
theorem piece_whole (p : Pkt) (lat : ByteArray) (l : List Int) : piece p lat l (0, l.length) = (p, l) := by
  unfold piece
  simp
theorem wide_of {p : Pkt} {mtu : Int} (hv : Valid p) (hm : 68 ≤ mtu) (n : Nat) (hn : n ≤ p.opt.size) : Wide mtu.toNat p.opt.size n := by
  have := hv.z
  exact ⟨by omega, by omega⟩
/-- What an answer without an error is. -/
theorem split_zero {p : Pkt} {l : List Int} {mtu : Int} (h : (splitR p l mtu).1 = 0) : Valid p ∧ 20 + p.opt.size + l.length ≤ 65535 ∧ 68 ≤ mtu ∧ ∃ lat : ByteArray, lat.size ≤ p.opt.size ∧ lat.size % 4 = 0 ∧
    (splitR p l mtu).2 = (cuts mtu.toNat p.opt.size lat.size l.length (l.length + 1) 0).map (piece p lat l) ∧ ∀ q ∈ cuts mtu.toNat p.opt.size lat.size l.length (l.length + 1) 0, p.off + q.1 ≤ 65528 := by
  unfold splitR at h ⊢
  by_cases c : p.chk l.length ≠ 0
  · rw [if_pos c] at h
    exact absurd h c
  · rw [if_neg c] at h ⊢
    have c0 : p.chk l.length = 0 := Classical.not_not.1 c
    obtain ⟨hv, hn⟩ := chk_zero c0
    by_cases m : mtu < 68
    · rw [if_pos m] at h
      cases h
    · rw [if_neg m] at h ⊢
      refine ⟨hv, hn, by omega, ?_⟩
      by_cases f : 20 + (p.opt.size : Int) + l.length ≤ mtu
      · rw [if_pos f]
        have e : cuts mtu.toNat p.opt.size (0 : Nat) l.length (l.length + 1) 0 = [(0, l.length)] := by
          have := cuts_one (m := mtu.toNat) (o := p.opt.size) (lat := 0) (n := l.length) (f := l.length) (a := 0) (by unfold room; rw [if_pos rfl]; omega)
          simpa using this
        refine ⟨⟨#[]⟩, Nat.zero_le _, rfl, ?_, fun q hq => ?_⟩
        · show [(p, l)] = (cuts mtu.toNat p.opt.size 0 l.length (l.length + 1) 0).map (piece p ⟨#[]⟩ l)
          rw [e, List.map_cons, List.map_nil, piece_whole]
        · have hq' : q ∈ cuts mtu.toNat p.opt.size 0 l.length (l.length + 1) 0 := hq
          rw [e] at hq'
          obtain rfl := List.mem_singleton.1 hq'
          have := hv.o1
          simpa using this
      · rw [if_neg f] at h ⊢
        by_cases d : p.df = true
        · rw [if_pos d] at h
          cases h
        · rw [if_neg d] at h ⊢
          cases hl : laterL p.opt with
          | none => rw [hl] at h; cases h
          | some t =>
            rw [hl] at h
            obtain ⟨t1, t2, _⟩ := later_small hl hv.z4
            simp only at h ⊢
            by_cases y : (cuts mtu.toNat p.opt.size t.length l.length (l.length + 1) 0).any (fun q => decide (65528 < p.off + q.1)) = true
            · rw [if_pos y] at h
              cases h
            · rw [if_neg y]
              refine ⟨strOfNums t, by rw [str_size]; exact t1, by rw [str_size]; exact t2, by rw [str_size], fun q hq => ?_⟩
              rw [str_size] at hq
              refine Classical.byContradiction fun z => y (List.any_eq_true.2 ⟨q, hq, decide_eq_true (by omega)⟩)
/-- A piece again. -/
theorem split_again {p : Pkt} {l : List Int} {mtu : Int} (h : (splitR p l mtu).1 = 0) {i : Nat} {x : Pkt × List Int} (hx : (splitR p l mtu).2[i]? = some x) : splitR x.1 x.2 mtu = (0, [x]) := by
  obtain ⟨hv, hn, hm, lat, l1, l4, e, off⟩ := split_zero h
  rw [e, List.getElem?_map] at hx
  obtain ⟨q, hq, rfl⟩ := Option.map_eq_some_iff.1 hx
  have hw := wide_of hv hm lat.size l1
  obtain ⟨b, k⟩ := q
  obtain ⟨h1, h2, h3, _, _, h8, _⟩ := cuts_each hw (l.length + 1) 0 (Nat.zero_le _) (by omega) i b k hq
  have hi := room_hi hw b
  have ho := off (b, k) (List.mem_of_getElem? hq)
  simp only at ho
  have zl : ((l.drop b).take k).length = k := by rw [List.length_take, List.length_drop]; omega
  have zo : (if b = 0 then p.opt else lat).size = if b = 0 then p.opt.size else lat.size := by split <;> rfl
  have lo : (if b = 0 then p.opt.size else lat.size) ≤ p.opt.size ∧ (if b = 0 then p.opt.size else lat.size) % 4 = 0 := by
    have := hv.z4
    split
    · exact ⟨Nat.le_refl _, this⟩
    · exact ⟨l1, l4⟩
  have z40 := hv.z
  have V : Valid (piece p lat l (b, k)).1 := by
    have := hv.o0
    have := hv.o8
    exact ⟨hv.t0, hv.t1, hv.l0, hv.l1, hv.p0, hv.p1, hv.i0, hv.i1, show 0 ≤ p.off + (b : Int) by omega, show p.off + (b : Int) ≤ 65528 by omega, show (p.off + (b : Int)) % 8 = 0 by omega, hv.s, hv.d, show (if b = 0 then p.opt else lat).size ≤ 40 by rw [zo]; omega, show (if b = 0 then p.opt else lat).size % 4 = 0 by rw [zo]; exact lo.2⟩
  have c0 : (piece p lat l (b, k)).1.chk (piece p lat l (b, k)).2.length = 0 := chk_ok V (by
    show 20 + (if b = 0 then p.opt else lat).size + ((l.drop b).take k).length ≤ 65535
    rw [zo, zl]
    omega)
  unfold splitR
  rw [if_neg (by rw [c0]; exact fun z => z rfl), if_neg (by omega), if_pos (by
    show 20 + ((if b = 0 then p.opt else lat).size : Int) + (((l.drop b).take k).length : Int) ≤ mtu
    rw [zo, zl]
    omega)]
end Go.Proofs.YtibfdacgdffpiaaDoor.SplM
