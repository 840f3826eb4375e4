/- What a joiner answers: plain. No program is named. -/
import Derived.Test.YtnpggkpcadefjaaDoorM16
set_option linter.unusedVariables false
namespace Go.Proofs.YtnpggkpcadefjaaDoor.JoiM
open Go.RowKit Go.Proofs.YtnpggkpcadefjaaDoor.Sums Go.Proofs.YtnpggkpcadefjaaDoor.Mem Go.Proofs.YtnpggkpcadefjaaDoor.Pkt

/-- A piece, with its bytes; a packet that waits: when its first piece came, and its pieces; all that wait. -/
abbrev Frag := Pkt × List Int
abbrev Ent := Int × List Frag
abbrev JSt := List Ent
def endF (x : Frag) : Int := x.1.off + (x.2.length : Int)
/-- Are they pieces of one packet? -/
def keyB (a b : Pkt) : Bool := decide (a.src = b.src) && (decide (a.dst = b.dst) && (decide (a.proto = b.proto) && decide (a.id = b.id)))
/-- May two pieces not be of one packet? -/
def badB (a b : Frag) : Bool := if a.1.off < endF b ∧ b.1.off < endF a then true else if a.1.mf = false ∧ b.1.mf = false then decide (endF a ≠ endF b) else (!a.1.mf && decide (endF a < endF b)) || (!b.1.mf && decide (endF b < endF a))
/-- The same piece again. -/
def twinB (a b : Frag) : Bool := decide (a.1.off = b.1.off) && (decide (a.1.mf = b.1.mf) && decide (a.2 = b.2))
/-- The piece that goes on at n. -/
def nextF (l : List Frag) (n : Nat) : Option Frag := l.find? fun x => decide (x.1.off = (n : Int)) && decide (0 < x.2.length)
def stepF (l : List Frag) (o : List Int) : List Int := match nextF l o.length with
  | some x => o ++ x.2
  | none => o
def growF (l : List Frag) : Nat → List Int → List Int
  | 0, o => o
  | k + 1, o => growF l k (stepF l o)
def lastF (l : List Frag) : Option Frag := l.find? fun x => !x.1.mf
/-- The bytes of all pieces, if they are all. -/
def wholeF (l : List Frag) : Option (List Int) := match lastF l with
  | none => none
  | some x => if endF x = ((growF l (l.length + 1) []).length : Int) then some (growF l (l.length + 1) []) else none
/-- Does this one wait for pieces of a packet? -/
def isOf (p : Pkt) (e : Ent) : Bool := match e.2 with
  | y :: _ => keyB y.1 p
  | [] => false
/-- Where a piece's packet waits. -/
def atJ (s : JSt) (p : Pkt) : Option Nat := s.findIdx? (isOf p)
def headF (l : List Frag) : Option Frag := l.find? fun x => decide (x.1.off = 0) && decide (0 < x.2.length)
/-- Behind a new piece: is the packet at i whole? -/
def finJ (s : JSt) (i : Nat) (l : List Frag) : (Option Frag × Int) × JSt := match wholeF l with
  | none => ((none, 0), s)
  | some b => match headF l with
    | none => ((none, 4), s.eraseIdx i)
    | some y => if ({ y.1 with mf := false } : Pkt).chk b.length ≠ 0 then ((none, 2), s.eraseIdx i) else ((some ({ y.1 with mf := false }, b), 0), s.eraseIdx i)
def putJ (now : Int) (x : Frag) (s : JSt) : (Option Frag × Int) × JSt :=
  if x.1.chk x.2.length ≠ 0 then ((none, x.1.chk x.2.length), s)
  else if x.1.off = 0 ∧ x.1.mf = false then ((some x, 0), s)
  else if x.1.mf = true ∧ (x.2.length = 0 ∨ x.2.length % 8 ≠ 0) then ((none, 4), s)
  else if 65515 < endF x then ((none, 2), s)
  else match atJ s x.1 with
    | none => if 16 ≤ s.length then ((none, 7), s) else finJ (s ++ [(now, [x])]) s.length [x]
    | some i => match s[i]? with
      | none => ((none, 0), s)
      | some e => if e.2.any (twinB · x) = true then ((none, 0), s) else if 64 ≤ e.2.length then ((none, 7), s) else if e.2.any (badB · x) = true then ((none, 4), s.eraseIdx i)
        else finJ (s.set i (e.1, e.2 ++ [x])) i (e.2 ++ [x])
/-- The answer's fields: of no packet, the zero packet's. -/
def ansP (r : Option Frag × Int) : Frag := match r.1 with
  | some x => x
  | none => (Pkt.zero, [])
def ansB (r : Option Frag × Int) : Bool := r.1.isSome
def oldB (now : Int) (e : Ent) : Bool := decide (60 ≤ now - e.1)
def tickJ (now : Int) (s : JSt) : List Frag × JSt := (s.flatMap fun e => if oldB now e = true then e.2.filter (fun x => decide (x.1.off = 0)) else [], s.filter fun e => !oldB now e)
/-- What always holds of what waits. -/
structure GoodE (e : Ent) : Prop where
  some : e.2 ≠ []
  few : e.2.length ≤ 64
  ok : ∀ x ∈ e.2, Valid x.1 ∧ 20 + x.1.opt.size + x.2.length ≤ 65535 ∧ Bytes x.2 ∧ endF x ≤ 65515 ∧ (x.1.mf = true → 0 < x.2.length ∧ x.2.length % 8 = 0) ∧ (x.1.off = 0 → x.1.mf = true)
  now : -1099511627776 ≤ e.1 ∧ e.1 ≤ 1099511627776
structure GoodJ (s : JSt) : Prop where
  ent : ∀ e ∈ s, GoodE e
  few : s.length ≤ 16
theorem good_nil : GoodJ [] := ⟨fun e h => (by cases h), Nat.zero_le _⟩
theorem good_erase {s : JSt} (h : GoodJ s) (i : Nat) : GoodJ (s.eraseIdx i) := ⟨fun e he => h.ent e (List.mem_of_mem_eraseIdx he), Nat.le_trans (List.length_eraseIdx_le s i) h.few⟩
theorem good_fin {s : JSt} (h : GoodJ s) (i : Nat) (l : List Frag) : GoodJ (finJ s i l).2 := by
  unfold finJ
  split
  · exact h
  · split
    · exact good_erase h i
    · split
      · exact good_erase h i
      · exact good_erase h i
theorem good_put {now : Int} {x : Frag} {s : JSt} (h : GoodJ s) (hb : Bytes x.2) (h0 : -1099511627776 ≤ now) (h1 : now ≤ 1099511627776) : GoodJ (putJ now x s).2 := by
  unfold putJ
  by_cases c : x.1.chk x.2.length ≠ 0
  · rw [if_pos c]; exact h
  rw [if_neg c]
  by_cases q1 : x.1.off = 0 ∧ x.1.mf = false
  · rw [if_pos q1]; exact h
  rw [if_neg q1]
  by_cases q2 : x.1.mf = true ∧ (x.2.length = 0 ∨ x.2.length % 8 ≠ 0)
  · rw [if_pos q2]; exact h
  rw [if_neg q2]
  by_cases q3 : 65515 < endF x
  · rw [if_pos q3]; exact h
  rw [if_neg q3]
  have ok : Valid x.1 ∧ 20 + x.1.opt.size + x.2.length ≤ 65535 ∧ Bytes x.2 ∧ endF x ≤ 65515 ∧ (x.1.mf = true → 0 < x.2.length ∧ x.2.length % 8 = 0) ∧ (x.1.off = 0 → x.1.mf = true) := by
    have c0 : x.1.chk x.2.length = 0 := Classical.not_not.1 c
    have V : Valid x.1 ∧ 20 + x.1.opt.size + x.2.length ≤ 65535 := by
      unfold Pkt.chk at c0
      split at c0
      · rename_i o
        split at c0
        · cases c0
        · exact ⟨Pkt.ok_valid o, by omega⟩
      · cases c0
    refine ⟨V.1, V.2, hb, by omega, fun m => ?_, fun o => ?_⟩
    · have : ¬ (x.2.length = 0 ∨ x.2.length % 8 ≠ 0) := fun z => q2 ⟨m, z⟩
      omega
    · cases m : x.1.mf with
      | true => rfl
      | false => exact absurd ⟨o, m⟩ q1
  cases ha : atJ s x.1 with
  | none =>
    dsimp only
    by_cases q4 : 16 ≤ s.length
    · rw [if_pos q4]; exact h
    · rw [if_neg q4]
      refine good_fin ⟨fun e he => ?_, by rw [List.length_append]; simp; omega⟩ _ _
      rcases List.mem_append.1 he with he | he
      · exact h.ent e he
      · obtain rfl := List.mem_singleton.1 he
        exact ⟨by simp, by simp, fun y hy => by obtain rfl := List.mem_singleton.1 hy; exact ok, h0, h1⟩
  | some i =>
    dsimp only
    cases hi : s[i]? with
    | none => exact h
    | some e =>
      dsimp only
      have G := h.ent e (List.mem_of_getElem? hi)
      by_cases q4 : e.2.any (twinB · x) = true
      · rw [if_pos q4]; exact h
      rw [if_neg q4]
      by_cases q5 : 64 ≤ e.2.length
      · rw [if_pos q5]; exact h
      rw [if_neg q5]
      by_cases q6 : e.2.any (badB · x) = true
      · rw [if_pos q6]; exact good_erase h i
      rw [if_neg q6]
      refine good_fin ⟨fun e' he => ?_, by rw [List.length_set]; exact h.few⟩ _ _
      rcases List.mem_or_eq_of_mem_set he with he | rfl
      · exact h.ent e' he
      · refine ⟨by simp, by simp; omega, fun y hy => ?_, G.now⟩
        rcases List.mem_append.1 hy with hy | hy
        · exact G.ok y hy
        · obtain rfl := List.mem_singleton.1 hy
          exact ok
theorem good_tick {s : JSt} (h : GoodJ s) (now : Int) : GoodJ (tickJ now s).2 := ⟨fun e he => h.ent e (List.mem_filter.1 he).1, Nat.le_trans (List.length_filter_le _ _) h.few⟩
end Go.Proofs.YtnpggkpcadefjaaDoor.JoiM
