/- The cache of paths, and the sizes of packets, plain. No function is named. -/
import Derived.Test.YtjeenmeoiidmnaaDoorMapK
set_option linter.unusedVariables false
namespace Go.Proofs.YtjeenmeoiidmnaaDoor.PmtM
open Go.Proofs.YtjeenmeoiidmnaaDoor.MapK

/-- An entry: a path, what it bears, when that was told. -/
abbrev Ent : Type := ByteArray × (Int × Int)
def least (d : ByteArray) : Option Int := if d.size = 4 then some 576 else if d.size = 16 then some 1280 else none
def freshB (now : Int) (e : Int × Int) : Bool := decide (now - e.2 < 600)
/-- What is known of a path. -/
def known (now : Int) (d : ByteArray) (es : List Ent) : Option Int := match MapK.get d es with
  | some e => if freshB now e = true then some e.1 else none
  | none => none
def room (d : ByteArray) (es : List Ent) : Bool := (MapK.get d es).isSome || decide (es.length < 64)
/-- WHAT TELL ANSWERS, and what is kept behind it. -/
def tellA (now : Int) (d : ByteArray) (n : Int) (es : List Ent) : Int × Int := match least d with
  | none => (0, 1)
  | some l => match known now d es with
    | some k => if k ≤ max n l then (k, 0) else if room d es = true then (max n l, 0) else (0, 7)
    | none => if room d es = true then (max n l, 0) else (0, 7)
def tellL (now : Int) (d : ByteArray) (n : Int) (es : List Ent) : List Ent := match least d with
  | none => es
  | some l => match known now d es with
    | some k => if k ≤ max n l then es else if room d es = true then put d (max n l, now) es else es
    | none => if room d es = true then put d (max n l, now) es else es
/-- WHAT GET ANSWERS. -/
def askA (now : Int) (d : ByteArray) (link : Int) (es : List Ent) : Int × Int := match least d with
  | none => (0, 1)
  | some _ => match known now d es with
    | some k => (min link k, 0)
    | none => (link, 0)
/-- What holds of all entries. -/
structure Good (es : List Ent) : Prop where
  at_ : ∀ q ∈ es, -2000000000 ≤ q.2.2 ∧ q.2.2 ≤ 2000000000
  len : es.length ≤ 64
theorem Good.nil : Good [] := ⟨fun q h => absurd h (by simp), by simp⟩
theorem put_len {d : ByteArray} {v : Int × Int} {es : List Ent} : (put d v es).length = if (MapK.get d es).isSome = true then es.length else es.length + 1 := by
  unfold put MapK.get
  cases at_ d es 0 with
  | none => simp
  | some q => simp
theorem get_put (d d' : ByteArray) (v : Int × Int) : ∀ (es : List Ent), MapK.get d (put d' v es) = if d = d' then some v else MapK.get d es := by
  have step : ∀ (es : List Ent) (i : Nat), (at_ d (put d' v es) i).map (·.2) = if d = d' then some v else (at_ d es i).map (·.2) := by
    intro es
    induction es with
    | nil =>
      intro i
      have pe : put d' v ([] : List Ent) = [(d', v)] := rfl
      rw [pe]
      unfold at_
      by_cases c : d = d'
      · rw [if_pos c, if_pos c]; rfl
      · rw [if_neg c, if_neg c]; rfl
    | cons q r ih =>
      intro i
      by_cases c : d' = q.1
      · have e1 : at_ d' (q :: r) 0 = some (0, q.2) := by unfold at_; rw [if_pos c]
        have pe : put d' v (q :: r) = (d', v) :: r := by unfold put; rw [e1]; rfl
        rw [pe]
        by_cases c2 : d = d'
        · rw [if_pos c2]
          unfold at_
          rw [if_pos c2]
          rfl
        · rw [if_neg c2]
          have c3 : d ≠ q.1 := fun z => c2 (z.trans c.symm)
          conv => lhs; unfold at_
          conv => rhs; unfold at_
          rw [if_neg c2, if_neg c3]
      · have e1 : at_ d' (q :: r) 0 = (at_ d' r 0).map fun z => (z.1 + 1, z.2) := by
          have sh : ∀ (l : List Ent) (i : Nat), at_ d' l (i + 1) = (at_ d' l i).map fun z => (z.1 + 1, z.2) := by
            intro l
            induction l with
            | nil => intro i; rfl
            | cons z l ih2 =>
              intro i
              unfold at_
              by_cases c4 : d' = z.1
              · rw [if_pos c4, if_pos c4]; rfl
              · rw [if_neg c4, if_neg c4]; exact ih2 (i + 1)
          conv => lhs; unfold at_
          rw [if_neg c]
          exact sh r 0
        have ih' := ih (i + 1)
        have pe : put d' v (q :: r) = q :: put d' v r := by
          unfold put
          rw [e1]
          cases hz : at_ d' r 0 with
          | none => rfl
          | some u => rfl
        rw [pe]
        by_cases c2 : d = q.1
        · have c3 : d ≠ d' := fun z => c (z.symm.trans c2)
          rw [if_neg c3]
          conv => lhs; unfold at_
          conv => rhs; unfold at_
          rw [if_pos c2, if_pos c2]
        · conv => lhs; unfold at_
          conv => rhs; rhs; unfold at_
          rw [if_neg c2, if_neg c2]
          exact ih'
  intro es
  exact step es 0
theorem good_tell {now : Int} {d : ByteArray} {n : Int} {es : List Ent} (h : Good es) (h1 : -2000000000 ≤ now) (h2 : now ≤ 2000000000) : Good (tellL now d n es) := by
  have hp : ∀ l : Int, room d es = true → Good (put d (max n l, now) es) := fun l hr => by
    refine ⟨put_all (Q := fun _ (v : Int × Int) => -2000000000 ≤ v.2 ∧ v.2 ≤ 2000000000) h.at_ ⟨h1, h2⟩, ?_⟩
    rw [put_len]
    unfold room at hr
    have := h.len
    split
    · exact this
    · rename_i q
      simp only [q, Bool.false_or, decide_eq_true_eq] at hr
      omega
  unfold tellL
  split
  · exact h
  · split
    · split
      · exact h
      · split
        · exact hp _ ‹_›
        · exact h
    · split
      · exact hp _ ‹_›
      · exact h
/-- What a packet of n bytes grows to. -/
def plain (n : Int) : Int := 32 + 4 * ((n + 5) / 4)
def headI (wide : Bool) : Int := if wide = true then 40 else 20
def lengthI (n : Int) : Int := if n < 0 then 0 else plain n
def outer (n : Int) (wide : Bool) : Int := if n < 0 then 0 else headI wide + plain n
/-- The greatest number that goes through; -1: none. -/
def top (mtu : Int) (wide : Bool) : Int := let q := (mtu - headI wide - 32) / 4; if 1 ≤ q then 4 * q - 2 else -1
def inner (mtu : Int) (wide tunnel : Bool) : Int := if top mtu wide < 0 then 0 else if tunnel = true then top mtu wide else top mtu wide + headI wide
theorem outer_fits {n mtu : Int} {wide : Bool} (hn : 0 ≤ n) : outer n wide ≤ mtu ↔ n ≤ top mtu wide := by
  unfold outer top plain headI
  rw [if_neg (by omega)]
  cases wide <;> simp only [Bool.false_eq_true, if_false, if_true] <;> split <;> omega
theorem top_lt {mtu : Int} {wide : Bool} (h : 0 < mtu) : top mtu wide < mtu := by
  unfold top headI
  cases wide <;> simp only [Bool.false_eq_true, if_false, if_true] <;> split <;> omega
theorem top_ge {mtu : Int} {wide : Bool} : -1 ≤ top mtu wide := by
  unfold top
  simp only
  split <;> omega
theorem top_neg {mtu : Int} {wide : Bool} (h : mtu ≤ 0) : top mtu wide = -1 := by
  unfold top headI
  cases wide <;> simp only [Bool.false_eq_true, if_false, if_true] <;> split <;> omega
end Go.Proofs.YtjeenmeoiidmnaaDoor.PmtM
