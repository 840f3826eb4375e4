/- A policy: which rules may be, which one is found; how it lies in memory. -/
import Derived.Test.YtmomkjgnopcobaaPick3
import Derived.Test.YtmomkjgnopcobaaPick4
import Derived.Test.YtmomkjgnopcobaaDraw
import Derived.Test.YtmomkjgnopcobaaStore2
import Derived.Test.YtmomkjgnopcobaaMapS
import Derived.Test.YtmomkjgnopcobaaPart
import Derived.Test.YtmomkjgnopcobaaQuest
import Derived.Test.YtmomkjgnopcobaaDelR
set_option linter.unusedVariables false
namespace Go.Proofs.Ytmomkjgnopcobaa.SpdD
open Go.RowKit Go.Proofs.Ytmomkjgnopcobaa.Mem Go.Proofs.Ytmomkjgnopcobaa.Blk Go.Proofs.Ytmomkjgnopcobaa.Ahead Go.Proofs.Ytmomkjgnopcobaa.PickD Go.Proofs.Ytmomkjgnopcobaa.PickR1 Go.Proofs.Ytmomkjgnopcobaa.PickR2 Go.Proofs.Ytmomkjgnopcobaa.Pick1 Go.Proofs.Ytmomkjgnopcobaa.Pick2 Go.Proofs.Ytmomkjgnopcobaa.Pick3 Go.Proofs.Ytmomkjgnopcobaa.Pick4 Go.Proofs.Ytmomkjgnopcobaa.Free Go.Proofs.Ytmomkjgnopcobaa.Steps Go.Proofs.Ytmomkjgnopcobaa.Regs Go.Proofs.Ytmomkjgnopcobaa.ArgT Go.Proofs.Ytmomkjgnopcobaa.MapK Go.Proofs.Ytmomkjgnopcobaa.Quest Go.Proofs.Ytmomkjgnopcobaa.RowN

def pkR (r : RuleR) : Pk := ⟨r.x1, r.x2, r.x3, r.x4, r.x5, r.x6, r.x7, r.x8, r.x9⟩
def endsB (r : RuleR) : Bool := if r.x13 then decide (r.x12 = 3) && (decide (r.x14.size = r.x15.size) && isA r.x14) else emp r.x14 && emp r.x15
def mayR (r : RuleR) : Bool := decide (0 ≤ r.x0) && (mayP (pkR r) && ((r.x10 || r.x11) && ((decide (1 ≤ r.x12) && decide (r.x12 ≤ 3)) && endsB r)))
def chkR (r : RuleR) : Int := if mayR r then 0 else 1
def flQ (q : Qu) : Fl := ⟨q.here, q.there, q.pr, q.near, q.far⟩
def apB (r : RuleR) (q : Qu) : Bool := (if q.out then r.x10 else r.x11) && matB (pkR r) (flQ q)
/-- Where the first rule stands that is for a flow. -/
def firstN (rs : List RuleR) (q : Qu) : Option Nat := rs.findIdx? fun r => apB r q
def firstI (rs : List RuleR) (q : Qu) : Int := match firstN rs q with | some i => (i : Int) | none => -1
abbrev QA (q : Qu) : Array Value := #[.string q.here, .string q.there, .int .i64 q.pr, .int .i64 q.near, .int .i64 q.far, .bool q.out]
abbrev RA (r : RuleR) : Array Value := #[.int .i64 r.x0, .string r.x1, .string r.x2, .string r.x3, .string r.x4, .int .i64 r.x5, .int .i64 r.x6, .int .i64 r.x7, .int .i64 r.x8, .int .i64 r.x9, .bool r.x10, .bool r.x11, .int .i64 r.x12, .bool r.x13, .string r.x14, .string r.x15]
theorem ra_cells (r : RuleR) : (RA r).toList = r.cells := rfl
theorem one_ra (r : RuleR) : ∀ v ∈ r.cells, v.oneCell' = true := by simp [RuleR.cells, Value.oneCell']
theorem len_ra (r : RuleR) : r.cells.length = 16 := rfl
theorem all_ra (r : RuleR) : (RA r).all (·.oneCell') = true := by simp [Value.oneCell']
def Ok (r : RuleR) : Prop := r.x1.size ≤ 140737488355328 ∧ r.x2.size ≤ 140737488355328 ∧ r.x3.size ≤ 140737488355328 ∧ r.x4.size ≤ 140737488355328 ∧ r.x14.size ≤ 140737488355328 ∧ r.x15.size ≤ 140737488355328
theorem blk_part {w : World} {g : Nat} {t : TypeId} {cs : Array Value} (h : Blk w g t cs) (k m : Nat) : Part.At w g k ((cs.toList.drop k).take m) := fun j v hv => by
  rw [h.cell]
  rw [List.getElem?_take] at hv
  split at hv
  · rw [List.getElem?_drop] at hv
    simpa using hv
  · cases hv
/-- A store of what lies there already: the world stays. -/
theorem same_one {w : World} {g p : Nat} {t ty : TypeId} {cs : Array Value} {u : Value} (h : Blk w g t cs) (hi : (Try.prog.info? ty).map (·.size) = some 1) (hu : cs[p]? = some u) (h1 : u.oneCell' = true) (hc : u.cells = #[u]) : (storeVar ty ⟨g, p, none⟩ u).run Try.prog w = .ok () w := by
  have hp : p < cs.size := (Array.getElem?_eq_some_iff.1 hu).1
  have e : cs.setIfInBounds p u = cs := by
    apply Array.ext (by simp)
    intro j hj hj'
    rw [Array.getElem_setIfInBounds]
    split
    · rename_i e
      subst e
      exact ((Array.getElem?_eq_some_iff.1 hu).2).symm
    · rfl
  have := Store.run_store_one h hp hi h1 cs e hc
  rwa [setRow_self w g cs t (0, 0) h] at this
theorem set_same {cs : Array Value} {p : Nat} {u : Value} (hu : cs[p]? = some u) : cs.setIfInBounds p u = cs := by
  apply Array.ext (by simp)
  intro j hj hj'
  rw [Array.getElem_setIfInBounds]
  split
  · rename_i e
    subst e
    exact ((Array.getElem?_eq_some_iff.1 hu).2).symm
  · rfl
theorem same_two {w : World} {g p : Nat} {t ty : TypeId} {cs : Array Value} {u v : Value} (h : Blk w g t cs) (hi : (Try.prog.info? ty).map (·.size) = some 2) (hu : cs[p]? = some u) (hv : cs[p + 1]? = some v) (h1 : u.oneCell' = true) (h2 : v.oneCell' = true) : (storeVar ty ⟨g, p, none⟩ (.agg #[u, v])).run Try.prog w = .ok () w := by
  have hp : p + 1 < cs.size := (Array.getElem?_eq_some_iff.1 hv).1
  have := Store.run_store_two h hp hi h1 h2 cs (by rw [set_same hu, set_same hv])
  rwa [setRow_self w g cs t (0, 0) h] at this
theorem st_same {o : Oper} {a : Act} {w : World} {K : Act → World → Prop} {Q : Exit → Act → World → Prop} (ty : TypeId) (x y : Operand) (ho : o.op = .store ty x y) (ad : Addr) (hx : a.eval x = .pointer (some ad)) (v : Value) (hy : a.eval y = v)
    (hr : (storeVar ty ad v).run Try.prog w = .ok () w) (hK : K (a.put o.dst undef) w) : Step Try.prog o a w K Q := by
  constructor
  unfold Oper.wp execOp
  simp only [ho, hx, hy, Instr.storeAt, Instr.sureAddr, Sem.run_bind, Sem.run_pure, Result.andThen_ok, hr]
  exact hK
def evI (i : Int) : Value := .int .i64 i
/-- A policy lies at gs: its rules, and what was found, in blocks that are none of F. -/
structure SpdAt (F : Nat → Prop) (w : World) (gs : Nat) (rs : List RuleR) : Prop where
  ex : ∃ A c gm es, Blk w gs 56 #[.slice A rs.length c, .map (some gm)] ∧ RowAt InsR.RT 16 w A rs.length c (rs.flatMap RuleR.cells) ∧ MapAt ek evI w gm es ∧ (∀ q ∈ es, q.2 = firstI rs q.1) ∧ ¬ F gs ∧ ¬ F gm ∧ ∀ k, own A k → ¬ F k
  ok : ∀ r ∈ rs, Ok r
  few : rs.length ≤ 64
theorem SpdAt.mono {F G : Nat → Prop} {w : World} {gs : Nat} {rs : List RuleR} (h : SpdAt F w gs rs) (hg : ∀ k, k < w.heap.size → G k → F k) : SpdAt G w gs rs := by
  obtain ⟨⟨A, c, gm, es, h1, h2, h3, h4, h5, h6, h7⟩, ok, few⟩ := h
  exact ⟨⟨A, c, gm, es, h1, h2, h3, h4, fun z => h5 (hg _ h1.lt z), fun z => h6 (hg _ h3.lt z), fun k hk z => h7 k hk (hg _ (h2.lt hk) z)⟩, ok, few⟩
theorem SpdAt.below {F : Nat → Prop} {w w' : World} {gs : Nat} {rs : List RuleR} (h : SpdAt F w gs rs) (hb : Below w.heap.size w w') : SpdAt F w' gs rs := by
  obtain ⟨⟨A, c, gm, es, h1, h2, h3, h4, h5, h6, h7⟩, ok, few⟩ := h
  exact ⟨⟨A, c, gm, es, h1.below hb h1.lt, h2.below hb, h3.below hb h3.lt, h4, h5, h6, h7⟩, ok, few⟩
/-- What is new is foreign to it. -/
theorem SpdAt.widen {F : Nat → Prop} {w w' : World} {gs : Nat} {rs : List RuleR} (h : SpdAt F w gs rs) (hb : Below w.heap.size w w') : SpdAt (fun k => F k ∨ w.heap.size ≤ k) w' gs rs := by
  obtain ⟨⟨A, c, gm, es, h1, h2, h3, h4, h5, h6, h7⟩, ok, few⟩ := h
  refine ⟨⟨A, c, gm, es, h1.below hb h1.lt, h2.below hb, h3.below hb h3.lt, h4, ?_, ?_, ?_⟩, ok, few⟩
  · have := h1.lt
    rintro (z | z)
    · exact h5 z
    · omega
  · have := h3.lt
    rintro (z | z)
    · exact h6 z
    · omega
  · intro k hk
    have := h2.lt hk
    rintro (z | z)
    · exact h7 k hk z
    · omega
theorem SpdAt.lt {F : Nat → Prop} {w : World} {gs : Nat} {rs : List RuleR} (h : SpdAt F w gs rs) : gs < w.heap.size := by
  obtain ⟨⟨A, c, gm, es, h1, _⟩, _⟩ := h
  exact h1.lt
theorem ent_clone : Enters Try.prog 30 := enters_of Try.func30 (by kernel_rfl) rfl
end Go.Proofs.Ytmomkjgnopcobaa.SpdD
