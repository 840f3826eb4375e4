/- The contract of the code's Counter, where it answers. -/
import Derived.Test.YtdnkbefpbehllaaDoorM18
import Derived.RangeFuncWrites
import Derived.RangeFuncLeaves
import Derived.RangeFuncBox
import Derived.RangeFuncCalls
import Derived.Shelf.Abstract
import Derived.Shelf.RegionOpen
import Derived.WalkKit
import Derived.OwnWalkIn
import Derived.TacticsInMore
import Derived.LoopNIn
import Derived.LoopIn
import Derived.BigFrameIn
set_option linter.unusedVariables false
namespace Go.Proofs.YtdnkbefpbehllaaDoor.Ctr2
open Go.RowKit Go.PlainAid Go.Proofs.YtdnkbefpbehllaaDoor.Sums Go.Proofs.YtdnkbefpbehllaaDoor.Mem Go.Proofs.YtdnkbefpbehllaaDoor.Blk Go.Proofs.YtdnkbefpbehllaaDoor.Bits3 Go.Proofs.YtdnkbefpbehllaaDoor.Ints Go.Proofs.YtdnkbefpbehllaaDoor.CtrD Go.Proofs.YtdnkbefpbehllaaDoor.AesB Go.Proofs.YtdnkbefpbehllaaDoor.AesK Go.Proofs.YtdnkbefpbehllaaDoor.AesR3 Go.Proofs.YtdnkbefpbehllaaDoor.Ctr1

theorem make_cap (n : Nat) (hn : n ≤ 1048576) (w : World) :
    (Instr.makeSlice 25 (.int .i64 0) (.int .i64 (n : Int))).run Tryd.prog w = .ok (.slice (some ⟨w.heap.size, 0, none⟩) 0 n) (w.alloc (.cells (bcells (List.replicate n 0)) 5)) := by
  obtain ⟨i, hi, hz, hsz, hby⟩ := info_parts byte_info
  have hr := run_make (P := Tryd.prog) w 25 5 i (.int .u8 0) Tryd.underlying25 hi hz .i64 .i64 0 (n : Int) (by omega) (by omega) (by rw [hby]; omega) (by omega)
  rw [Int.toNat_natCast, hsz, Nat.mul_one] at hr
  rw [← made_b]
  exact hr
theorem owns_cap (w : World) (base n : Nat) (hb : base ≤ w.heap.size) (hn : n ≤ 1048576) : Owns (w.alloc (.cells (bcells (List.replicate n 0)) 5)) base (.slice (some ⟨w.heap.size, 0, none⟩) 0 n) 0 [] :=
  ⟨rfl, fun _ h => (by cases h), .inr ⟨w.heap.size, n, bcells (List.replicate n 0), (0, 0), rfl, hb, heap_alloc_new w _, .inl rfl, Nat.zero_le _, by simp only [maxLen]; omega, by simp [bcells], by simp⟩⟩
theorem shr_byte (n k : Nat) : (IntKind.u8.wrap ((n : Int) / (2 ^ k : Nat))) = ((n / 2 ^ k % 256 : Nat) : Int) := by
  rw [IntKind.wrap_u8]
  omega

set_option maxHeartbeats 1000000 in
theorem counter_ok (As Av : Option Addr) (cs cv : Nat) (sa iv : List Int) (n : Nat) (w : World) (B : Nat) (hs : Holds w B As 4 cs sa) (hv : Holds w B Av 8 cv iv) (hB : B ≤ w.heap.size) (h1 : 1 ≤ n) (h2 : n ≤ 4294967295) :
    Calls Tryd.prog 57 #[.slice As 4 cs, .slice Av 8 cv, .int .i64 (n : Int)] w fun e w' => ∃ A c, e = .returned (.tuple #[.slice A 16 c, .int .i64 0]) ∧ Holds w' w'.heap.size A 16 c (ints (cnt (nats sa) (nats iv) n)) ∧ Below w.heap.size w w' := by
  have g1 : decide ((n : Int) < 1) = false := decide_eq_false (by omega)
  have g2 : decide ((4294967295 : Int) < (n : Int)) = false := decide_eq_false (by omega)
  have mk : (Instr.makeSlice 25 (.int .i64 0) (.int .i64 16)).run Tryd.prog w = .ok (.slice (some ⟨w.heap.size, 0, none⟩) 0 16) (w.alloc (.cells (bcells (List.replicate 16 0)) 5)) := make_cap 16 (by decide) w
  have O0 := Lib.hid (owns_cap w w.heap.size 16 (Nat.le_refl _) (by decide))
  obtain ⟨Z, hZ⟩ : ∃ Z, Z = List.replicate 16 0 := ⟨_, rfl⟩
  rw [← hZ] at mk O0
  have B0 := Lib.hid ((Below.refl w.heap.size w).alloc (Nat.le_refl _) (.cells (bcells Z) 5))
  have LB : Hid (Bytes [(n : Int) / 16777216, (n : Int) / 65536 % 256, (n : Int) / 256 % 256, (n : Int) % 256]) := Lib.hid fun z hz => by simp at hz; omega
  have E : Hid ((([] ++ sa) ++ iv) ++ [(n : Int) / 16777216, (n : Int) / 65536 % 256, (n : Int) / 256 % 256, (n : Int) % 256] = ints (cnt (nats sa) (nats iv) n)) := Lib.hid (by
    have F : [(n : Int) / 16777216, (n : Int) / 65536 % 256, (n : Int) / 256 % 256, (n : Int) % 256] = ints (four n) := by simp [ints, four]; omega
    rw [F, cnt, ints_app, ints_app, ints_nats (fun z hz => hs.2.2.2.1 z hz), ints_nats (fun z hz => hv.2.2.2.1 z hz)]; simp)
  have HS := Lib.hid hs
  have HV := Lib.hid hv
  clear hs hv hZ
  go_enter Tryd.func57, Tryd.ntmps57
  go_wp2_with (first
    | (at_builtin
       refine wpList_append_bytes rfl (.tmp 26) (.tmp 27) rfl w.heap.size _ 0 [] rfl O0.out B As 4 cs sa rfl (HS.out.below (B0.out.mono hB)) (by omega) B0.out.size ?_
       intro v1 w1 o1 q1 _
       have b1 := Lib.hid (B0.out.grown q1 B0.out.size fun k hk => (O0.out.lt k hk).1))
    | (at_builtin
       refine wpList_append_bytes rfl (.tmp 29) (.tmp 30) rfl w.heap.size v1 _ _ rfl o1 B Av 8 cv iv rfl (HV.out.below (b1.out.mono hB)) (by omega) b1.out.size ?_
       intro v2 w2 o2 q2 _
       have b2 := Lib.hid (b1.out.grown q2 b1.out.size fun k hk => (o1.lt k hk).1))
    | (at_builtin
       refine wpList_append_bytes rfl (.tmp 32) (.tmp 44) rfl w.heap.size v2 _ _ rfl (o2.alloc _) _ _ 4 4 [(n : Int) / 16777216, (n : Int) / 65536 % 256, (n : Int) / 256 % 256, (n : Int) % 256] rfl (Holds.lit w2 [(n : Int) / 16777216, (n : Int) / 65536 % 256, (n : Int) / 256 % 256, (n : Int) % 256] _ rfl (by simp [maxLen]) LB.out) (by omega) (by have := b2.out.size; simp; omega) ?_
       intro v3 w3 o3 q3 _
       have b3 := Lib.hid ((b2.out.alloc b2.out.size _).grown q3 (by have := b2.out.size; simp; omega) fun k hk => (o2.lt k hk).1)
       obtain ⟨A, c, rfl, hh⟩ := o3.slice
       rw [E.out] at hh
       have HH := Lib.hid hh))
  go_ret2
  exact ⟨A, c, rfl, HH.out, b3.out⟩
end Go.Proofs.YtdnkbefpbehllaaDoor.Ctr2

/- A range over a function whose elements lie in memory, and whose body goes through to its end in every round: the iterator tells, with each element that it hands on, what holds of it in the world of that round ('Pr'). No program is named. My own law; the library's have no place for such a word. -/
set_option linter.unusedVariables false
namespace Go.Proofs.YtdnkbefpbehllaaDoor.Yield
open Go.RowKit Go
variable {n : Nat} {P : Program} {α : Type}

/-- What an iterator promises: for whatever J its rounds carry on. -/
def SeqTold (n : Nat) (P : Program) (g : Nat) (lb : Array Value) (enc : α → Value) (Pr : List α → α → World → Prop) (Kp : World → World → Prop) (S : List α → Prop) (w : World) : Prop :=
  ∀ (l : Nat) (J : List α → World → Prop) (W : World), Below w.heap.size w W → AbidesFrom W.heap.size J →
    (∀ pre x V, J pre V → Pr pre x V → YieldAt Fence.wide (n - 1) P l #[enc x] V fun e V' => e = .returned (.bool true) ∧ J (pre ++ [x]) V' ∧ Kp V V') →
    J [] W → CallsIn Fence.wide n P g (#[.func (.yield l) #[] #[]] ++ lb) W fun e W' => ∃ v xs, e = .returned v ∧ S xs ∧ J xs W'

/-- The two blocks that the loop lays for itself: its record at d + 1, the rounds' deferred calls at d. -/
structure Book (d : Nat) (L : Loop) (W : World) : Prop where
  loop : W.heap[d + 1]? = some (.loop L)
  dfr : W.heap[d]? = some (.deferred (some []))
theorem Book.lt {d : Nat} {L : Loop} {W : World} (h : Book d L W) : d + 1 < W.heap.size := (Array.getElem?_eq_some_iff.1 h.loop).1
theorem Book.put {d : Nat} {L : Loop} {W : World} (h : Book d L W) (L' : Loop) : Book d L' (W.putObj (d + 1) (.loop L')) :=
  ⟨World.putObj_heap_same h.lt, (World.putObj_heap_other (by omega)).trans h.dfr⟩
theorem Book.kept {d : Nat} {L : Loop} {V W : World} (h : Book d L V) (k : KeepsFrom d V W) : Book d L W :=
  ⟨k.same _ _ (by omega) h.loop rfl, k.same _ _ (Nat.le_refl _) h.dfr rfl⟩

theorem wpIn_rangeFunc_told {g : Operand} {ps : Array Tmp} {assign body : Code} {Q : Exit → Act → World → Prop} {a : Act} {w : World} {gf : Nat} {lb : Array Value} {enc : α → Value} {Pr : List α → α → World → Prop} {Kp : World → World → Prop} {S : List α → Prop} {w0 : World}
    (h1 : 1 ≤ n) (hg : a.eval g = .func (.func gf) #[] lb) (eg : ∀ args w, (callFunc gf args).run P w = .ok (.enter gf args) w)
    (seq : SeqTold (n - 1) P gf lb enc Pr Kp S w0) (hb0 : Below w0.heap.size w0 w) (hps : ps.size = 1)
    (prK : ∀ (pre : List α) (x : α) (W : World) (l : Nat) (o o' : Obj), w.heap.size ≤ l → W.heap[l]? = some o → o.isCells = false → Pr pre x W → Pr pre x (W.putObj l o'))
    (kpT : ∀ {A B C : World}, Kp A B → Kp B C → Kp A C) (kpB : ∀ (W : World) (l : Nat) (o o' : Obj), w.heap.size ≤ l → W.heap[l]? = some o → Kp W (W.putObj l o'))
    (I : List α → World → Prop) (hI : OwnFrom w.heap.size I) (h0 : I [] w) (a₁ : α → Act)
    (hassign : ∀ (l : Nat) (x : α) (W : World) (K : Act → World → Prop), K (a₁ x) W →
      assign.wpIn (Fence.wide.inRound l) (n - 1 - 1) P (Exit.then K (fun _ _ _ => False)) { tmps := (ps.zip #[enc x]).foldl (fun t (p, v) => t.setIfInBounds p v) a.tmps, defers := [] } W)
    (hbody : ∀ (l : Nat) (pre : List α) (x : α) (W : World), I pre W → Pr pre x W →
      body.wpIn (Fence.wide.inRound l) (n - 1 - 1) P (fun e _ W' => e = .normal ∧ KeepsFrom w.heap.size W W' ∧ Kp W W' ∧ I (pre ++ [x]) W') (a₁ x) W)
    (hdone : ∀ (D : Nat) (xs : List α) (W : World), w.heap.size ≤ D → S xs → I xs W → W.heap[D]? = some (.deferred (some [])) → Q .normal { a with defers := { target := .collected D, args := #[] } :: a.defers } W) :
    (Code.rangeFunc g ps assign body).wpIn Fence.wide n P Q a w := by
  refine wpIn_rangeFunc fun fn hfn => ?_
  rw [show Fence.wide.round = none from rfl]
  obtain ⟨d, hd⟩ : ∃ d, d = w.heap.size := ⟨_, rfl⟩
  obtain ⟨L, hL⟩ : ∃ L : LoopState → Loop, L = fun st => { state := st, pending := none, fn, tmps := a.tmps, params := ps, assign, body, defers := w.heap.size } := ⟨_, rfl⟩
  obtain ⟨V, hV⟩ : ∃ V, (w.alloc (.deferred (some []))).alloc (.loop (L .ready)) = V := ⟨_, rfl⟩
  have bV : Book d (L .ready) V := by
    subst hd hV
    exact ⟨by simpa using World.alloc_heap_new (w.alloc (.deferred (some []))) (.loop (L .ready)), (Below.heap_alloc _ _ _ (by simp)).trans (World.alloc_heap_new w _)⟩
  have iV : I [] V := by rw [← hV]; exact hI.alloc _ (hI.alloc _ h0)
  have gV : Below w0.heap.size w0 V := by
    rw [← hV]; exact hb0.trans ((((Below.refl _ w).alloc (Nat.le_refl _) _).alloc (by simp) _).mono hb0.size)
  have sV : V.heap.size = d + 2 := by rw [← hV, hd]; simp
  refine ⟨d + 1, [{ target := .collected d, args := #[] }], V, { target := .fn (.func gf) lb, args := #[.func (.yield (d + 1)) #[] #[]] }, V, gf, #[.func (.yield (d + 1)) #[] #[]] ++ lb, V, ?_, ?_, ?_, ?_, fun _ => h1, ?_⟩
  · rw [← hV, hL, hd]; exact run_enterLoop_outer _ _ _ _ _
  · simp only [resolve, hg]
    simp [go_sem]
  · intro f hf
    simp [Target.leads] at hf
    subst hf
    trivial
  · simp [invoke, go_sem, eg]
  have far : ∀ {A B : World} {row : Option Nat}, (∀ r, row = some r → V.heap.size ≤ r ∧ ∃ o : Obj, A.heap[r]? = some o ∧ o.isWalk = true) → ∀ r, row = some r → w.heap.size ≤ r ∧ ∃ o : Obj, A.heap[r]? = some o ∧ o.isCells = false := fun {A B row} hr r e => by
    obtain ⟨hB, o, ho, hw⟩ := hr r e
    exact ⟨by omega, o, ho, Obj.not_cells_of_walk hw⟩
  refine (seq (d + 1) (fun pre W => I pre W ∧ Book d (L .ready) W) V gV ?_ ?_ ⟨iV, bV⟩).mono ?_
  · rintro s A B row ⟨hi, hb⟩ hg' hr
    have keep : ∀ {k : Nat} {o : Obj}, A.heap[k]? = some o → o.isWalk = false → B.heap[k]? = some o := fun ho hw => (grownBy_keeps hg' (fun r e => (hr r e).2) ho hw).trans ho
    exact ⟨hI s A B row hi hg' (far (B := B) hr), keep hb.loop rfl, keep hb.dfr rfl⟩
  · rintro pre x W ⟨hi, hb⟩ hp
    have hy := run_yield (P := P) (args := #[enc x]) hb.loop (by rw [hL]; exact hps.symm)
    have hl := hb.loop
    have hf : (L .ready).fn = fn := by rw [hL]
    have ht : (L .ready).tmps = a.tmps := by rw [hL]
    have hq : (L .ready).params = ps := by rw [hL]
    have ha : (L .ready).assign = assign := by rw [hL]
    have hc : (L .ready).body = body := by rw [hL]
    have hbz : { L .ready with state := .busy } = L .busy := by rw [hL]
    rw [hf, ht, hq, ha, hc] at hy
    have rb := run_beginRound (P := P) hl (by rw [hL])
    rw [hbz] at rb
    refine ⟨fn, _, assign, body, hy, roundIn_of_wpIn hfn (hassign _ x W _ ⟨_, rb, ?_⟩)⟩
    have b2 := hb.put (L .busy)
    refine wpIn_mono (hbody _ pre x _ (hI.putObj _ hi (by omega) hl rfl) (prK _ _ _ _ _ _ (by omega) hl rfl hp)) ?_
    rintro e a3 U ⟨rfl, hk, hkp, hiU⟩
    have b3 := b2.kept (by rw [← hd] at hk; exact hk)
    have hbk : { L .busy with state := .ready } = L .ready := by rw [hL]
    have re := run_endRound (P := P) none b3.loop
    have hp0 : ({ L .busy with state := (if (none : Option Code).isNone then .ready else .done), pending := none } : Loop) = L .ready := by rw [hL]; rfl
    rw [hp0] at re
    exact ⟨_, _, re, rfl, ⟨hI.putObj _ hiU (by omega) b3.loop rfl, b3.put _⟩, kpT (kpT (kpB _ _ _ _ (by omega) hl) hkp) (kpB _ _ _ _ (by omega) b3.loop)⟩
  · rintro e U ⟨v, xs, rfl, hS, hi, hb⟩
    have re := run_endLoop (P := P) hb.loop (by rw [hL]; simp)
    rw [show (L .ready).pending = none by rw [hL]] at re
    exact ⟨none, _, re, hdone _ xs _ (by omega) hS (hI.putObj _ hi (by omega) hb.loop rfl) ((World.putObj_heap_other (by omega)).trans hb.dfr)⟩
end Go.Proofs.YtdnkbefpbehllaaDoor.Yield

/- The contracts of examine and of the blocks of a stream. -/
set_option linter.unusedVariables false
namespace Go.Proofs.YtdnkbefpbehllaaDoor.Ctr3
open Go.RowKit Go.PlainAid Go.Proofs.YtdnkbefpbehllaaDoor.Sums Go.Proofs.YtdnkbefpbehllaaDoor.Mem Go.Proofs.YtdnkbefpbehllaaDoor.Blk Go.Proofs.YtdnkbefpbehllaaDoor.Bits3 Go.Proofs.YtdnkbefpbehllaaDoor.Ints Go.Proofs.YtdnkbefpbehllaaDoor.CtrD Go.Proofs.YtdnkbefpbehllaaDoor.AesB Go.Proofs.YtdnkbefpbehllaaDoor.AesK Go.Proofs.YtdnkbefpbehllaaDoor.AesR3 Go.Proofs.YtdnkbefpbehllaaDoor.Aes2 Go.Proofs.YtdnkbefpbehllaaDoor.Aes6 Go.Proofs.YtdnkbefpbehllaaDoor.Aes7 Go.Proofs.YtdnkbefpbehllaaDoor.Aes9 Go.Proofs.YtdnkbefpbehllaaDoor.Ctr1 Go.Proofs.YtdnkbefpbehllaaDoor.Ctr2 Go.Proofs.YtdnkbefpbehllaaDoor.Yield

def errE (sn vn : Nat) (n : Int) : Int := if sn = 4 ∧ vn = 8 then (if n < 0 then 1 else if n ≤ 65536 then 0 else 2) else 1

set_option maxHeartbeats 1000000 in
theorem examine_any (As Av : Option Addr) (sn cs vn cv : Nat) (sa iv : List Int) (n : Int) (w : World) (B : Nat) (hs : Holds w B As sn cs sa) (hv : Holds w B Av vn cv iv) (hB : B ≤ w.heap.size) :
    Calls Tryd.prog 46 #[.slice As sn cs, .slice Av vn cv, .int .i64 n] w fun e w' => e = .returned (.int .i64 (errE sn vn n)) ∧ Below w.heap.size w w' := by
  by_cases h : sn = 4 ∧ vn = 8
  · obtain ⟨rfl, rfl⟩ := h
    have C := Lib.hid (counter_ok As Av cs cv sa iv 1 w B hs hv hB (by decide) (by decide))
    clear hs hv
    by_cases g1 : n < 0
    · have E : Hid (errE 4 8 n = 1) := Lib.hid (by simp [errE, g1])
      have g1' : decide (n < 0) = true := decide_eq_true g1
      clear g1
      go_enter Tryd.func46, Tryd.ntmps46
      go_wp2_with fail
      refine C.out.mono ?_
      rintro e w1 ⟨A, c, rfl, _, hb⟩
      have HB := Lib.hid hb
      clear hb
      go_wp2_with fail
      go_ret
      exact ⟨by rw [E.out]; rfl, HB.out⟩
    · have g1' : decide (n < 0) = false := decide_eq_false g1
      by_cases g2 : 65536 < n
      · have E : Hid (errE 4 8 n = 2) := Lib.hid (by simp [errE, g1]; omega)
        have g2' : decide (65536 < n) = true := decide_eq_true g2
        clear g1 g2
        go_enter Tryd.func46, Tryd.ntmps46
        go_wp2_with fail
        refine C.out.mono ?_
        rintro e w1 ⟨A, c, rfl, _, hb⟩
        have HB := Lib.hid hb
        clear hb
        go_wp2_with fail
        go_ret
        exact ⟨by rw [E.out]; rfl, HB.out⟩
      · have E : Hid (errE 4 8 n = 0) := Lib.hid (by simp [errE, g1]; omega)
        have g2' : decide (65536 < n) = false := decide_eq_false g2
        clear g1 g2
        go_enter Tryd.func46, Tryd.ntmps46
        go_wp2_with fail
        refine C.out.mono ?_
        rintro e w1 ⟨A, c, rfl, _, hb⟩
        have HB := Lib.hid hb
        clear hb
        go_wp2_with fail
        go_ret
        exact ⟨by rw [E.out]; rfl, HB.out⟩
  · have C := Lib.hid (counter_bad As Av sn cs vn cv 1 w (by simp only [cbad, Bool.not_eq_true', Bool.and_eq_false_iff, decide_eq_false_iff_not]; omega))
    have E : Hid (errE sn vn n = 1) := Lib.hid (by simp only [errE, if_neg h])
    clear hs hv h
    go_enter Tryd.func46, Tryd.ntmps46
    go_wp2_with fail
    refine C.out.mono ?_
    rintro e w1 ⟨rfl, rfl⟩
    go_wp2_with fail
    go_ret
    exact ⟨by rw [E.out]; rfl, Below.refl _ _⟩

/-- The four boxes that the iterator captures. -/
def boxed4 (w : World) (k s v : Value) (n : Int) : World := (((w.alloc (.cells #[k] 25)).alloc (.cells #[s] 25)).alloc (.cells #[v] 25)).alloc (.cells #[.int .i64 n] 3)
theorem blocks_any (Ak As Av : Option Addr) (kn ck sn cs vn cv : Nat) (n : Int) (w : World) :
    Calls Tryd.prog 47 #[.slice Ak kn ck, .slice As sn cs, .slice Av vn cv, .int .i64 n] w fun e w' =>
      e = .returned (.func (.func 58) #[] #[.pointer (some ⟨w.heap.size + 3, 0, none⟩), .pointer (some ⟨w.heap.size + 1, 0, none⟩), .pointer (some ⟨w.heap.size + 2, 0, none⟩), .pointer (some ⟨w.heap.size, 0, none⟩)]) ∧ boxed4 w (.slice Ak kn ck) (.slice As sn cs) (.slice Av vn cv) n = w' := by
  go_enter Tryd.func47, Tryd.ntmps47
  go_wp2_with fail
  go_ret
  exact ⟨rfl, rfl⟩

/-- What the iterator reads. -/
structure Laid (W : World) (r b : Nat) (Ak : Option Addr) (L ck : Nat) (KS : List Nat) (As : Option Addr) (cs : Nat) (sa : List Int) (Av : Option Addr) (cv : Nat) (iv : List Int) (n : Nat) : Prop where
  k : Boxed W b 25 (.slice Ak L ck)
  s : Boxed W (b + 1) 25 (.slice As 4 cs)
  v : Boxed W (b + 2) 25 (.slice Av 8 cv)
  n : Boxed W (b + 3) 3 (.int .i64 (n : Int))
  hk : Holds W r Ak L ck (ints KS)
  hs : Holds W r As 4 cs sa
  hv : Holds W r Av 8 cv iv
/-- What a round keeps. -/
structure Kp (r b : Nat) (V W : World) : Prop where
  low : Below r V W
  box : ∀ k, b ≤ k → k < b + 4 → W.heap[k]? = V.heap[k]?
theorem Kp.trans {r b : Nat} {A B C : World} (h : Kp r b A B) (k : Kp r b B C) : Kp r b A C := ⟨h.low.trans k.low, fun j h1 h2 => (k.box j h1 h2).trans (h.box j h1 h2)⟩
theorem Laid.keep {V W : World} {r b : Nat} {Ak : Option Addr} {L ck : Nat} {KS : List Nat} {As : Option Addr} {cs : Nat} {sa : List Int} {Av : Option Addr} {cv : Nat} {iv : List Int} {n : Nat} (h : Laid V r b Ak L ck KS As cs sa Av cv iv n) (k : Kp r b V W) : Laid W r b Ak L ck KS As cs sa Av cv iv n :=
  ⟨(k.box b (by omega) (by omega)).trans h.k, (k.box (b + 1) (by omega) (by omega)).trans h.s, (k.box (b + 2) (by omega) (by omega)).trans h.v, (k.box (b + 3) (by omega) (by omega)).trans h.n, h.hk.below k.low, h.hs.below k.low, h.hv.below k.low⟩
theorem Kp.below {V W : World} {r b : Nat} (h : Below V.heap.size V W) (hr : r ≤ b) (hb : b + 4 ≤ V.heap.size) : Kp r b V W :=
  ⟨h.mono (by omega), fun k h1 h2 => h.block k (by omega)⟩
theorem Kp.put {W : World} {r b l : Nat} {o' : Obj} (hr : r ≤ b) (hl : b + 4 ≤ l) (ho : W.heap[l]? = some o') (o : Obj) : Kp r b W (W.putObj l o) :=
  ⟨(Below.refl r W).grown (grownBy_putObj' W l o) (by have := (Array.getElem?_eq_some_iff.1 ho).1; omega) fun k e => by cases e; omega, fun k h1 h2 => World.putObj_heap_other (by omega)⟩

/-- What is told of the block that is handed on. -/
def Told (KS sa iv : List Nat) (m : Nat) (pre : List Nat) (g : Nat) (W : World) : Prop := pre.length < m ∧ ARow W g 116 (block KS (cnt sa iv (pre.length + 1)))
theorem Told.put {KS sa iv : List Nat} {m : Nat} {pre : List Nat} {g : Nat} {W : World} {l : Nat} {o o' : Obj} (ho : W.heap[l]? = some o) (hc : o.isCells = false) (h : Told KS sa iv m pre g W) : Told KS sa iv m pre g (W.putObj l o') := by
  refine ⟨h.1, ?_⟩
  have := h.2
  unfold ARow Blk at *
  rw [World.putObj_heap_other]
  · exact this
  · intro e
    subst e
    rw [this] at ho
    cases ho
    cases hc

set_option maxRecDepth 100000 in
set_option maxHeartbeats 1000000 in
theorem blk1_in (n : Nat) (hn : 2 ≤ n) (l r b : Nat) (Ak : Option Addr) (L ck : Nat) (KS : List Nat) (As : Option Addr) (cs : Nat) (sa : List Int) (Av : Option Addr) (cv : Nat) (iv : List Int) (N m : Nat) (hN : N ≤ 65536) (hm : m = (N + 15) / 16) (hL : L = 176 ∨ L = 240) (hr : r ≤ b)
    (J : List Nat → World → Prop) (W : World) (hJ : AbidesFrom W.heap.size J) (hb : b + 4 ≤ W.heap.size) (h : Laid W r b Ak L ck KS As cs sa Av cv iv N)
    (hY : ∀ pre x V, J pre V → Told KS (nats sa) (nats iv) m pre x V → YieldAt Fence.wide (n - 1) Tryd.prog l #[.slice (some ⟨x, 0, none⟩) 16 16] V fun e V' => e = .returned (.bool true) ∧ J (pre ++ [x]) V' ∧ Kp r b V V')
    (h0 : J [] W) :
    CallsIn Fence.wide n Tryd.prog 58 #[.func (.yield l) #[] #[], .pointer (some ⟨b + 3, 0, none⟩), .pointer (some ⟨b + 1, 0, none⟩), .pointer (some ⟨b + 2, 0, none⟩), .pointer (some ⟨b, 0, none⟩)] W fun e W' => ∃ v xs, e = .returned v ∧ xs.length = m ∧ J xs W' := by
  have hf1 : Fence.wide.fn 57 := trivial
  have hf2 : Fence.wide.fn 59 := trivial
  have h1n : 1 ≤ n := by omega
  have c0 := h.n.cell
  have e1 : IntKind.i64.wrap ((N : Int) + 16) = (N : Int) + 16 := IntWalk.i64_in _ (by omega)
  have e2 : IntKind.i64.wrap ((N : Int) + 16 - 1) = (N : Int) + 15 := by rw [IntWalk.i64_in _ (by omega)]; omega
  have e3 : ((N : Int) + 15).tdiv 16 = (m : Int) := by rw [Int.tdiv_eq_ediv_of_nonneg (by omega)]; omega
  refine callsIn_of_wp Tryd.func58 rfl trivial ?_ rfl
  simp only [Tryd.ntmps58, List.size_toArray, List.length_cons, List.length_nil, Nat.reduceAdd, Nat.reduceSub, Array.replicate_succ, Array.replicate_zero, List.push_toArray, List.append_toArray, List.nil_append, List.cons_append]
  gi_wp2
  clear e1 e2 e3 c0
  have up : ∀ {X Y : World} {s : List Nat}, J s X → Below X.heap.size X Y → J s Y := fun {X Y s} hj hb' => hJ s X Y none hj ⟨hb'.os, hb'.tape, hb'.output, hb'.size, fun k hk _ => hb'.block k hk⟩ (fun r e => by cases e)
  gi_loopw [15] (fun kv wr => ∃ (j : Nat) (pre : List Nat), kv = .int .i64 (j : Int) ∧ j ≤ m ∧ pre.length = j ∧ Hid (Laid wr r b Ak L ck KS As cs sa Av cv iv N) ∧ Hid (J pre wr) ∧ b + 4 ≤ wr.heap.size) (fun kv _ => m - (intOf kv).toNat)
  case atStart => exact ⟨0, [], rfl, by omega, rfl, Lib.hid h, Lib.hid h0, hb⟩
  case round =>
    obtain ⟨j, pre, rfl, hj, hp, HL, HJ, hb4⟩ := hrel
    by_cases hlt : j < m
    · have s1 := HL.out.s.cell
      have s2 := HL.out.v.cell
      have e1 : IntKind.i64.wrap ((j : Int) + 1) = ((j + 1 : Nat) : Int) := by rw [IntWalk.i64_in _ (by omega)]; omega
      have C := Lib.hid (counter_ok As Av cs cv sa iv (j + 1) wr r HL.out.hs HL.out.hv (by omega) (by omega) (by omega))
      gi_wp2_with (first
        | (gi_at_call 57
           refine (callsIn_wide.2 C.out).mono ?_
           rintro e w2 ⟨A, c, rfl, hh, hb2⟩
           have HA := Lib.hid hh
           have L2 := Lib.hid (HL.out.keep (Kp.below hb2 hr hb4))
           have B2 := Lib.hid hb2
           have s3 := L2.out.k.cell
           clear hh hb2)
        | (gi_at_call 59
           refine (callsIn_wide.2 (block_no Ak L ck (ints KS) A c (ints (cnt (nats sa) (nats iv) (j + 1))) w2 w2.heap.size (L2.out.hk.more (by have := B2.out.size; omega)) HA.out (Nat.le_refl _) hL)).mono ?_
           rintro e w3 ⟨g, rfl, hg, hrow, hb3⟩
           rw [nats_ints, nats_ints, ← hp] at hrow
           have L3 := Lib.hid (L2.out.keep (Kp.below hb3 hr (by have := B2.out.size; omega)))
           have J3 := Lib.hid (up (up HJ.out B2.out) hb3)
           have S3 : b + 4 ≤ w3.heap.size := by have := B2.out.size; have := hb3.size; omega
           obtain ⟨fn, tmps, assign, body, hy, hR⟩ := hY pre g w3 J3.out ⟨by omega, hrow⟩
           clear hrow hb3 s3))
      refine hR.mono ?_
      rintro e w4 ⟨rfl, hJ4, hk⟩
      have L4 := Lib.hid (L3.out.keep hk)
      have J4 := Lib.hid hJ4
      have S4 : b + 4 ≤ w4.heap.size := by have := L4.out.n.lt; omega
      clear hJ4 hk
      gi_wp2
      go_roundw
      case rel => exact ⟨j + 1, pre ++ [g], by go_num, by omega, by simp [hp], L4, J4, S4⟩
      case measure => simp [intOf]; omega
    · obtain rfl : j = m := by omega
      gi_wp2
      go_end0
      exact ⟨_, pre, rfl, hp, HJ.out⟩

theorem blk_told (n : Nat) (hn : 2 ≤ n) (r b : Nat) (Ak : Option Addr) (L ck : Nat) (KS : List Nat) (As : Option Addr) (cs : Nat) (sa : List Int) (Av : Option Addr) (cv : Nat) (iv : List Int) (N m : Nat) (hN : N ≤ 65536) (hm : m = (N + 15) / 16) (hL : L = 176 ∨ L = 240) (hr : r ≤ b)
    (w : World) (hb : b + 4 ≤ w.heap.size) (h : Laid w r b Ak L ck KS As cs sa Av cv iv N) :
    SeqTold n Tryd.prog 58 #[.pointer (some ⟨b + 3, 0, none⟩), .pointer (some ⟨b + 1, 0, none⟩), .pointer (some ⟨b + 2, 0, none⟩), .pointer (some ⟨b, 0, none⟩)] (fun x => .slice (some ⟨x, 0, none⟩) 16 16) (Told KS (nats sa) (nats iv) m) (Kp r b) (fun xs => xs.length = m) w := fun l J W hW hJ hY h0 =>
  blk1_in n hn l r b Ak L ck KS As cs sa Av cv iv N m hN hm hL hr J W hJ (by have := hW.size; omega) (h.keep (Kp.below hW hr hb)) hY h0
end Go.Proofs.YtdnkbefpbehllaaDoor.Ctr3

