/- The code's Remove. -/
import Derived.Test.YtmomkjgnopcobaaSpd4
import Derived.Test.YtmomkjgnopcobaaSpd1c
import Derived.Test.YtmomkjgnopcobaaSpd2
set_option linter.unusedVariables false
namespace Go.Proofs.Ytmomkjgnopcobaa.Spd6
open Go.RowKit Go.Proofs.Ytmomkjgnopcobaa.Mem Go.Proofs.Ytmomkjgnopcobaa.Blk Go.Proofs.Ytmomkjgnopcobaa.Ahead Go.Proofs.Ytmomkjgnopcobaa.PickD Go.Proofs.Ytmomkjgnopcobaa.PickR1 Go.Proofs.Ytmomkjgnopcobaa.PickR2 Go.Proofs.Ytmomkjgnopcobaa.Pick1 Go.Proofs.Ytmomkjgnopcobaa.Pick2 Go.Proofs.Ytmomkjgnopcobaa.Pick3 Go.Proofs.Ytmomkjgnopcobaa.Pick4 Go.Proofs.Ytmomkjgnopcobaa.Free Go.Proofs.Ytmomkjgnopcobaa.Steps Go.Proofs.Ytmomkjgnopcobaa.Regs Go.Proofs.Ytmomkjgnopcobaa.ArgT Go.Proofs.Ytmomkjgnopcobaa.MapK Go.Proofs.Ytmomkjgnopcobaa.Quest Go.Proofs.Ytmomkjgnopcobaa.RowN Go.Proofs.Ytmomkjgnopcobaa.SpdD Go.Proofs.Ytmomkjgnopcobaa.Spd1 Go.Proofs.Ytmomkjgnopcobaa.Spd3 Go.Proofs.Ytmomkjgnopcobaa.Spd4

theorem flat_take : ∀ (rs : List RuleR) (i : Nat), (rs.take i).flatMap RuleR.cells = (rs.flatMap RuleR.cells).take (i * 16)
  | [], i => by simp
  | a :: rs, 0 => by simp
  | a :: rs, i + 1 => by
    rw [List.take_succ_cons, List.flatMap_cons, List.flatMap_cons, flat_take rs i, show (i + 1) * 16 = a.cells.length + i * 16 by rw [len_ra]; omega, List.take_length_add_append]
theorem flat_drop : ∀ (rs : List RuleR) (i : Nat), (rs.drop i).flatMap RuleR.cells = (rs.flatMap RuleR.cells).drop (i * 16)
  | [], i => by simp
  | a :: rs, 0 => by simp
  | a :: rs, i + 1 => by
    rw [List.drop_succ_cons, List.flatMap_cons, flat_drop rs i, show (i + 1) * 16 = a.cells.length + i * 16 by rw [len_ra]; omega, List.drop_length_add_append]
theorem row_ne {F : Nat → Prop} {w : World} {gs gm : Nat} {A : Option Addr} {n c : Nat} {rs : List RuleR} {es : List (Qu × Int)} (h : Pol F w gs gm A n c rs es) : ¬ own A gs ∧ ¬ own A gm := by
  refine ⟨fun z => ?_, fun z => ?_⟩
  · obtain ⟨X, hX⟩ := h.row.type z
    have := h.blk
    unfold Blk at this
    rw [hX] at this
    simp at this
    exact absurd this.2 (by decide)
  · obtain ⟨X, hX⟩ := h.row.type z
    exact map_ne h.map hX rfl
/-- The rules are others now: what holds ahead of the map's being cleared. -/
structure Turn (F : Nat → Prop) (w w1 : World) (gs gm : Nat) (A A' : Option Addr) (n n' c c' : Nat) (rs' : List RuleR) (es : List (Qu × Int)) : Prop where
  blk : Blk w1 gs 56 #[.slice A n c, .map (some gm)]
  row : RowAt InsR.RT 16 w1 A' n' c' (rs'.flatMap RuleR.cells)
  map : MapAt ek evI w1 gm es
  ne : gs ≠ gm
  nr : ¬ own A' gs ∧ ¬ own A' gm
  fs : ¬ F gs
  fm : ¬ F gm
  fr : ∀ k, own A' k → ¬ F k
  len : rs'.length = n'
  keep : Keep F w w1
theorem Turn.of {F : Nat → Prop} {w w1 : World} {gs gm : Nat} {A A' : Option Addr} {n n' c c' : Nat} {rs rs' : List RuleR} {es : List (Qu × Int)} (h : Pol F w gs gm A n c rs es) (hF : ∀ k, F k → k < w.heap.size) (hrow : RowAt InsR.RT 16 w1 A' n' c' (rs'.flatMap RuleR.cells)) (hk : Keep (fun k => ¬ own A k) w w1)
    (hA : A' = A ∨ ∃ k, A' = some ⟨k, 0, none⟩ ∧ w.heap.size ≤ k) (hl : rs'.length = n') : Turn F w w1 gs gm A A' n n' c c' rs' es := by
  obtain ⟨r1, r2⟩ := row_ne h
  refine ⟨(hk.block gs r1 h.blk.lt).trans h.blk, hrow, h.map.same (hk.block gm r2 h.map.lt), map_ne h.map h.blk, ?_, h.fs, h.fm, ?_, hl, hk.mono fun i hi _ z => h.fr i z hi⟩
  · rcases hA with rfl | ⟨k, rfl, hk⟩
    · exact ⟨r1, r2⟩
    · have g1 := h.blk.lt
      have g2 := h.map.lt
      refine ⟨fun z => ?_, fun z => ?_⟩ <;> (obtain ⟨a, ha, hb⟩ := z; cases ha; simp at hb; omega)
  · rcases hA with rfl | ⟨k, rfl, hk⟩
    · exact h.fr
    · intro k' z f
      obtain ⟨a, ha, hb⟩ := z
      cases ha
      have := hF _ f
      simp at hb
      omega
section
variable {F : Nat → Prop} {w w1 : World} {gs gm : Nat} {A A' : Option Addr} {n n' c c' : Nat} {rs' : List RuleR} {es : List (Qu × Int)}
theorem Turn.below {w2 : World} (h : Turn F w w1 gs gm A A' n n' c c' rs' es) (hb : Below w1.heap.size w1 w2) : Turn F w w2 gs gm A A' n n' c c' rs' es :=
  ⟨h.blk.below hb h.blk.lt, h.row.below hb, h.map.below hb h.map.lt, h.ne, h.nr, h.fs, h.fm, h.fr, h.len, h.keep.trans (Keep.of hb)⟩
theorem Turn.map2 (h : Turn F w w1 gs gm A A' n n' c c' rs' es) (X : Array Value) : MapAt ek evI (w1.setRow gs X) gm es := h.map.same (setRow_other _ _ _ _ (Ne.symm h.ne))
theorem Turn.map_cell (h : Turn F w w1 gs gm A A' n n' c c' rs' es) : (w1.setRow gs #[.slice A' n' c', .map (some gm)]).cell? ⟨gs, 1, none⟩ = some (.map (some gm)) :=
  Blk.cell (show Blk (w1.setRow gs #[.slice A' n' c', .map (some gm)]) gs _ _ from setRow_heap _ _ _ _ _ _ h.blk) 1
theorem Turn.done (h : Turn F w w1 gs gm A A' n n' c c' rs' es) {o : Obj} (hm : MapAt ek evI (MapK.stored (w1.setRow gs #[.slice A' n' c', .map (some gm)]) gm o) gm []) (ok : ∀ r ∈ rs', Ok r) (few : rs'.length ≤ 64) :
    SpdAt F (MapK.stored (w1.setRow gs #[.slice A' n' c', .map (some gm)]) gm o) gs rs' ∧ Keep F w (MapK.stored (w1.setRow gs #[.slice A' n' c', .map (some gm)]) gm o) := by
  have hr : RowAt InsR.RT 16 (w1.setRow gs #[.slice A' n' c', .map (some gm)]) A' n' c' (rs'.flatMap RuleR.cells) := h.row.keep fun k hk _ => setRow_other _ _ _ _ (fun e => h.nr.1 (e ▸ hk))
  have p : Pol F (MapK.stored (w1.setRow gs #[.slice A' n' c', .map (some gm)]) gm o) gs gm A' n' c' rs' [] :=
    ⟨stored_blk (setRow_heap _ _ _ _ _ _ h.blk) h.ne, stored_row hr (fun k hk e => h.nr.2 (e ▸ hk)), hm, fun q hq => absurd hq (by simp), h.fs, h.fm, h.fr, h.len⟩
  exact ⟨p.at ok few, (h.keep.trans (Keep.row _ _ _ h.fs)).trans (stored_keep o h.fm)⟩
end
def remE (rs : List RuleR) (at_ : Int) : Int := if 0 ≤ at_ ∧ at_ < (rs.length : Int) then 0 else 6
def remL (rs : List RuleR) (at_ : Int) : List RuleR := if 0 ≤ at_ ∧ at_ < (rs.length : Int) then rs.take at_.toNat ++ rs.drop (at_.toNat + 1) else rs
theorem remove_nil (at_ : Int) (w : World) : Calls Try.prog 9 #[.pointer none, .int .i64 at_] w fun e w' => e = .returned (.int .i64 3) ∧ w = w' := by
  go_enter Try.func9, Try.ntmps9
  go_wp2_with fail
  go_ret
  exact ⟨rfl, rfl⟩
set_option maxRecDepth 100000 in
set_option maxHeartbeats 2000000 in
theorem remove_code (F : Nat → Prop) (gs : Nat) (rs : List RuleR) (at_ : Int) (w : World) (h : SpdAt F w gs rs) (hF : ∀ k, F k → k < w.heap.size) :
    Calls Try.prog 9 #[.pointer (some ⟨gs, 0, none⟩), .int .i64 at_] w fun e w' => e = .returned (.int .i64 (remE rs at_)) ∧ SpdAt F w' gs (remL rs at_) ∧ Keep F w w' := by
  obtain ⟨gm, A, c, es, hp⟩ := Pol.of h
  have few := h.few
  have ok := h.ok
  obtain ⟨n, hn⟩ : ∃ n, n = rs.length := ⟨_, rfl⟩
  rw [← hn] at hp
  have HN := Lib.hid hn
  have c0 := hp.blk.cell 0
  have f0 := hp.blk.frozen 0
  by_cases q0 : at_ < 0
  · have g0 : decide (at_ < 0) = true := decide_eq_true q0
    have E : Hid (remE rs at_ = 6 ∧ remL rs at_ = rs) := Lib.hid ⟨if_neg (by omega), if_neg (by omega)⟩
    have HH := Lib.hid h
    clear hp h few ok f0 hF q0 hn
    go_enter Try.func9, Try.ntmps9
    go_wp2_with fail
    go_ret
    exact ⟨by rw [E.out.1]; rfl, by rw [E.out.2]; exact HH.out, Keep.refl _ _⟩
  · have g0 : decide (at_ < 0) = false := decide_eq_false q0
    by_cases q1 : (n : Int) ≤ at_
    · have g1 : decide ((n : Int) ≤ at_) = true := decide_eq_true q1
      have E : Hid (remE rs at_ = 6 ∧ remL rs at_ = rs) := Lib.hid ⟨if_neg (by omega), if_neg (by omega)⟩
      have HH := Lib.hid h
      clear hp h few ok f0 hF q0 q1 hn
      go_enter Try.func9, Try.ntmps9
      go_wp2_with fail
      go_ret
      exact ⟨by rw [E.out.1]; rfl, by rw [E.out.2]; exact HH.out, Keep.refl _ _⟩
    · obtain ⟨i, rfl⟩ : ∃ i : Nat, at_ = (i : Int) := ⟨at_.toNat, by omega⟩
      have hi : i < n := by omega
      have g1 : decide ((n : Int) ≤ (i : Int)) = false := decide_eq_false q1
      have g2 : decide (n ≤ i) = false := decide_eq_false (by omega)
      have hw : IntKind.i64.wrap ((i : Int) + 1) = (i : Int) + 1 := IntWalk.i64_in _ (by omega)
      have E : Hid (remE rs (i : Int) = 0 ∧ remL rs (i : Int) = rs.take i ++ rs.drop (i + 1)) := Lib.hid ⟨if_pos (by omega), (if_pos (by omega)).trans (by simp)⟩
      have DC := Lib.hid (DelR.delete_rule A n c i _ w hp.row (by omega) hi)
      have HP := Lib.hid hp
      have HF := Lib.hid hF
      have L2 : Hid ((rs.take i ++ rs.drop (i + 1)).length = n - 1 ∧ (rs.take i ++ rs.drop (i + 1)).flatMap RuleR.cells = (rs.flatMap RuleR.cells).take (i * 16) ++ (rs.flatMap RuleR.cells).drop ((i + 1) * 16) ∧ ∀ r ∈ rs.take i ++ rs.drop (i + 1), Ok r) := Lib.hid ⟨by simp; omega, by rw [List.flatMap_append, flat_take, flat_drop], fun r hr => (List.mem_append.1 hr).elim (fun z => ok r (List.mem_of_mem_take z)) (fun z => ok r (List.mem_of_mem_drop z))⟩
      have NB := Lib.hid (show n ≤ 64 by omega)
      clear hp h few ok f0 hF q0 q1 hn
      go_enter Try.func9, Try.ntmps9
      go_wp2_with fail
      refine DC.out.mono ?_
      rintro e w1 ⟨rfl, hrow, hk⟩
      rw [← L2.out.2.1] at hrow
      have T := Lib.hid (Turn.of (es := es) HP.out HF.out hrow hk (.inl rfl) L2.out.1)
      clear hrow hk DC HP HF c0
      have c1 := T.out.map_cell
      obtain ⟨o, hcl, hmap⟩ := run_clear_map (ev := evI) (kt := 62) (et := 3) (mt := 54) (P := Try.prog) (by kernel_rfl) (T.out.map2 #[.slice A (n - 1) c, .map (some gm)])
      have D := Lib.hid (T.out.done hmap L2.out.2.2 (by have := NB.out; rw [L2.out.1]; omega))
      clear hmap
      have TB := Lib.hid T.out.blk
      clear T
      go_wp2_with (first
        | (refine Store.at_store 41 (.tmp 28) (.tmp 26) ?_ ?_; exact rfl; refine Store.wpList_store_one rfl 41 (.tmp 28) (.tmp 26) rfl gs 0 (.slice A (n - 1) c) rfl rfl 56 _ TB.out (by simp) (by kernel_rfl) rfl #[.slice A (n - 1) c, .map (some gm)] rfl rfl ?_)
        | (refine MapS.wpList_clear rfl 54 (.tmp 32) rfl _ rfl _ hcl ?_))
      go_ret
      exact ⟨by rw [E.out.1]; rfl, by rw [E.out.2]; exact D.out.1, D.out.2⟩
end Go.Proofs.Ytmomkjgnopcobaa.Spd6
