/- The code's List. -/
import Derived.Test.YtnabjhdamofpgaaRt6
set_option linter.unusedVariables false
namespace Go.Proofs.Ytnabjhdamofpgaa.Rt7
open Go.RowKit Go.PlainAid Go.Proofs.Ytnabjhdamofpgaa.Sums Go.Proofs.Ytnabjhdamofpgaa.Mem Go.Proofs.Ytnabjhdamofpgaa.Blk Go.Proofs.Ytnabjhdamofpgaa.Grp Go.Proofs.Ytnabjhdamofpgaa.AdrD Go.Proofs.Ytnabjhdamofpgaa.AdrR Go.Proofs.Ytnabjhdamofpgaa.Steps Go.Proofs.Ytnabjhdamofpgaa.Com Go.Proofs.Ytnabjhdamofpgaa.RowN Go.Proofs.Ytnabjhdamofpgaa.RowA Go.Proofs.Ytnabjhdamofpgaa.ArgT Go.Proofs.Ytnabjhdamofpgaa.TabD Go.Proofs.Ytnabjhdamofpgaa.TabOps Go.Proofs.Ytnabjhdamofpgaa.TabM Go.Proofs.Ytnabjhdamofpgaa.Free Go.Proofs.Ytnabjhdamofpgaa.RtD Go.Proofs.Ytnabjhdamofpgaa.Rt1 Go.Proofs.Ytnabjhdamofpgaa.Rt4 Go.Proofs.Ytnabjhdamofpgaa.Rt6

/-- Routes that lie in a row of their own. -/
def ListAt (w : World) (A : Option Addr) (rs : List RouteR) : Prop := ∃ g X, A = some ⟨g, 0, none⟩ ∧ Blk w g 33 X ∧ X.toList = rs.flatMap RouteR.cells
theorem ListAt.below {w w' : World} {A : Option Addr} {rs : List RouteR} (h : ListAt w A rs) (hb : Below w.heap.size w w') : ListAt w' A rs := by
  obtain ⟨g, X, h1, h2, h3⟩ := h
  exact ⟨g, X, h1, h2.below hb h2.lt, h3⟩
/-- It lies in a block that is foreign to what turns. -/
theorem ListAt.keep {F : Nat → Prop} {w w' : World} {A : Option Addr} {rs : List RouteR} (h : ListAt w A rs) (hS : ∀ k, own A k → F k) (hk : Keep F w w') : ListAt w' A rs := by
  obtain ⟨g, X, h1, h2, h3⟩ := h
  exact ⟨g, X, h1, (hk.block g (hS g ⟨_, h1, rfl⟩) h2.lt).trans h2, h3⟩
theorem ListAt.at {w : World} {A : Option Addr} {rs : List RouteR} (h : ListAt w A rs) : ∃ g, A = some ⟨g, 0, none⟩ ∧ g < w.heap.size ∧ ∀ i r, rs[i]? = some r → Part.At w g (0 + i * 4) r.cells := by
  obtain ⟨g, X, h1, h2, h3⟩ := h
  refine ⟨g, h1, h2.lt, fun i r hr j v hj => ?_⟩
  rw [h2.cell, Nat.zero_add, ← Array.getElem?_toList, h3]
  rw [← flat_at rs i r hr, List.getElem?_take] at hj
  split at hj
  · rwa [List.getElem?_drop] at hj
  · cases hj
theorem make_routes (n : Nat) (hn : n ≤ 1000) : ∃ Z : Array Value, Z.size = n * 4 ∧ ∀ W : World, (Instr.makeSlice 27 (.int .i64 (n : Int)) (.int .i64 (n : Int))).run Try.prog W = .ok (.slice (some ⟨W.heap.size, 0, none⟩) n n) (W.alloc (.cells Z 33)) := by
  obtain ⟨i, hi, hz, hsz, hby⟩ := InsT.info_route
  refine ⟨madeCells InsT.zr.cells (n * 4), by simp [madeCells], fun W => ?_⟩
  have h := run_make (P := Try.prog) W 27 33 i InsT.zr Try.underlying27 hi hz .i64 .i64 (n : Int) (n : Int) (by omega) (by omega) (by rw [hby]; omega) (by omega)
  rw [hsz] at h
  simpa using h
set_option maxRecDepth 100000 in
set_option maxHeartbeats 4000000 in
theorem list_c (F : Nat → Prop) (g : Nat) (rs : List RouteR) (w : World) (h : RtAt F w g rs) :
    Calls Try.prog 17 #[.pointer (some ⟨g, 0, none⟩)] w fun e w' => (∃ A, e = .returned (.slice A rs.length rs.length) ∧ ListAt w' A rs ∧ ∀ k, own A k → w.heap.size ≤ k) ∧ Below w.heap.size w w' := by
  obtain ⟨A, c, hg, hrow, -⟩ := h.ex
  obtain ⟨n, hn⟩ : ∃ n, n = rs.length := ⟨_, rfl⟩
  have few := h.few
  rw [← hn] at hg hrow few ⊢
  obtain ⟨Z, hZ, mk⟩ := make_routes n (by omega)
  have B0 := Lib.hid ((Below.refl w.heap.size w).alloc (Nat.le_refl _) (.cells Z 33))
  have c0 := hg.cell 1
  have c1 : (w.alloc (.cells Z 33)).cell? ⟨g, 1, none⟩ = some (.slice A n c) := (hg.alloc _).cell 1
  have HRW := Lib.hid hrow
  have XB : Hid (Blk (w.alloc (.cells Z 33)) w.heap.size 33 Z) := Lib.hid (Blk.new w _ _)
  have RN := Lib.hid hn
  have HZ := Lib.hid hZ
  have OK := Lib.hid h.tab.good
  clear hg hrow h hn hZ
  go_enter Try.func17, Try.ntmps17
  go_wp2_with fail
  clear c0 c1 mk
  generalize w.alloc (.cells Z 33) = w1 at *
  go_loopw [19] (fun iv wr => ∃ i : Nat, iv = .int .i64 (i : Int) ∧ i ≤ n ∧ Hid (∃ X : Array Value, Blk wr w.heap.size 33 X ∧ X.size = n * 4 ∧ X.toList.take (i * 4) = (rs.take i).flatMap RouteR.cells) ∧ Hid (Below w.heap.size w wr)) (fun iv _ => n - (intOf iv).toNat)
  case atStart => exact ⟨0, rfl, by omega, Lib.hid ⟨Z, XB.out, HZ.out, by simp⟩, Lib.hid B0.out⟩
  case round =>
    clear XB HZ B0
    obtain ⟨i, rfl, hi, HX, HB⟩ := hrel
    have HQ := Lib.hid (HRW.out.below HB.out)
    by_cases hlt : i < n
    · obtain ⟨b, X0, rfl, hX0, -, -⟩ := HQ.out.some (by omega)
      clear hX0
      have hr : rs[i]? = some (rs[i]'(by rw [← RN.out]; exact hlt)) := List.getElem?_eq_getElem _
      generalize rs[i]'(by rw [← RN.out]; exact hlt) = r at hr
      have HR := Lib.hid hr
      have RP : (loadVar 33 ⟨b, i * 4, none⟩).run Try.prog wr = .ok (.agg (RA r)) wr := Part.run_part wr b (i * 4) 33 r.cells _ Try.underlying33 rfl (by kernel_rfl) (row_route HQ.out hr)
      have J := Blk.new wr 33 #[.string ⟨#[]⟩, .int .i64 0, .string ⟨#[]⟩, .int .i64 0]
      have NK := Lib.hid (Part.setRow_blk J (RA r))
      have BX := Lib.hid (Part.setRow_bel ((Below.refl wr.heap.size wr).alloc (Nat.le_refl _) (.cells #[.string ⟨#[]⟩, .int .i64 0, .string ⟨#[]⟩, .int .i64 0] 33)) (Nat.le_refl _) (RA r))
      have one := Lib.hid (all_ra r)
      have gs := good_size (OK.out r (List.mem_of_getElem? hr))
      have OC := Lib.hid (fun W => own_c r W (Nat.le_trans gs.1 (by unfold maxT; omega)) (Nat.le_trans gs.2 (by unfold maxT; omega)))
      clear hr gs
      go_wp2_with (first
        | (refine Store.at_load 33 (.tmp 22) ?_ ?_; exact rfl; refine Part.wpList_load_part rfl 33 (.tmp 22) rfl b (i * 4) [.string r.x0, .int .i64 r.x1, .string r.x2, .int .i64 r.x3] rfl RP ?_)
        | (refine Store.at_store 33 (.tmp 5) (.tmp 23) ?_ ?_; exact rfl; refine wpList_store_row rfl 33 (.tmp 5) (.tmp 23) rfl wr.heap.size (RA r) rfl rfl 33 _ J (by kernel_rfl) rfl one.out ?_)
        | (refine Store.at_load 33 (.tmp 5) ?_ ?_; exact rfl; refine Loads.wpList_load_w rfl 33 (.tmp 5) rfl wr.heap.size rfl 33 (RA r) (0, 0) _ (NK.out) Try.underlying33 rfl (by kernel_rfl) ?_))
      refine (OC.out _).mono ?_
      rintro e w5 ⟨rfl, hb⟩
      have BN := Lib.hid (BX.out.trans (hb.mono BX.out.size))
      clear J RP NK BX OC hb
      obtain ⟨X, hX, hXs, hXt⟩ := HX.out
      have hX5 := hX.below BN.out hX.lt
      have RS := run_store_agg hX5 (i * 4) (RA r) (by kernel_rfl) (by rw [hXs]; show i * 4 + 4 ≤ n * 4; omega) (one_ra r)
      have HN : Hid (∃ Y : Array Value, Blk (w5.setRow w.heap.size (spl X (i * 4) (RA r).toList)) w.heap.size 33 Y ∧ Y.size = n * 4 ∧ Y.toList.take ((i + 1) * 4) = (rs.take (i + 1)).flatMap RouteR.cells) := Lib.hid (by
        refine ⟨_, setRow_heap _ _ _ _ _ _ hX5, (spl_size (by rw [hXs]; show i * 4 + 4 ≤ n * 4; omega)).trans hXs, ?_⟩
        have l1 : (X.toList.take (i * 4)).length = i * 4 := by simp [hXs]; omega
        unfold spl
        rw [List.take_add_one, HR.out, List.flatMap_append, ← hXt]
        have : ((X.toList.take (i * 4)) ++ r.cells).length = (i + 1) * 4 := by rw [List.length_append, l1, len_ra]; omega
        simp only [Option.toList_some, List.flatMap_cons, List.flatMap_nil, List.append_nil]
        exact List.take_left' this)
      have BM := Lib.hid (Com.setRow_bel (HB.out.trans (BN.out.mono HB.out.size)) (Nat.le_refl _) (spl X (i * 4) (RA r).toList))
      clear hX hXs hXt HX HB HQ BN
      go_wp2_with (refine Store.at_store 33 (.tmp 28) (.tmp 27) ?_ ?_; exact rfl; refine wpList_store_run rfl 33 (.tmp 28) (.tmp 27) rfl ⟨w.heap.size, i * 4, none⟩ rfl _ rfl RS ?_)
      go_roundw
      case rel => exact ⟨i + 1, by go_num, by omega, HN, BM⟩
      case measure => simp [intOf]; omega
    · have e : i = n := by omega
      subst e
      obtain ⟨X, hX, hXs, hXt⟩ := HX.out
      have L : Hid (ListAt wr (some ⟨w.heap.size, 0, none⟩) rs) := Lib.hid ⟨_, X, rfl, hX, by
        rw [List.take_of_length_le (by simp [hXs]), List.take_of_length_le (by rw [RN.out]; exact Nat.le_refl _)] at hXt
        exact hXt⟩
      clear hX hXs hXt HX
      go_wp2_with fail
      go_ret
      exact ⟨⟨_, rfl, L.out, fun k hk => by obtain ⟨a, ha, hb⟩ := hk; cases ha; simp at hb; omega⟩, HB.out⟩
end Go.Proofs.Ytnabjhdamofpgaa.Rt7
