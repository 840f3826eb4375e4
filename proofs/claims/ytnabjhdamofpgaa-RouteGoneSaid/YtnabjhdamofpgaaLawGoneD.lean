/- Added and removed: plain facts. -/
import Derived.Test.YtnabjhdamofpgaaLawLong18
set_option linter.unusedVariables false
namespace Go.Proofs.Ytnabjhdamofpgaa.LawGoneD
open Go.RowKit Go.PlainAid Go.Proofs.Ytnabjhdamofpgaa.Sums Go.Proofs.Ytnabjhdamofpgaa.Mem Go.Proofs.Ytnabjhdamofpgaa.Blk Go.Proofs.Ytnabjhdamofpgaa.Grp Go.Proofs.Ytnabjhdamofpgaa.AdrD Go.Proofs.Ytnabjhdamofpgaa.AdrR Go.Proofs.Ytnabjhdamofpgaa.Steps Go.Proofs.Ytnabjhdamofpgaa.Com Go.Proofs.Ytnabjhdamofpgaa.RowN Go.Proofs.Ytnabjhdamofpgaa.RowA Go.Proofs.Ytnabjhdamofpgaa.ArgT Go.Proofs.Ytnabjhdamofpgaa.TabD Go.Proofs.Ytnabjhdamofpgaa.TabOps Go.Proofs.Ytnabjhdamofpgaa.TabM Go.Proofs.Ytnabjhdamofpgaa.Free Go.Proofs.Ytnabjhdamofpgaa.RtD Go.Proofs.Ytnabjhdamofpgaa.Rt4 Go.Proofs.Ytnabjhdamofpgaa.Rt7 Go.Proofs.Ytnabjhdamofpgaa.Rt9 Go.Proofs.Ytnabjhdamofpgaa.RtA Go.Proofs.Ytnabjhdamofpgaa.LawS18 Go.Proofs.Ytnabjhdamofpgaa.TabR3 Go.Proofs.Ytnabjhdamofpgaa.LawLong18

theorem ins_place {rs : List RouteR} {q : ByteArray} {m : Int} {x : RouteR} (h0 : x.x0 = q) (h1 : x.x1 = m) : placeN (rs.take (placeN rs q m) ++ x :: rs.drop (placeN rs q m)) q m = placeN rs q m := by
  have hi := placeN_le rs q m
  have hl : (rs.take (placeN rs q m)).length = placeN rs q m := by rw [List.length_take]; omega
  refine place_at (fun k r hk hr => ?_) (fun r hr => ?_) (by rw [List.length_append, hl]; omega)
  · rw [List.getElem?_append_left (by omega), List.getElem?_take_of_lt hk] at hr
    exact place_before hk hr
  · rw [List.getElem?_append_right (by omega), hl, Nat.sub_self] at hr
    simp at hr
    rw [← hr, h0, h1]
    exact ahead_no q m
theorem ins_there {rs : List RouteR} {q : ByteArray} {m : Int} {x : RouteR} (h0 : x.x0 = q) (h1 : x.x1 = m) : thereB (rs.take (placeN rs q m) ++ x :: rs.drop (placeN rs q m)) q m = true := by
  have hi := placeN_le rs q m
  have hl : (rs.take (placeN rs q m)).length = placeN rs q m := by rw [List.length_take]; omega
  unfold thereB
  rw [ins_place h0 h1, List.getElem?_append_right (by omega), hl, Nat.sub_self]
  simp [h0, h1]
theorem add_new_eq {rs : List RouteR} {a : ByteArray} {m : Int} {v : ByteArray} {p : Int} (hb : addB a m v p = true) (ht : thereB rs (pfx a m) m = false) (hl : rs.length < 64) :
    addE rs a m v p = 0 ∧ addL rs a m v p = rs.take (placeN rs (pfx a m) m) ++ ⟨pfx a m, m, v, p⟩ :: rs.drop (placeN rs (pfx a m) m) := by
  constructor
  · unfold addE
    rw [hb, ht, if_pos rfl, if_neg (by simp), if_neg (by omega)]
  · unfold addL
    rw [hb, ht, if_pos rfl, if_neg (by simp), if_neg (by omega)]
/-- What is added anew is removed again, and all is as it was. -/
theorem add_rem {rs : List RouteR} {a : ByteArray} {m : Int} {v : ByteArray} {p : Int} (hb : addB a m v p = true) (ht : thereB rs (pfx a m) m = false) (hl : rs.length < 64) :
    remE (addL rs a m v p) a m = 0 ∧ remL (addL rs a m v p) a m = rs := by
  have hi := placeN_le rs (pfx a m) m
  have hk : (rs.take (placeN rs (pfx a m) m)).length = placeN rs (pfx a m) m := by rw [List.length_take]; omega
  have hf : fitB a.size m = true := ((add_iff a m v p).1 hb).1
  have hR : remB (addL rs a m v p) a m = true := by
    unfold remB
    rw [(add_new_eq hb ht hl).2, hf, ins_there (x := ⟨pfx a m, m, v, p⟩) (q := pfx a m) (m := m) rfl rfl]
    rfl
  refine ⟨by unfold remE; rw [hR]; rfl, ?_⟩
  unfold remL
  rw [hR, if_pos rfl, (add_new_eq hb ht hl).2, ins_place (x := ⟨pfx a m, m, v, p⟩) (q := pfx a m) (m := m) rfl rfl]
  rw [List.take_left' hk]
  have e : (rs.take (placeN rs (pfx a m) m) ++ (⟨pfx a m, m, v, p⟩ : RouteR) :: rs.drop (placeN rs (pfx a m) m)).drop (placeN rs (pfx a m) m + 1) = rs.drop (placeN rs (pfx a m) m) := by
    rw [List.append_cons]
    exact List.drop_left' (by rw [List.length_append, hk]; rfl)
  rw [e, List.take_append_drop]
theorem rem_no {rs : List RouteR} {a : ByteArray} {m : Int} (h : remE rs a m ≠ 0) : remB rs a m = false ∧ remE rs a m = 6 ∧ remL rs a m = rs := by
  cases q : remB rs a m with
  | true => exact absurd (by unfold remE; rw [q]; rfl) h
  | false => exact ⟨rfl, by unfold remE; rw [q]; rfl, by unfold remL; rw [q]; rfl⟩
/-- A route that is not there is added and removed. -/
theorem gone_again {rs : List RouteR} {a : ByteArray} {m : Int} {v : ByteArray} {p : Int} (h : remE rs a m ≠ 0) (hl : rs.length < 64) :
    ((addE rs a m v p = 0 ∧ remE (addL rs a m v p) a m = 0) ∨ (addE rs a m v p = 1 ∧ remE (addL rs a m v p) a m = 6)) ∧ remL (addL rs a m v p) a m = rs := by
  obtain ⟨hB, hE, hL⟩ := rem_no h
  cases hb : addB a m v p with
  | false =>
    have e1 : addE rs a m v p = 1 := by unfold addE; rw [hb]; rfl
    have e2 : addL rs a m v p = rs := by unfold addL; rw [hb]; rfl
    rw [e1, e2]
    exact ⟨.inr ⟨rfl, hE⟩, hL⟩
  | true =>
    have hf : fitB a.size m = true := ((add_iff a m v p).1 hb).1
    have ht : thereB rs (pfx a m) m = false := by
      unfold remB at hB
      rw [hf] at hB
      simpa using hB
    obtain ⟨h1, h2⟩ := add_rem hb ht hl
    exact ⟨.inl ⟨(add_new_eq hb ht hl).1, h1⟩, h2⟩
theorem mask0 : ∀ (l r : List Nat), (∀ z ∈ l, z ≤ 255) → (∀ z ∈ r, z ≤ 255) → l.length = r.length → maskB 0 l = maskB 0 r
  | [], [], _, _, _ => rfl
  | x :: l, y :: r, h1, h2, h => by
    simp only [maskB, List.cons.injEq]
    have hx := h1 x (by simp)
    have hy := h2 y (by simp)
    have ex : x / 256 = 0 := by omega
    have ey : y / 256 = 0 := by omega
    exact ⟨by simp [keep8, ex, ey], mask0 l r (fun z hz => h1 z (by simp [hz])) (fun z hz => h2 z (by simp [hz])) (by simpa using h)⟩
/-- A route of no bits is for each address of its version. -/
theorem in_zero {d p : ByteArray} (hd : isA d = true) (h : d.size = p.size) : inB d p 0 = true := by
  unfold inB fitB
  unfold isA at hd
  rw [h] at hd
  have e : maskB (0 : Int).toNat (bts d) = maskB (0 : Int).toNat (bts p) := mask0 _ _ (bts_le d) (bts_le p) (by rw [bts_len, bts_len, h])
  rw [e, h, hd]
  simp
  omega
/-- A route for everything, where none was for the address. -/
theorem all_found {rs : List RouteR} {d : ByteArray} (tb : Tab rs) (hl : rs.length < 64) (h : findE rs d = 182) :
    addE rs d 0 ⟨#[]⟩ 77 = 0 ∧ (findR (addL rs d 0 ⟨#[]⟩ 77) d).x3 = 77 ∧ findE (addL rs d 0 ⟨#[]⟩ 77) d = 0 ∧ remE (addL rs d 0 ⟨#[]⟩ 77) d 0 = 0 ∧ remL (addL rs d 0 ⟨#[]⟩ 77) d 0 = rs := by
  have isa : isA d = true := by
    cases q : isA d with
    | true => rfl
    | false => unfold findE at h; rw [q] at h; cases h
  have hn : findC rs d = none := by
    cases q : findC rs d with
    | none => rfl
    | some r => unfold findE at h; rw [isa, q] at h; cases h
  have hf : fitB d.size 0 = true := by
    unfold fitB
    unfold isA at isa
    rw [isa]
    simp
    omega
  have hb : addB d 0 ⟨#[]⟩ 77 = true := (add_iff _ _ _ _).2 ⟨hf, .inl rfl, by decide⟩
  have sz : (pfx d 0).size = d.size := pfx_fit hf
  have ht : thereB rs (pfx d 0) 0 = false := by
    cases q : thereB rs (pfx d 0) 0 with
    | false => rfl
    | true =>
      obtain ⟨r, hr, e0, e1⟩ := (there_iff tb.srt).1 q
      have := find_none.1 hn r hr
      rw [e0, e1, in_zero isa sz.symm] at this
      cases this
  obtain ⟨h1, h2⟩ := add_new_eq hb ht hl
  obtain ⟨h3, h4⟩ := add_rem hb ht hl
  have hfd : findC (addL rs d 0 ⟨#[]⟩ 77) d = some ⟨pfx d 0, 0, ⟨#[]⟩, 77⟩ := by
    rw [h2]
    unfold findC
    rw [List.reverse_append, List.reverse_cons, List.append_assoc, List.find?_append]
    have n1 : (rs.drop (placeN rs (pfx d 0) 0)).reverse.find? (fun r => inB d r.x0 r.x1) = none := by
      rw [List.find?_eq_none]
      intro r hr
      rw [find_none.1 hn r (List.mem_of_mem_drop (List.mem_reverse.1 hr))]
      simp
    rw [n1]
    simp [in_zero isa sz.symm]
  refine ⟨h1, ?_, ?_, h3, h4⟩
  · unfold findR
    rw [isa, hfd]
    rfl
  · unfold findE
    rw [isa, hfd]
    rfl
theorem fold_len : ∀ (l : List RouteR) (t : List RouteR), t.length + l.length ≤ 64 → (l.foldl (fun t r => addL t r.x0 r.x1 r.x2 r.x3) t).length ≤ t.length + l.length
  | [], t, _ => by simp
  | r :: l, t, h => by
    simp only [List.length_cons] at h
    have := (add_len t r.x0 r.x1 r.x2 r.x3 (by omega)).2
    have ih := fold_len l (addL t r.x0 r.x1 r.x2 r.x3) (by omega)
    simp only [List.foldl_cons, List.length_cons]
    omega
end Go.Proofs.Ytnabjhdamofpgaa.LawGoneD
