/- The options that every piece carries: plain texts. Stage 3's optsS tells which options a text holds. -/
import Derived.Test.YtnpggkpcadefjaaDoorOpts
import Derived.Test.YtnpggkpcadefjaaDoorBytes
import Derived.Test.YtnpggkpcadefjaaDoorSplD
import Derived.Test.YtnpggkpcadefjaaDoorCheck
import Derived.Test.YtnpggkpcadefjaaDoorBlk
set_option linter.unusedVariables false
namespace Go.Proofs.YtnpggkpcadefjaaDoor.SplL
open Go.RowKit Go.Proofs.YtnpggkpcadefjaaDoor.Sums Go.Proofs.YtnpggkpcadefjaaDoor.Mem Go.Proofs.YtnpggkpcadefjaaDoor.Opts

def encL (xs : List (Int × ByteArray)) : List Int := xs.flatMap fun x => if 128 ≤ x.1 then x.1 :: ((x.2.size : Int) + 2) :: nums x.2 else []
def padL (l : List Int) : List Int := l ++ List.replicate ((4 - l.length % 4) % 4) 0
/-- The options that come later. -/
def laterL (s : ByteArray) : Option (List Int) := (optsS s).map fun xs => padL (encL xs)
theorem pad_len (l : List Int) : (padL l).length % 4 = 0 ∧ (padL l).length < l.length + 4 ∧ l.length ≤ (padL l).length := by
  unfold padL
  rw [List.length_append, List.length_replicate]
  omega
theorem enc_nil : encL [] = [] := rfl
theorem enc_cons (k : Int) (d : ByteArray) (xs : List (Int × ByteArray)) : encL ((k, d) :: xs) = (if 128 ≤ k then k :: ((d.size : Int) + 2) :: nums d else []) ++ encL xs := rfl
theorem enc_snoc (xs : List (Int × ByteArray)) (k : Int) (d : ByteArray) : encL (xs ++ [(k, d)]) = encL xs ++ (if 128 ≤ k then k :: ((d.size : Int) + 2) :: nums d else []) := by
  unfold encL
  rw [List.flatMap_append, List.flatMap_cons, List.flatMap_nil, List.append_nil]
/-- What an option of a text is; all of them are no longer than the text. -/
theorem opts_small : ∀ (m : Nat) (s : ByteArray) (xs : List (Int × ByteArray)), s.size ≤ m → optsS s = some xs → (encL xs).length ≤ s.size ∧ ∀ x ∈ xs, 0 ≤ x.1 ∧ x.1 ≤ 255 ∧ x.2.size ≤ 253 := by
  intro m
  induction m with
  | zero =>
    intro s xs hs h
    rw [optsS, dif_neg (by omega)] at h
    obtain rfl := Option.some.inj h
    exact ⟨Nat.zero_le _, fun x hx => by cases hx⟩
  | succ m ih =>
    intro s xs hs h
    rw [optsS] at h
    by_cases p : 0 < s.size
    · rw [dif_pos p] at h
      have b0 : (s[0]'p).toNat < 256 := (s[0]'p).toNat_lt
      by_cases k0 : (s[0]'p).toNat = 0
      · rw [if_pos k0] at h
        obtain rfl := Option.some.inj h
        exact ⟨Nat.zero_le _, fun x hx => by cases hx⟩
      · rw [if_neg k0] at h
        by_cases k1 : (s[0]'p).toNat = 1
        · rw [if_pos k1] at h
          obtain ⟨ys, hy, rfl⟩ := Option.map_eq_some_iff.1 h
          obtain ⟨h1, h2⟩ := ih _ ys (by rw [ByteArray.size_extract]; omega) hy
          rw [ByteArray.size_extract] at h1
          refine ⟨?_, fun x hx => ?_⟩
          · rw [enc_cons, if_neg (by decide), List.nil_append]
            omega
          · rcases List.mem_cons.1 hx with rfl | hx
            · exact ⟨by decide, by decide, Nat.zero_le _⟩
            · exact h2 x hx
        · rw [if_neg k1] at h
          by_cases p1 : 1 < s.size
          · rw [dif_pos p1] at h
            have b1 : (s[1]'p1).toNat < 256 := (s[1]'p1).toNat_lt
            by_cases bad : (s[1]'p1).toNat < 2 ∨ s.size < (s[1]'p1).toNat
            · rw [if_pos bad] at h
              cases h
            · rw [if_neg bad] at h
              obtain ⟨ys, hy, rfl⟩ := Option.map_eq_some_iff.1 h
              obtain ⟨h1, h2⟩ := ih _ ys (by rw [ByteArray.size_extract]; omega) hy
              rw [ByteArray.size_extract] at h1
              have hd : (s.extract 2 (s[1]'p1).toNat).size = (s[1]'p1).toNat - 2 := by rw [ByteArray.size_extract]; omega
              refine ⟨?_, fun x hx => ?_⟩
              · rw [enc_cons, List.length_append]
                split
                · rw [List.length_cons, List.length_cons, nums_len, hd]
                  omega
                · simp only [List.length_nil]
                  omega
              · rcases List.mem_cons.1 hx with rfl | hx
                · exact ⟨by simp, by simp; omega, by rw [hd]; omega⟩
                · exact h2 x hx
          · rw [dif_neg p1] at h
            cases h
    · rw [dif_neg p] at h
      obtain rfl := Option.some.inj h
      exact ⟨Nat.zero_le _, fun x hx => by cases hx⟩
theorem enc_bytes (xs : List (Int × ByteArray)) (h : ∀ x ∈ xs, 0 ≤ x.1 ∧ x.1 ≤ 255 ∧ x.2.size ≤ 253) : Bytes (encL xs) := by
  intro z hz
  obtain ⟨x, hx, hz⟩ := List.mem_flatMap.1 hz
  obtain ⟨h0, h1, h2⟩ := h x hx
  split at hz
  · rcases List.mem_cons.1 hz with rfl | hz
    · omega
    · rcases List.mem_cons.1 hz with rfl | hz
      · omega
      · exact nums_bytes _ z hz
  · cases hz
theorem pad_bytes {l : List Int} (h : Bytes l) : Bytes (padL l) := by
  intro z hz
  rcases List.mem_append.1 hz with hz | hz
  · exact h z hz
  · obtain ⟨_, rfl⟩ := List.mem_replicate.1 hz
    omega
/-- Later is no longer than what it comes from, and fours. -/
theorem later_small {s : ByteArray} {l : List Int} (h : laterL s = some l) (h4 : s.size % 4 = 0) : l.length ≤ s.size ∧ l.length % 4 = 0 ∧ Bytes l := by
  obtain ⟨xs, hx, rfl⟩ := Option.map_eq_some_iff.1 h
  obtain ⟨h1, h2⟩ := opts_small s.size s xs (Nat.le_refl _) hx
  obtain ⟨p1, p2, p3⟩ := pad_len (encL xs)
  exact ⟨by omega, p1, pad_bytes (enc_bytes xs h2)⟩
end Go.Proofs.YtnpggkpcadefjaaDoor.SplL

/- What Split answers: plain. How its pieces lie in memory. -/
set_option linter.unusedVariables false
namespace Go.Proofs.YtnpggkpcadefjaaDoor.SplM
open Go.RowKit Go.Proofs.YtnpggkpcadefjaaDoor.Sums Go.Proofs.YtnpggkpcadefjaaDoor.Mem Go.Proofs.YtnpggkpcadefjaaDoor.Blk Go.Proofs.YtnpggkpcadefjaaDoor.Pkt Go.Proofs.YtnpggkpcadefjaaDoor.Check Go.Proofs.YtnpggkpcadefjaaDoor.SplD Go.Proofs.YtnpggkpcadefjaaDoor.SplL

theorem str_size (t : List Int) : (strOfNums t).size = t.length := by
  show (strOfNums t).data.size = _
  simp [strOfNums]
/-- The piece that begins at q.1 and has q.2 bytes. -/
def piece (p : Pkt) (lat : ByteArray) (l : List Int) (q : Nat × Nat) : Pkt × List Int :=
  (⟨p.tos, p.id, p.ttl, p.proto, p.df, p.mf || decide (q.1 + q.2 < l.length), p.off + q.1, p.src, p.dst, if q.1 = 0 then p.opt else lat⟩, (l.drop q.1).take q.2)
def splitR (p : Pkt) (l : List Int) (mtu : Int) : Int × List (Pkt × List Int) :=
  if p.chk l.length ≠ 0 then (p.chk l.length, [])
  else if mtu < 68 then (1, [])
  else if 20 + (p.opt.size : Int) + l.length ≤ mtu then (0, [(p, l)])
  else if p.df = true then (181, [])
  else match laterL p.opt with
    | none => (4, [])
    | some t => if (cuts mtu.toNat p.opt.size t.length l.length (l.length + 1) 0).any (fun q => decide (65528 < p.off + q.1)) = true then (2, [])
      else (0, (cuts mtu.toNat p.opt.size t.length l.length (l.length + 1) 0).map (piece p (strOfNums t) l))
theorem piece_whole (p : Pkt) (lat : ByteArray) (l : List Int) : piece p lat l (0, l.length) = (p, l) := by
  unfold piece
  simp
theorem wide_of {p : Pkt} {mtu : Int} (hv : Valid p) (hm : 68 ≤ mtu) (n : Nat) (hn : n ≤ p.opt.size) : Wide mtu.toNat p.opt.size n := by
  have := hv.z
  exact ⟨by omega, by omega⟩
/-- What an answer without an error is. -/
theorem split_zero {p : Pkt} {l : List Int} {mtu : Int} (h : (splitR p l mtu).1 = 0) : Valid p ∧ 20 + p.opt.size + l.length ≤ 65535 ∧ 68 ≤ mtu ∧ ∃ lat : ByteArray, lat.size ≤ p.opt.size ∧ lat.size % 4 = 0 ∧
    (splitR p l mtu).2 = (cuts mtu.toNat p.opt.size lat.size l.length (l.length + 1) 0).map (piece p lat l) ∧ ∀ q ∈ cuts mtu.toNat p.opt.size lat.size l.length (l.length + 1) 0, p.off + q.1 ≤ 65528 := by
  unfold splitR at h ⊢
  by_cases c : p.chk l.length ≠ 0
  · rw [if_pos c] at h
    exact absurd h c
  · rw [if_neg c] at h ⊢
    have c0 : p.chk l.length = 0 := Classical.not_not.1 c
    obtain ⟨hv, hn⟩ := chk_zero c0
    by_cases m : mtu < 68
    · rw [if_pos m] at h
      cases h
    · rw [if_neg m] at h ⊢
      refine ⟨hv, hn, by omega, ?_⟩
      by_cases f : 20 + (p.opt.size : Int) + l.length ≤ mtu
      · rw [if_pos f]
        have e : cuts mtu.toNat p.opt.size (0 : Nat) l.length (l.length + 1) 0 = [(0, l.length)] := by
          have := cuts_one (m := mtu.toNat) (o := p.opt.size) (lat := 0) (n := l.length) (f := l.length) (a := 0) (by unfold room; rw [if_pos rfl]; omega)
          simpa using this
        refine ⟨⟨#[]⟩, Nat.zero_le _, rfl, ?_, fun q hq => ?_⟩
        · show [(p, l)] = (cuts mtu.toNat p.opt.size 0 l.length (l.length + 1) 0).map (piece p ⟨#[]⟩ l)
          rw [e, List.map_cons, List.map_nil, piece_whole]
        · have hq' : q ∈ cuts mtu.toNat p.opt.size 0 l.length (l.length + 1) 0 := hq
          rw [e] at hq'
          obtain rfl := List.mem_singleton.1 hq'
          have := hv.o1
          simpa using this
      · rw [if_neg f] at h ⊢
        by_cases d : p.df = true
        · rw [if_pos d] at h
          cases h
        · rw [if_neg d] at h ⊢
          cases hl : laterL p.opt with
          | none => rw [hl] at h; cases h
          | some t =>
            rw [hl] at h
            obtain ⟨t1, t2, _⟩ := later_small hl hv.z4
            simp only at h ⊢
            by_cases y : (cuts mtu.toNat p.opt.size t.length l.length (l.length + 1) 0).any (fun q => decide (65528 < p.off + q.1)) = true
            · rw [if_pos y] at h
              cases h
            · rw [if_neg y]
              refine ⟨strOfNums t, by rw [str_size]; exact t1, by rw [str_size]; exact t2, by rw [str_size], fun q hq => ?_⟩
              rw [str_size] at hq
              refine Classical.byContradiction fun z => y (List.any_eq_true.2 ⟨q, hq, decide_eq_true (by omega)⟩)
/-- A piece again. -/
theorem split_again {p : Pkt} {l : List Int} {mtu : Int} (h : (splitR p l mtu).1 = 0) {i : Nat} {x : Pkt × List Int} (hx : (splitR p l mtu).2[i]? = some x) : splitR x.1 x.2 mtu = (0, [x]) := by
  obtain ⟨hv, hn, hm, lat, l1, l4, e, off⟩ := split_zero h
  rw [e, List.getElem?_map] at hx
  obtain ⟨q, hq, rfl⟩ := Option.map_eq_some_iff.1 hx
  have hw := wide_of hv hm lat.size l1
  obtain ⟨b, k⟩ := q
  obtain ⟨h1, h2, h3, _, _, h8, _⟩ := cuts_each hw (l.length + 1) 0 (Nat.zero_le _) (by omega) i b k hq
  have hi := room_hi hw b
  have ho := off (b, k) (List.mem_of_getElem? hq)
  simp only at ho
  have zl : ((l.drop b).take k).length = k := by rw [List.length_take, List.length_drop]; omega
  have zo : (if b = 0 then p.opt else lat).size = if b = 0 then p.opt.size else lat.size := by split <;> rfl
  have lo : (if b = 0 then p.opt.size else lat.size) ≤ p.opt.size ∧ (if b = 0 then p.opt.size else lat.size) % 4 = 0 := by
    have := hv.z4
    split
    · exact ⟨Nat.le_refl _, this⟩
    · exact ⟨l1, l4⟩
  have z40 := hv.z
  have V : Valid (piece p lat l (b, k)).1 := by
    have := hv.o0
    have := hv.o8
    exact ⟨hv.t0, hv.t1, hv.l0, hv.l1, hv.p0, hv.p1, hv.i0, hv.i1, show 0 ≤ p.off + (b : Int) by omega, show p.off + (b : Int) ≤ 65528 by omega, show (p.off + (b : Int)) % 8 = 0 by omega, hv.s, hv.d, show (if b = 0 then p.opt else lat).size ≤ 40 by rw [zo]; omega, show (if b = 0 then p.opt else lat).size % 4 = 0 by rw [zo]; exact lo.2⟩
  have c0 : (piece p lat l (b, k)).1.chk (piece p lat l (b, k)).2.length = 0 := chk_ok V (by
    show 20 + (if b = 0 then p.opt else lat).size + ((l.drop b).take k).length ≤ 65535
    rw [zo, zl]
    omega)
  unfold splitR
  rw [if_neg (by rw [c0]; exact fun z => z rfl), if_neg (by omega), if_pos (by
    show 20 + ((if b = 0 then p.opt else lat).size : Int) + (((l.drop b).take k).length : Int) ≤ mtu
    rw [zo, zl]
    omega)]
end Go.Proofs.YtnpggkpcadefjaaDoor.SplM

/- Split's answers beside each other: plain. -/
set_option linter.unusedVariables false
namespace Go.Proofs.YtnpggkpcadefjaaDoor.SplN
open Go.RowKit Go.Proofs.YtnpggkpcadefjaaDoor.Sums Go.Proofs.YtnpggkpcadefjaaDoor.Mem Go.Proofs.YtnpggkpcadefjaaDoor.Blk Go.Proofs.YtnpggkpcadefjaaDoor.Pkt Go.Proofs.YtnpggkpcadefjaaDoor.Check Go.Proofs.YtnpggkpcadefjaaDoor.SplD Go.Proofs.YtnpggkpcadefjaaDoor.SplL Go.Proofs.YtnpggkpcadefjaaDoor.SplM

theorem piece_opt (p : Pkt) (lat : ByteArray) (l : List Int) (b k : Nat) : (piece p lat l (b, k)).1.opt.size = if b = 0 then p.opt.size else lat.size := by
  show (if b = 0 then p.opt else lat).size = _
  split <;> rfl
/-- Each piece of an answer. -/
theorem split_at {p : Pkt} {l : List Int} {mtu : Int} (h : (splitR p l mtu).1 = 0) {i : Nat} {x : Pkt × List Int} (hx : (splitR p l mtu).2[i]? = some x) :
    ∃ b k : Nat, b + k ≤ l.length ∧ x.2 = (l.drop b).take k ∧ x.2.length = k ∧ x.1.off = p.off + b ∧ 20 + (x.1.opt.size : Int) + k ≤ mtu ∧ Valid x.1 ∧ 20 + x.1.opt.size + k ≤ 65535 ∧ x.1.tos = p.tos ∧ x.1.id = p.id ∧ x.1.ttl = p.ttl ∧ x.1.proto = p.proto ∧ x.1.df = p.df ∧ x.1.src = p.src ∧ x.1.dst = p.dst ∧
      (i = 0 → b = 0 ∧ x.1.opt = p.opt) ∧
      ((i + 1 < (splitR p l mtu).2.length ∧ k % 8 = 0 ∧ 8 ≤ k ∧ x.1.mf = true ∧ ∃ y : Pkt × List Int, (splitR p l mtu).2[i + 1]? = some y ∧ y.1.off = p.off + ((b + k : Nat) : Int)) ∨ (i + 1 = (splitR p l mtu).2.length ∧ b + k = l.length ∧ x.1.mf = p.mf)) := by
  have ag := split_again h hx
  have az := split_zero (p := x.1) (l := x.2) (mtu := mtu) (by rw [ag])
  obtain ⟨hv, hn, hm, lat, l1, l4, e, off⟩ := split_zero h
  rw [e] at hx ⊢
  rw [List.getElem?_map] at hx
  obtain ⟨q, hq, rfl⟩ := Option.map_eq_some_iff.1 hx
  have hw := wide_of hv hm lat.size l1
  obtain ⟨b, k⟩ := q
  obtain ⟨h1, h2, h3, h5, _, h8, h6⟩ := cuts_each hw (l.length + 1) 0 (Nat.zero_le _) (by omega) i b k hq
  have hi := room_hi hw b
  have lo := room_lo hw b
  have zl : ((l.drop b).take k).length = k := by rw [List.length_take, List.length_drop]; omega
  have zo := piece_opt p lat l b k
  have zn : 20 + (piece p lat l (b, k)).1.opt.size + (piece p lat l (b, k)).2.length ≤ 65535 := az.2.1
  refine ⟨b, k, h2, rfl, zl, rfl, ?_, az.1, ?_, rfl, rfl, rfl, rfl, rfl, rfl, rfl, fun hi0 => ?_, ?_⟩
  · rw [zo]
    split at hi <;> rename_i hb <;> simp only [hb, if_true, if_false] <;> omega
  · rw [show (piece p lat l (b, k)).2.length = k from zl] at zn
    exact zn
  · have b0 := h5 hi0
    subst b0
    exact ⟨rfl, rfl⟩
  · rw [List.length_map]
    rcases h6 with ⟨p1, p2, p3, k', p4⟩ | ⟨p1, p2⟩
    · refine .inl ⟨p1, by omega, by omega, ?_, piece p lat l (b + k, k'), ?_, rfl⟩
      · show (p.mf || decide (b + k < l.length)) = true
        rw [decide_eq_true p3, Bool.or_true]
      · rw [List.getElem?_map, p4]
        rfl
    · refine .inr ⟨p1, p2, ?_⟩
      show (p.mf || decide (b + k < l.length)) = p.mf
      rw [decide_eq_false (by omega), Bool.or_false]
theorem split_some {p : Pkt} {l : List Int} {mtu : Int} (h : (splitR p l mtu).1 = 0) : 0 < (splitR p l mtu).2.length := by
  obtain ⟨hv, hn, hm, lat, l1, l4, e, off⟩ := split_zero h
  rw [e, List.length_map]
  exact cuts_some _ _ (Nat.succ_pos _)
/-- With a greater number. -/
theorem split_more {p : Pkt} {l : List Int} {m m' : Int} (h : (splitR p l m).1 = 0) (hm : m ≤ m') (hl : l.length ≤ 3000) : ((splitR p l m').1 = 0 ∧ (splitR p l m').2.length ≤ (splitR p l m).2.length) ∨ ((splitR p l m').1 = 2 ∧ 60000 < p.off) := by
  have hs := split_some h
  obtain ⟨hv, hn, h68, -⟩ := split_zero h
  have c0 := chk_ok hv hn
  have c1 : ¬ p.chk l.length ≠ 0 := fun z => z c0
  have m1 : ¬ m < 68 := by omega
  have m2 : ¬ m' < 68 := by omega
  unfold splitR at h hs ⊢
  simp only [if_neg c1, if_neg m1, if_neg m2] at h hs ⊢
  by_cases f' : 20 + (p.opt.size : Int) + l.length ≤ m'
  · rw [if_pos f']
    exact .inl ⟨rfl, hs⟩
  · have f : ¬ 20 + (p.opt.size : Int) + l.length ≤ m := by omega
    rw [if_neg f] at h hs ⊢
    rw [if_neg f']
    by_cases d : p.df = true
    · rw [if_pos d] at h
      cases h
    · rw [if_neg d] at h hs ⊢
      rw [if_neg d]
      cases hL : laterL p.opt with
      | none => rw [hL] at h; cases h
      | some t =>
        obtain ⟨t1, t2, _⟩ := later_small hL hv.z4
        have hw := wide_of hv h68 t.length t1
        have hw' := wide_of hv (show 68 ≤ m' by omega) t.length t1
        rw [hL] at h hs
        simp only at h hs ⊢
        by_cases y : (cuts m.toNat p.opt.size t.length l.length (l.length + 1) 0).any (fun q => decide (65528 < p.off + q.1)) = true
        · rw [if_pos y] at h
          cases h
        · rw [if_neg y] at hs ⊢
          by_cases y' : (cuts m'.toNat p.opt.size t.length l.length (l.length + 1) 0).any (fun q => decide (65528 < p.off + q.1)) = true
          · rw [if_pos y']
            refine .inr ⟨rfl, ?_⟩
            obtain ⟨q, hq, hq'⟩ := List.any_eq_true.1 y'
            obtain ⟨i, hi⟩ := List.mem_iff_getElem?.1 hq
            have := (cuts_each hw' (l.length + 1) 0 (Nat.zero_le _) (by omega) i q.1 q.2 hi).2.1
            have := of_decide_eq_true hq'
            omega
          · rw [if_neg y']
            refine .inl ⟨rfl, ?_⟩
            show (List.map _ _).length ≤ (List.map _ _).length
            rw [List.length_map, List.length_map]
            exact cuts_fewer t1 hw (by omega) _ _ 0 0 (Nat.le_refl _) (Nat.zero_le _) (by omega) (by omega)
/-- .. of one that is refused. -/
theorem split_bad {p : Pkt} {l : List Int} {m m' : Int} (h : (splitR p l m).1 ≠ 0) (hm : m ≤ m') : (splitR p l m').1 = (splitR p l m).1 ∨ (splitR p l m').1 = 0 ∨ m < 68 := by
  unfold splitR at h ⊢
  by_cases c : p.chk l.length ≠ 0
  · rw [if_pos c, if_pos c]
    exact .inl rfl
  · rw [if_neg c] at h ⊢
    rw [if_neg c]
    by_cases m68 : m < 68
    · exact .inr (.inr m68)
    · rw [if_neg m68] at h ⊢
      rw [if_neg (by omega)]
      by_cases f' : 20 + (p.opt.size : Int) + l.length ≤ m'
      · rw [if_pos f']
        exact .inr (.inl rfl)
      · have f : ¬ 20 + (p.opt.size : Int) + l.length ≤ m := by omega
        rw [if_neg f] at h ⊢
        rw [if_neg f']
        by_cases d : p.df = true
        · rw [if_pos d, if_pos d]
          exact .inl rfl
        · rw [if_neg d] at h ⊢
          rw [if_neg d]
          cases hL : laterL p.opt with
          | none => exact .inl rfl
          | some t =>
            rw [hL] at h
            simp only at h ⊢
            split at h
            · rename_i y
              rw [if_pos y]
              split
              · exact .inl rfl
              · exact .inr (.inl rfl)
            · exact absurd rfl h
theorem split_none {p : Pkt} {l : List Int} {mtu : Int} (h : (splitR p l mtu).1 ≠ 0) : (splitR p l mtu).2 = [] := by
  unfold splitR at h ⊢
  split
  · rfl
  · rename_i c
    rw [if_neg c] at h
    split
    · rfl
    · rename_i m
      rw [if_neg m] at h
      split
      · rename_i f
        rw [if_pos f] at h
        exact absurd rfl h
      · rename_i f
        rw [if_neg f] at h
        split
        · rfl
        · rename_i d
          rw [if_neg d] at h
          cases hL : laterL p.opt with
          | none => rfl
          | some t =>
            rw [hL] at h
            simp only at h ⊢
            split at h
            · rename_i y
              rw [if_pos y]
            · exact absurd rfl h
end Go.Proofs.YtnpggkpcadefjaaDoor.SplN

