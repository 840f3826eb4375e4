/- Plain facts: a packet's bytes are read as the packet; what is read is laid down as the same bytes but for the check. -/
import Derived.Test.YtjhfginopbjldaaDoorParse
set_option linter.unusedVariables false
namespace Go.Proofs.YtjhfginopbjldaaDoor.Back
open Go.RowKit Go.Proofs.YtjhfginopbjldaaDoor.Sums Go.Proofs.YtjhfginopbjldaaDoor.Mem Go.Proofs.YtjhfginopbjldaaDoor.Pkt Go.Proofs.YtjhfginopbjldaaDoor.Check Go.Proofs.YtjhfginopbjldaaDoor.Decode Go.Proofs.YtjhfginopbjldaaDoor.ParseCode

theorem str_nums (s : ByteArray) : strOfNums (nums s) = s := by
  rcases s with ⟨⟨l⟩⟩
  simp only [strOfNums, nums, List.map_map]
  congr 2
  refine (List.map_congr_left fun b _ => ?_).trans (List.map_id l)
  simp
theorem nums_str {l : List Int} (h : Bytes l) : nums (strOfNums l) = l := by
  simp only [strOfNums, nums, List.map_map]
  refine (List.map_congr_left fun b hb => ?_).trans (List.map_id l)
  have := h b hb
  simp only [Function.comp, id]
  rw [UInt8.toNat_ofNat_of_lt' (by show b.toNat < 256; omega)]
  omega
theorem str_size (l : List Int) : (strOfNums l).size = l.length := by simp [strOfNums, ByteArray.size]

theorem fold_max {x : Int} (h : fold x = 65535) : x ≠ 0 ∧ x % 65535 = 0 := by
  unfold fold at h
  by_cases e : x = 0
  · rw [if_pos e] at h; cases h
  · rw [if_neg e] at h; omega
theorem chk_back (t V s : Int) (h : t % 65535 = 0) (v0 : 0 ≤ V) (v1 : V ≤ 65535) (e : s = 65535 - ((t - V - 1) % 65535 + 1)) : s = V ∨ (V = 65535 ∧ s = 0) := by
  obtain ⟨j, rfl⟩ : ∃ j, t = 65535 * j := ⟨t / 65535, by omega⟩
  have e2 : (65535 * j - V - 1) % 65535 = (-V - 1) % 65535 := by
    rw [show 65535 * j - V - 1 = (-V - 1) + 65535 * j by omega, Int.add_mul_emod_self_left]
  rw [e2] at e
  by_cases q : V = 65535
  · right; subst q; exact ⟨rfl, by rw [e]; decide⟩
  · left
    rw [show (-V - 1) % 65535 = 65534 - V by rw [show -V - 1 = (65534 - V) + 65535 * (-1) by omega, Int.add_mul_emod_self_left, Int.emod_eq_of_lt (by omega) (by omega)]] at e
    omega
theorem tot_first {l : List Int} (hb : Bytes l) {a : Int} (h : l[0]? = some a) : 256 * a ≤ tot l := by
  match l, hb, h with
  | [x], _, h =>
    simp at h
    subst h
    exact Int.le_refl _
  | x :: y :: r, hb, h =>
    simp at h
    subst h
    have hy := hb y (by simp)
    have := tot_lo r fun z hz => hb z (by simp [hz])
    simp only [tot]; omega
theorem twelve {l : List Int} (h : 12 ≤ l.length) : ∃ b0 b1 b2 b3 b4 b5 b6 b7 b8 b9 b10 b11 r, l = b0 :: b1 :: b2 :: b3 :: b4 :: b5 :: b6 :: b7 :: b8 :: b9 :: b10 :: b11 :: r := by
  match l, h with
  | b0 :: b1 :: b2 :: b3 :: b4 :: b5 :: b6 :: b7 :: b8 :: b9 :: b10 :: b11 :: r, _ => exact ⟨b0, b1, b2, b3, b4, b5, b6, b7, b8, b9, b10, b11, r, rfl⟩
theorem bytes_len {p : Pkt} (h : Valid p) (l : List Int) : (p.bytes l).length = 20 + p.opt.size + l.length := by
  rw [Pkt.bytes, List.length_append, Pkt.head_len h]
theorem bytes_take {p : Pkt} (h : Valid p) (l : List Int) : (p.bytes l).take (20 + p.opt.size) = p.head l.length (p.sum l.length) := by
  rw [Pkt.bytes, ← Pkt.head_len h l.length (p.sum l.length), List.take_left]
theorem bytes_drop {p : Pkt} (h : Valid p) (l : List Int) : (p.bytes l).drop (20 + p.opt.size) = l := by
  rw [Pkt.bytes, ← Pkt.head_len h l.length (p.sum l.length), List.drop_left]
theorem head_put (p : Pkt) (n : Nat) (s : Int) : p.head n s = put (p.head n 0) 5 (s / 256) (s % 256) := rfl
theorem head_zero (p : Pkt) (n : Nat) : put (p.head n 0) 5 0 0 = p.head n 0 := rfl
theorem head_sum {p : Pkt} (h : Valid p) {n : Nat} (hn : 20 + p.opt.size + n ≤ 65535) : sums 0 (p.head n (p.sum n)) = 65535 := by
  have hb := Pkt.head_bytes h hn (s := 0) (by decide) (by decide)
  have := whole_put (p.head n 0) hb 5 (by rw [Pkt.head_len h]; omega)
  rw [head_zero] at this
  rw [head_put]
  exact this
theorem sum_in (p : Pkt) (n : Nat) : 0 ≤ p.sum n ∧ p.sum n ≤ 65535 := check_in _
theorem bytes_bytes {p : Pkt} (h : Valid p) {l : List Int} (hn : 20 + p.opt.size + l.length ≤ 65535) (hl : Bytes l) : Bytes (p.bytes l) :=
  (Pkt.head_bytes h hn (sum_in p _).1 (sum_in p _).2).append hl

theorem bytes_get {p : Pkt} (l : List Int) : ∃ r, p.bytes l = p.first :: p.tos :: (p.total l.length / 256) :: (p.total l.length % 256) :: (p.id / 256) :: (p.id % 256) :: (p.place / 256) :: (p.place % 256) :: p.ttl :: p.proto :: (p.sum l.length / 256) :: (p.sum l.length % 256) :: r ∧ r = p.rest ++ l := ⟨_, rfl, rfl⟩

theorem bytes_hd {p : Pkt} (h : Valid p) (l : List Int) : hdOf (p.bytes l) = 20 + p.opt.size := by
  have := h.z; have := h.z4
  show (p.first % 16 * 4).toNat = _
  unfold Pkt.first
  omega
theorem bytes_perr {p : Pkt} (h : Valid p) {l : List Int} (hn : 20 + p.opt.size + l.length ≤ 65535) : perr (p.bytes l) = 0 := by
  have z := h.z; have z4 := h.z4
  have pl := h.place
  have len := bytes_len h l
  have hd := bytes_hd h l
  have e0 : (p.bytes l).getD 0 0 = p.first := rfl
  have e2 : (p.bytes l).getD 2 0 = p.total l.length / 256 := rfl
  have e3 : (p.bytes l).getD 3 0 = p.total l.length % 256 := rfl
  have e6 : (p.bytes l).getD 6 0 = p.place / 256 := rfl
  have e7 : (p.bytes l).getD 7 0 = p.place % 256 := rfl
  have f : p.first = 64 + (5 + (p.opt.size : Int) / 4) := rfl
  have t : p.total l.length = 20 + (p.opt.size : Int) + l.length := rfl
  unfold perr
  rw [e0, e2, e3, e6, e7, len]
  rw [if_neg (by omega), if_neg (by omega), if_neg (by omega), if_neg (by omega), if_neg (by omega), if_neg (by omega), if_neg (by omega), if_neg (by omega)]
  rw [if_neg]
  intro x
  apply x
  have : (p.first % 16 * 4).toNat = 20 + p.opt.size := hd
  rw [this, bytes_take h, head_sum h hn]

theorem place_df (q : Int) (df mf : Bool) (q0 : 0 ≤ q) (q1 : q ≤ 8191) :
    decide ((q + (if df then 16384 else 0) + (if mf then 8192 else 0)) / 16384 % 2 = 1) = df ∧ decide ((q + (if df then 16384 else 0) + (if mf then 8192 else 0)) / 8192 % 2 = 1) = mf ∧ (q + (if df then 16384 else 0) + (if mf then 8192 else 0)) % 8192 = q := by
  cases df <;> cases mf <;> simp <;> omega
theorem bytes_pk {p : Pkt} (h : Valid p) (l : List Int) : pkOf (p.bytes l) = p := by
  have hd := bytes_hd h l
  have pl := h.place
  have i0 := h.i0; have i1 := h.i1; have o0 := h.o0; have o1 := h.o1; have o8 := h.o8
  have hs := h.s; have hdd := h.d
  unfold pkOf
  rw [hd]
  obtain ⟨tos, id, ttl, proto, df, mf, off, src, dst, opt⟩ := p
  simp only at *
  have q := place_df (off / 8) df mf (by omega) (by omega)
  have e6 : (Pkt.bytes ⟨tos, id, ttl, proto, df, mf, off, src, dst, opt⟩ l).getD 6 0 = (off / 8 + (if df then 16384 else 0) + (if mf then 8192 else 0)) / 256 := rfl
  have e7 : (Pkt.bytes ⟨tos, id, ttl, proto, df, mf, off, src, dst, opt⟩ l).getD 7 0 = (off / 8 + (if df then 16384 else 0) + (if mf then 8192 else 0)) % 256 := rfl
  have e67 : 256 * (Pkt.bytes ⟨tos, id, ttl, proto, df, mf, off, src, dst, opt⟩ l).getD 6 0 + (Pkt.bytes ⟨tos, id, ttl, proto, df, mf, off, src, dst, opt⟩ l).getD 7 0 = off / 8 + (if df then 16384 else 0) + (if mf then 8192 else 0) := by rw [e6, e7]; omega
  have e45 : 256 * (Pkt.bytes ⟨tos, id, ttl, proto, df, mf, off, src, dst, opt⟩ l).getD 4 0 + (Pkt.bytes ⟨tos, id, ttl, proto, df, mf, off, src, dst, opt⟩ l).getD 5 0 = id := by
    have a : (Pkt.bytes ⟨tos, id, ttl, proto, df, mf, off, src, dst, opt⟩ l).getD 4 0 = id / 256 := rfl
    have b : (Pkt.bytes ⟨tos, id, ttl, proto, df, mf, off, src, dst, opt⟩ l).getD 5 0 = id % 256 := rfl
    rw [a, b]; omega
  have d12 : (Pkt.bytes ⟨tos, id, ttl, proto, df, mf, off, src, dst, opt⟩ l).drop 12 = (nums src ++ (nums dst ++ nums opt)) ++ l := rfl
  have ls : (nums src).length = 4 := by rw [nums_len]; exact hs
  have ld : (nums dst).length = 4 := by rw [nums_len]; exact hdd
  have lo : (nums opt).length = opt.size := nums_len opt
  have d16 : (Pkt.bytes ⟨tos, id, ttl, proto, df, mf, off, src, dst, opt⟩ l).drop 16 = (nums dst ++ nums opt) ++ l := by
    rw [show 16 = 12 + 4 from rfl, ← List.drop_drop, d12, List.append_assoc, ← ls, List.drop_left]
  have d20 : (Pkt.bytes ⟨tos, id, ttl, proto, df, mf, off, src, dst, opt⟩ l).drop 20 = nums opt ++ l := by
    rw [show 20 = 16 + 4 from rfl, ← List.drop_drop, d16, List.append_assoc, ← ld, List.drop_left]
  have s1 : ((Pkt.bytes ⟨tos, id, ttl, proto, df, mf, off, src, dst, opt⟩ l).drop 12).take 4 = nums src := by
    rw [d12, List.append_assoc, ← ls, List.take_left]
  have s2 : ((Pkt.bytes ⟨tos, id, ttl, proto, df, mf, off, src, dst, opt⟩ l).drop 16).take 4 = nums dst := by
    rw [d16, List.append_assoc, ← ld, List.take_left]
  have s3 : ((Pkt.bytes ⟨tos, id, ttl, proto, df, mf, off, src, dst, opt⟩ l).drop 20).take (20 + opt.size - 20) = nums opt := by
    rw [d20, show 20 + opt.size - 20 = (nums opt).length by omega, List.take_left]
  unfold ppkt
  rw [e67, e45, q.1, q.2.1, q.2.2, s1, s2, s3, str_nums, str_nums, str_nums]
  congr 1
  omega

/-- Another byte in the head, behind the first one, is found. -/
theorem other_perr {p : Pkt} (h : Valid p) {l : List Int} (hn : 20 + p.opt.size + l.length ≤ 65535) (hl : Bytes l) (j : Nat) (c y : Int) (j1 : 1 ≤ j) (j2 : j < 20 + p.opt.size) (hy : (p.bytes l)[j]? = some y) (hc : c ≠ y) (c0 : 0 ≤ c) (c1 : c ≤ 255) :
    perr ((p.bytes l).set j c) ≠ 0 := by
  intro e
  have g := perr_good e
  have hd : hdOf ((p.bytes l).set j c) = 20 + p.opt.size := by
    rw [← bytes_hd h l]
    unfold hdOf
    congr 3
    simp only [List.getD_eq_getElem?_getD]
    rw [List.getElem?_set_ne (by omega)]
  have s := g.2.2.2.2.2.2
  rw [hd, List.take_set, bytes_take h] at s
  have hb := Pkt.head_bytes h hn (sum_in p l.length).1 (sum_in p l.length).2
  have e0 := head_sum h hn
  have hy' : (p.head l.length (p.sum l.length))[j]? = some y := by
    rw [← bytes_take h, List.getElem?_take, if_pos j2]; exact hy
  have yb := hb y (List.mem_of_getElem? hy')
  rw [sums_tot (Bytes.set hb j c0 c1), tot_set _ j c y hy'] at s
  rw [sums_tot hb] at e0
  generalize tot (p.head l.length (p.sum l.length)) = t at *
  have s2 := fold_max s
  have e2 := fold_max e0
  have hw : wt j = 256 ∨ wt j = 1 := by unfold wt; split <;> simp
  rcases hw with hw | hw <;> rw [hw] at s2 <;> omega

/-- What is read is valid, and fits. -/
theorem read_valid {l : List Int} (hl : Bytes l) (hp : perr l = 0) : Valid (pkOf l) ∧ (pkOf l).opt.size = hdOf l - 20 ∧ 20 ≤ hdOf l ∧ hdOf l ≤ l.length ∧ l.length ≤ 65535 := by
  obtain ⟨g1, g2, g3, g4, g5, g6, _⟩ := perr_good hp
  have b : ∀ i, 0 ≤ l.getD i 0 ∧ l.getD i 0 ≤ 255 := fun i => by
    rw [List.getD_eq_getElem?_getD]
    cases h : l[i]? with
    | none => simp
    | some z => exact hl z (List.mem_of_getElem? h)
  have b0 := b 0; have b1 := b 1; have b2 := b 2; have b3 := b 3; have b4 := b 4; have b5 := b 5; have b6 := b 6; have b7 := b 7; have b8 := b 8; have b9 := b 9
  have hd : (hdOf l : Int) = l.getD 0 0 % 16 * 4 := by unfold hdOf; omega
  have hd2 : 20 ≤ hdOf l := by omega
  have hd3 : hdOf l ≤ l.length := by omega
  have hs : (pkOf l).opt.size = hdOf l - 20 := by
    show (strOfNums _).size = _
    rw [str_size]; simp; omega
  refine ⟨⟨b1.1, b1.2, b8.1, b8.2, b9.1, b9.2, ?_, ?_, ?_, ?_, ?_, ?_, ?_, ?_, ?_⟩, hs, hd2, hd3, by omega⟩
  · show 0 ≤ 256 * l.getD 4 0 + l.getD 5 0; omega
  · show 256 * l.getD 4 0 + l.getD 5 0 ≤ 65535; omega
  · show 0 ≤ (256 * l.getD 6 0 + l.getD 7 0) % 8192 * 8; omega
  · show (256 * l.getD 6 0 + l.getD 7 0) % 8192 * 8 ≤ 65528; omega
  · show ((256 * l.getD 6 0 + l.getD 7 0) % 8192 * 8) % 8 = 0; omega
  · show (strOfNums _).size = 4
    rw [str_size]; simp; omega
  · show (strOfNums _).size = 4
    rw [str_size]; simp; omega
  · rw [hs]; omega
  · rw [hs]; omega

theorem place_back (z : Int) (z0 : 0 ≤ z) (z1 : z < 32768) : z % 8192 * 8 / 8 + (if decide (z / 16384 % 2 = 1) then 16384 else 0) + (if decide (z / 8192 % 2 = 1) then 8192 else 0) = z := by
  by_cases a : z / 16384 % 2 = 1 <;> by_cases b : z / 8192 % 2 = 1 <;> simp [a, b] <;> omega

/-- .. and its bytes are the same but for the check. -/
theorem read_bytes {l : List Int} (hl : Bytes l) (hp : perr l = 0) : ∃ s, s = (pkOf l).sum (l.length - hdOf l) ∧ (pkOf l).bytes (l.drop (hdOf l)) = put l 5 (s / 256) (s % 256) := by
  obtain ⟨hv, hs, g0, g7, _⟩ := read_valid hl hp
  obtain ⟨g1, g2, g3, g4, g5, g6, _⟩ := perr_good hp
  refine ⟨_, rfl, ?_⟩
  generalize hH : hdOf l = H at *
  have hhd : (H : Int) = l.getD 0 0 % 16 * 4 := by rw [← hH]; unfold hdOf; omega
  have hlen : (l.drop H).length = l.length - H := by simp
  have rest : (pkOf l).rest ++ l.drop H = l.drop 12 := by
    show nums (strOfNums ((l.drop 12).take 4)) ++ (nums (strOfNums ((l.drop 16).take 4)) ++ nums (strOfNums ((l.drop 20).take (hdOf l - 20)))) ++ l.drop H = _
    rw [nums_str ((hl.drop _).take _), nums_str ((hl.drop _).take _), nums_str ((hl.drop _).take _), hH, List.append_assoc, List.append_assoc]
    have x1 : l.drop 20 = (l.drop 20).take (H - 20) ++ l.drop H := by
      conv => lhs; rw [← List.take_append_drop (H - 20) (l.drop 20)]
      rw [List.drop_drop, show 20 + (H - 20) = H by omega]
    have x2 : l.drop 16 = (l.drop 16).take 4 ++ l.drop 20 := by
      conv => lhs; rw [← List.take_append_drop 4 (l.drop 16)]
      rw [List.drop_drop]
    have x3 : l.drop 12 = (l.drop 12).take 4 ++ l.drop 16 := by
      conv => lhs; rw [← List.take_append_drop 4 (l.drop 12)]
      rw [List.drop_drop]
    rw [← x1, ← x2, ← x3]
  rw [Pkt.bytes, Pkt.head, List.append_assoc, rest, hlen]
  generalize (pkOf l).sum (l.length - H) = s
  have t1 : (pkOf l).total (l.length - H) = (l.length : Int) := by
    unfold Pkt.total
    rw [hs]; omega
  have t0 : (pkOf l).first = l.getD 0 0 := by
    unfold Pkt.first
    rw [hs]; omega
  have tp : (pkOf l).place = 256 * l.getD 6 0 + l.getD 7 0 := by
    show (256 * l.getD 6 0 + l.getD 7 0) % 8192 * 8 / 8 + _ + _ = _
    refine place_back _ ?_ g6
    have b : ∀ i, 0 ≤ l.getD i 0 := fun i => by
      rw [List.getD_eq_getElem?_getD]
      cases h : l[i]? with
      | none => simp
      | some z => exact (hl z (List.mem_of_getElem? h)).1
    have := b 6; have := b 7
    omega
  rw [t1, t0, tp, ← g5]
  clear t1 t0 tp g5 g6 g2 g3 g4 hhd hlen rest hv hs g0 g7 hH hp
  obtain ⟨b0, b1, b2, b3, b4, b5, b6, b7, b8, b9, b10, b11, r, rfl⟩ := twelve (l := l) (by omega)
  · have y2 := hl b2 (by simp); have y3 := hl b3 (by simp); have y4 := hl b4 (by simp); have y5 := hl b5 (by simp); have y6 := hl b6 (by simp); have y7 := hl b7 (by simp)
    simp only [List.getD_cons_zero, List.getD_cons_succ]
    show numsOf b0 b1 (256 * b2 + b3) (256 * b4 + b5) (256 * b6 + b7) b8 b9 s ++ r = b0 :: b1 :: b2 :: b3 :: b4 :: b5 :: b6 :: b7 :: b8 :: b9 :: (s / 256) :: (s % 256) :: r
    have a2 : (256 * b2 + b3) / 256 = b2 := by omega
    have a3 : (256 * b2 + b3) % 256 = b3 := by omega
    have a4 : (256 * b4 + b5) / 256 = b4 := by omega
    have a5 : (256 * b4 + b5) % 256 = b5 := by omega
    have a6 : (256 * b6 + b7) / 256 = b6 := by omega
    have a7 : (256 * b6 + b7) % 256 = b7 := by omega
    unfold numsOf
    rw [a2, a3, a4, a5, a6, a7]
    rfl

/-- The check itself: the same, or FF FF that is told as 00 00. -/
theorem read_check {l : List Int} (hl : Bytes l) (hp : perr l = 0) (u v : Int) (hu : l[10]? = some u) (hv : l[11]? = some v) :
    ((pkOf l).sum (l.length - hdOf l) / 256 = u ∧ (pkOf l).sum (l.length - hdOf l) % 256 = v) ∨ (u = 255 ∧ v = 255 ∧ (pkOf l).sum (l.length - hdOf l) = 0) := by
  obtain ⟨vd, hs, g0, g7, g8⟩ := read_valid hl hp
  obtain ⟨g1, g2, g3, g4, g5, g6, gs⟩ := perr_good hp
  obtain ⟨s, hS, hb⟩ := read_bytes hl hp
  rw [← hS]
  have tk : put (l.take (hdOf l)) 5 (s / 256) (s % 256) = (pkOf l).head (l.length - hdOf l) s := by
    have := bytes_take vd (l.drop (hdOf l))
    have e : 20 + (pkOf l).opt.size = hdOf l := by omega
    rw [e, hb, List.length_drop, ← hS] at this
    rw [← this]
    unfold put
    rw [List.take_set, List.take_set]
  have s01 := sum_in (pkOf l) (l.length - hdOf l)
  rw [← hS] at s01
  have hu' : (l.take (hdOf l))[2 * 5]? = some u := by rw [List.getElem?_take, if_pos (by omega)]; exact hu
  have hv' : (l.take (hdOf l))[2 * 5 + 1]? = some v := by rw [List.getElem?_take, if_pos (by omega)]; exact hv
  have ub := hl u (List.mem_of_getElem? hu)
  have vb := hl v (List.mem_of_getElem? hv)
  have h65 := head_sum vd (n := l.length - hdOf l) (by omega)
  rw [← hS, ← tk, sums_tot (put_bytes (hl.take _) 5 (by omega) (by omega) (by omega) (by omega)), tot_put _ 5 _ _ u v hu' hv'] at h65
  rw [sums_tot (hl.take _)] at gs
  have hz : s = check (put (l.take (hdOf l)) 5 0 0) := by
    have e : (pkOf l).head (l.length - hdOf l) 0 = put (l.take (hdOf l)) 5 0 0 := by
      have a : put (put (l.take (hdOf l)) 5 (s / 256) (s % 256)) 5 0 0 = put ((pkOf l).head (l.length - hdOf l) s) 5 0 0 := by rw [tk]
      rw [put_put, head_put, put_put, head_zero] at a
      exact a.symm
    rw [hS, Pkt.sum, e]
  have zb := put_bytes (hl.take (hdOf l)) 5 (x := 0) (y := 0) (by omega) (by omega) (by omega) (by omega)
  have cz : s = 65535 - fold (tot (l.take (hdOf l)) + (256 * 0 + 0) - (256 * u + v)) := by
    rw [hz, check, sums_tot zb, tot_put _ 5 0 0 u v hu' hv']
  have t0 := tot_lo _ zb
  rw [tot_put _ 5 0 0 u v hu' hv'] at t0
  have first : 0 < tot (l.take (hdOf l)) + (256 * 0 + 0) - (256 * u + v) := by
    rw [← tot_put _ 5 0 0 u v hu' hv']
    have h0 : l[0]? = some (l.getD 0 0) := by
      rw [List.getD_eq_getElem?_getD]
      cases h : l[0]? with
      | none => rw [List.getElem?_eq_none_iff] at h; omega
      | some z => rfl
    have h1 : (put (l.take (hdOf l)) 5 0 0)[0]? = some (l.getD 0 0) := by
      rw [put_at (by omega) (by omega), List.getElem?_take, if_pos (by omega)]
      exact h0
    have := tot_first zb h1
    omega
  generalize tot (l.take (hdOf l)) = t at *
  clear hS hb tk hz h65
  have gs2 := fold_max gs
  unfold fold at cz
  rw [if_neg (by omega)] at cz
  have cb := chk_back t (256 * u + v) s gs2.2 (by omega) (by omega) (by rw [cz]; congr 3; omega)
  rcases cb with cb | ⟨cb, cb2⟩
  · left; omega
  · right; omega
end Go.Proofs.YtjhfginopbjldaaDoor.Back
