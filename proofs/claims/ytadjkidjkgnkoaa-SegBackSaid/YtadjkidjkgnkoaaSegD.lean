/- A segment as plain numbers: its fields, its bytes, its check; what is wrong with bytes; laid down and read. No program is named but the kind of its numbers. -/
import Derived.Test.YtadjkidjkgnkoaaAhead
set_option linter.unusedVariables false
namespace Go.Proofs.Ytadjkidjkgnkoaa.SegD
open Go.RowKit Go.Proofs.Ytadjkidjkgnkoaa.Sums Go.Proofs.Ytadjkidjkgnkoaa.Mem Go.Proofs.Ytadjkidjkgnkoaa.Ahead

structure Sg where
  src : Int
  dst : Int
  seq : Int
  ack : Int
  flags : Int
  window : Int
  urgent : Int
  opt : ByteArray
def Sg.zero : Sg := ⟨0, 0, 0, 0, 0, 0, 0, ⟨#[]⟩⟩
def Sg.ok (p : Sg) : Bool :=
  wi p.src 65535 && (wi p.dst 65535 && (wi p.window 65535 && (wi p.urgent 65535 && (wi p.seq 4294967295 && (wi p.ack 4294967295 && (wi p.flags 255 && (decide (p.opt.size % 4 = 0) && decide (p.opt.size ≤ 40))))))))
/-- What Check says of a segment with n bytes of data. -/
def Sg.chk (p : Sg) (n : Nat) : Int := if p.ok = true then (if 65535 < 20 + p.opt.size + n then 2 else 0) else 1
/-- What Bytes says of it between two addresses. -/
def Sg.err (p : Sg) (s d : ByteArray) (n : Nat) : Int := if paired s d = true then p.chk n else 1

structure Valid (p : Sg) : Prop where
  s0 : 0 ≤ p.src
  s1 : p.src ≤ 65535
  d0 : 0 ≤ p.dst
  d1 : p.dst ≤ 65535
  w0 : 0 ≤ p.window
  w1 : p.window ≤ 65535
  u0 : 0 ≤ p.urgent
  u1 : p.urgent ≤ 65535
  q0 : 0 ≤ p.seq
  q1 : p.seq ≤ 4294967295
  a0 : 0 ≤ p.ack
  a1 : p.ack ≤ 4294967295
  f0 : 0 ≤ p.flags
  f1 : p.flags ≤ 255
  z4 : p.opt.size % 4 = 0
  z : p.opt.size ≤ 40
theorem Sg.ok_valid {p : Sg} (h : p.ok = true) : Valid p := by
  simp only [Sg.ok, wi, Bool.and_eq_true, decide_eq_true_eq] at h
  obtain ⟨⟨a1, a2⟩, ⟨b1, b2⟩, ⟨c1, c2⟩, ⟨d1, d2⟩, ⟨e1, e2⟩, ⟨f1, f2⟩, ⟨g1, g2⟩, h, i⟩ := h
  exact ⟨a1, a2, b1, b2, c1, c2, d1, d2, e1, e2, f1, f2, g1, g2, h, i⟩
theorem Valid.ok {p : Sg} (h : Valid p) : p.ok = true := by
  simp only [Sg.ok, wi, Bool.and_eq_true, decide_eq_true_eq]
  exact ⟨⟨h.s0, h.s1⟩, ⟨h.d0, h.d1⟩, ⟨h.w0, h.w1⟩, ⟨h.u0, h.u1⟩, ⟨h.q0, h.q1⟩, ⟨h.a0, h.a1⟩, ⟨h.f0, h.f1⟩, h.z4, h.z⟩
theorem Sg.chk_zero {p : Sg} {n : Nat} (h : p.chk n = 0) : Valid p ∧ 20 + p.opt.size + n ≤ 65535 := by
  unfold Sg.chk at h
  split at h
  · next q =>
    split at h
    · cases h
    · exact ⟨Sg.ok_valid q, by omega⟩
  · cases h
theorem Sg.chk_make {p : Sg} {n : Nat} (h : Valid p) (k : 20 + p.opt.size + n ≤ 65535) : p.chk n = 0 := by
  unfold Sg.chk
  rw [if_pos h.ok, if_neg (by omega)]
theorem Sg.err_zero {p : Sg} {s d : ByteArray} {n : Nat} (h : p.err s d n = 0) : paired s d = true ∧ p.chk n = 0 := by
  unfold Sg.err at h
  split at h
  · next q => exact ⟨q, h⟩
  · cases h
theorem Sg.err_make {p : Sg} {s d : ByteArray} {n : Nat} (h : paired s d = true) (k : p.chk n = 0) : p.err s d n = 0 := by
  unfold Sg.err
  rw [if_pos h, k]

/-- The first sixteen bytes. -/
def Sg.front (p : Sg) : List Int :=
  [p.src / 256, p.src % 256, p.dst / 256, p.dst % 256, p.seq / 16777216, p.seq / 65536 % 256, p.seq / 256 % 256, p.seq % 256, p.ack / 16777216, p.ack / 65536 % 256, p.ack / 256 % 256, p.ack % 256,
   16 * (5 + (p.opt.size : Int) / 4), p.flags, p.window / 256, p.window % 256]
/-- What stands behind the check. -/
def Sg.back (p : Sg) (l : List Int) : List Int := p.urgent / 256 :: p.urgent % 256 :: (nums p.opt ++ l)
/-- All of it, with a number in the place of the check. -/
def Sg.raw (p : Sg) (k : Int) (l : List Int) : List Int := p.front ++ (k / 256 :: k % 256 :: p.back l)
/-- Its check. -/
def Sg.sum (p : Sg) (s d : ByteArray) (l : List Int) : Int := 65535 - whole s d 6 (p.raw 0 l)
def Sg.bytes (p : Sg) (s d : ByteArray) (l : List Int) : List Int := p.raw (p.sum s d l) l

theorem Sg.sum_in (p : Sg) (s d : ByteArray) (l : List Int) : 0 ≤ p.sum s d l ∧ p.sum s d l ≤ 65535 := by
  have := whole_in s d 6 (p.raw 0 l)
  unfold Sg.sum
  omega
theorem raw_len (p : Sg) (k : Int) (l : List Int) : (p.raw k l).length = 20 + p.opt.size + l.length := by
  simp only [Sg.raw, Sg.front, Sg.back, List.length_append, List.length_cons, List.length_nil, nums_len]
  omega
theorem raw_bytes {p : Sg} (h : Valid p) {k : Int} (k0 : 0 ≤ k) (k1 : k ≤ 65535) {l : List Int} (hl : Bytes l) : Bytes (p.raw k l) := by
  obtain ⟨s0, s1, d0, d1, w0, w1, u0, u1, q0, q1, a0, a1, f0, f1, z4, z⟩ := h
  refine Bytes.append (fun y hy => ?_) (fun y hy => ?_)
  · simp only [Sg.front, List.mem_cons, List.not_mem_nil, or_false] at hy
    rcases hy with rfl | rfl | rfl | rfl | rfl | rfl | rfl | rfl | rfl | rfl | rfl | rfl | rfl | rfl | rfl | rfl <;> omega
  · simp only [Sg.back, List.mem_cons, List.mem_append] at hy
    rcases hy with rfl | rfl | rfl | rfl | hy | hy
    · omega
    · omega
    · omega
    · omega
    · exact nums_bytes _ y hy
    · exact hl y hy
theorem raw_tot (p : Sg) (k : Int) (l : List Int) : tot (p.raw k l) = tot (p.raw 0 l) + k := by
  simp only [Sg.raw, Sg.front, List.cons_append, List.nil_append, tot]
  omega
theorem bytes_len (p : Sg) (s d : ByteArray) (l : List Int) : (p.bytes s d l).length = 20 + p.opt.size + l.length := raw_len _ _ _
theorem bytes_bytes {p : Sg} (h : Valid p) (s d : ByteArray) {l : List Int} (hl : Bytes l) : Bytes (p.bytes s d l) := raw_bytes h (p.sum_in s d l).1 (p.sum_in s d l).2 hl
theorem bytes_whole {p : Sg} (h : Valid p) {s d : ByteArray} (hp : paired s d = true) {l : List Int} (hl : Bytes l) (hn : 20 + p.opt.size + l.length ≤ 65535) : whole s d 6 (p.bytes s d l) = 65535 := by
  have b0 : Bytes (p.raw 0 l) := raw_bytes h (by decide) (by decide) hl
  have l0 := raw_len p 0 l
  have ln := bytes_len p s d l
  have e : p.sum s d l = 65535 - fold (tot (Ahead.ahead s d 6 ((20 + p.opt.size + l.length : Nat) : Int)) + tot (p.raw 0 l)) := by
    unfold Sg.sum
    rw [whole_fold (by decide) (by decide) b0 (by omega), l0]
  rw [whole_fold (by decide) (by decide) (bytes_bytes h s d hl) (by omega), ln]
  have t0 := ahead_pos hp (p := 6) (n := ((20 + p.opt.size + l.length : Nat) : Int)) (by decide) (by omega)
  have t1 := tot_lo _ b0
  have e2 : tot (p.bytes s d l) = tot (p.raw 0 l) + p.sum s d l := raw_tot _ _ _
  rw [e2, ← Int.add_assoc]
  exact plain_fold (by omega) e

/-- Where the data begins. -/
def hdOf (l : List Int) : Nat := (l.getD 12 0 / 16 * 4).toNat
/-- What is wrong with bytes. -/
def perr (l : List Int) (s d : ByteArray) : Int :=
  if paired s d = false then 1 else if l.length < 20 then 8 else if (l.length : Int) < l.getD 12 0 / 16 * 4 then 8 else if 65535 < l.length then 2 else
  if l.getD 12 0 / 16 * 4 < 20 then 4 else if l.getD 12 0 % 16 ≠ 0 then 4 else if whole s d 6 l ≠ 65535 then 5 else 0
theorem perr_zero {l : List Int} {s d : ByteArray} (h : perr l s d = 0) : paired s d = true ∧ 20 ≤ l.length ∧ l.getD 12 0 / 16 * 4 ≤ l.length ∧ l.length ≤ 65535 ∧ 20 ≤ l.getD 12 0 / 16 * 4 ∧ l.getD 12 0 % 16 = 0 ∧ whole s d 6 l = 65535 := by
  unfold perr at h
  repeat' split at h
  all_goals first | (exact absurd h (by decide)) | skip
  rename_i q _ _ _ _ q6 q7
  refine ⟨?_, by omega, by omega, by omega, by omega, by omega, by omega⟩
  cases k : paired s d
  · exact absurd k q
  · rfl
/-- The segment of some bytes. -/
def sgOf (l : List Int) : Sg := ⟨w16 l 0, w16 l 2, w32 l 4, w32 l 8, l.getD 13 0, w16 l 14, w16 l 18, strOfNums ((l.drop 20).take (hdOf l - 20))⟩

theorem str_nums (s : ByteArray) : strOfNums (nums s) = s := by
  rcases s with ⟨⟨l⟩⟩
  simp only [strOfNums, nums, List.map_map]
  congr 2
  refine (List.map_congr_left fun b _ => ?_).trans (List.map_id l)
  simp
theorem nums_str {l : List Int} (h : Bytes l) : nums (strOfNums l) = l := by
  simp only [strOfNums, nums, List.map_map]
  refine (List.map_congr_left fun b hb => ?_).trans (List.map_id l)
  have := h b hb
  simp only [Function.comp, id]
  rw [UInt8.toNat_ofNat_of_lt' (by show b.toNat < 256; omega)]
  omega
theorem str_size (l : List Int) : (strOfNums l).size = l.length := by simp [strOfNums, ByteArray.size]

theorem raw_get (p : Sg) (k : Int) (l : List Int) : w16 (p.raw k l) 0 = p.src ∧ w16 (p.raw k l) 2 = p.dst ∧ (p.raw k l).getD 12 0 = 16 * (5 + (p.opt.size : Int) / 4) ∧ (p.raw k l).getD 13 0 = p.flags ∧ w16 (p.raw k l) 14 = p.window ∧ w16 (p.raw k l) 16 = k ∧ w16 (p.raw k l) 18 = p.urgent := by
  refine ⟨?_, ?_, ?_, ?_, ?_, ?_, ?_⟩
  all_goals simp only [w16, Sg.raw, Sg.front, Sg.back, List.cons_append, List.nil_append, List.getD_cons_zero, List.getD_cons_succ]
  all_goals first | rfl | omega
theorem raw_get4 {p : Sg} (h : Valid p) (k : Int) (l : List Int) : w32 (p.raw k l) 4 = p.seq ∧ w32 (p.raw k l) 8 = p.ack := by
  have := h.q0; have := h.q1; have := h.a0; have := h.a1
  refine ⟨?_, ?_⟩
  all_goals simp only [w32, w16, Sg.raw, Sg.front, Sg.back, List.cons_append, List.nil_append, List.getD_cons_zero, List.getD_cons_succ]
  all_goals omega
theorem raw_drop (p : Sg) (k : Int) (l : List Int) : (p.raw k l).drop 20 = nums p.opt ++ l := rfl
theorem raw_hd {p : Sg} (h : Valid p) (k : Int) (l : List Int) : hdOf (p.raw k l) = 20 + p.opt.size := by
  have := h.z4
  unfold hdOf
  rw [(raw_get p k l).2.2.1]
  omega
theorem raw_data {p : Sg} (h : Valid p) (k : Int) (l : List Int) : (p.raw k l).drop (hdOf (p.raw k l)) = l := by
  rw [raw_hd h, ← List.drop_drop, raw_drop, ← nums_len p.opt, List.drop_left]
theorem raw_sg {p : Sg} (h : Valid p) (k : Int) (l : List Int) : sgOf (p.raw k l) = p := by
  have g := raw_get p k l
  have g4 := raw_get4 h k l
  have e : strOfNums (((p.raw k l).drop 20).take (hdOf (p.raw k l) - 20)) = p.opt := by
    rw [raw_hd h, raw_drop, show 20 + p.opt.size - 20 = (nums p.opt).length by rw [nums_len]; omega, List.take_left, str_nums]
  unfold sgOf
  rw [e, g.1, g.2.1, g4.1, g4.2, g.2.2.2.1, g.2.2.2.2.1, g.2.2.2.2.2.2]
theorem bytes_perr {p : Sg} (h : Valid p) {s d : ByteArray} (hp : paired s d = true) {l : List Int} (hl : Bytes l) (hn : 20 + p.opt.size + l.length ≤ 65535) : perr (p.bytes s d l) s d = 0 := by
  have g := raw_get p (p.sum s d l) l
  have ln := bytes_len p s d l
  have W := bytes_whole h hp hl hn
  have z := h.z; have z4 := h.z4
  have g12 : (p.bytes s d l).getD 12 0 = 16 * (5 + (p.opt.size : Int) / 4) := g.2.2.1
  unfold perr
  rw [ln, g12, if_neg (by rw [hp]; decide), if_neg (by omega), if_neg (by omega), if_neg (by omega), if_neg (by omega), if_neg (by omega), if_neg (by rw [W]; simp)]
theorem perr_comm {s d : ByteArray} {l : List Int} (hl : Bytes l) (h1 : l.length ≤ 65535) : perr l s d = perr l d s := by
  unfold perr
  rw [paired_comm]
  by_cases h : paired d s = false
  · rw [if_pos h, if_pos h]
  · have h' : paired d s = true := by cases k : paired d s <;> simp_all
    rw [if_neg h, if_neg h, whole_comm (by rw [paired_comm]; exact h') (by decide) (by decide) hl h1]
theorem one_more {l : List Int} (n : Nat) (h : n + 1 ≤ l.length) : ∃ a r, l = a :: r ∧ n ≤ r.length := by
  match l, h with
  | a :: r, h => exact ⟨a, r, rfl, by simpa using h⟩
theorem twenty {l : List Int} (h : 20 ≤ l.length) : ∃ b0 b1 b2 b3 b4 b5 b6 b7 b8 b9 b10 b11 b12 b13 b14 b15 b16 b17 b18 b19 r, l = b0 :: b1 :: b2 :: b3 :: b4 :: b5 :: b6 :: b7 :: b8 :: b9 :: b10 :: b11 :: b12 :: b13 :: b14 :: b15 :: b16 :: b17 :: b18 :: b19 :: r := by
  obtain ⟨b0, r0, rfl, h0⟩ := one_more 19 h
  obtain ⟨b1, r1, rfl, h1⟩ := one_more 18 h0
  obtain ⟨b2, r2, rfl, h2⟩ := one_more 17 h1
  obtain ⟨b3, r3, rfl, h3⟩ := one_more 16 h2
  obtain ⟨b4, r4, rfl, h4⟩ := one_more 15 h3
  obtain ⟨b5, r5, rfl, h5⟩ := one_more 14 h4
  obtain ⟨b6, r6, rfl, h6⟩ := one_more 13 h5
  obtain ⟨b7, r7, rfl, h7⟩ := one_more 12 h6
  obtain ⟨b8, r8, rfl, h8⟩ := one_more 11 h7
  obtain ⟨b9, r9, rfl, h9⟩ := one_more 10 h8
  obtain ⟨b10, r10, rfl, h10⟩ := one_more 9 h9
  obtain ⟨b11, r11, rfl, h11⟩ := one_more 8 h10
  obtain ⟨b12, r12, rfl, h12⟩ := one_more 7 h11
  obtain ⟨b13, r13, rfl, h13⟩ := one_more 6 h12
  obtain ⟨b14, r14, rfl, h14⟩ := one_more 5 h13
  obtain ⟨b15, r15, rfl, h15⟩ := one_more 4 h14
  obtain ⟨b16, r16, rfl, h16⟩ := one_more 3 h15
  obtain ⟨b17, r17, rfl, h17⟩ := one_more 2 h16
  obtain ⟨b18, r18, rfl, h18⟩ := one_more 1 h17
  obtain ⟨b19, r19, rfl, h19⟩ := one_more 0 h18
  exact ⟨b0, b1, b2, b3, b4, b5, b6, b7, b8, b9, b10, b11, b12, b13, b14, b15, b16, b17, b18, b19, r19, rfl⟩
/-- What is read may be laid down. -/
theorem read_valid {l : List Int} {s d : ByteArray} (hl : Bytes l) (h : perr l s d = 0) : Valid (sgOf l) ∧ (sgOf l).opt.size + 20 = hdOf l ∧ hdOf l ≤ l.length := by
  obtain ⟨h1, h2, h3, h4, h5, h6, h7⟩ := perr_zero h
  have a := w16_in hl 0; have b := w16_in hl 2; have c := w32_in hl 4; have e := w32_in hl 8
  have f := getD_in hl 13; have g := w16_in hl 14; have i := w16_in hl 18; have j := getD_in hl 12
  have hh : hdOf l = (l.getD 12 0 / 16 * 4).toNat := rfl
  have sz : (sgOf l).opt.size = hdOf l - 20 := by
    show (strOfNums _).size = _
    rw [str_size, List.length_take, List.length_drop]
    omega
  exact ⟨⟨a.1, a.2, b.1, b.2, g.1, g.2, i.1, i.2, c.1, c.2, e.1, e.2, f.1, f.2, by rw [sz]; omega, by rw [sz]; omega⟩, by rw [sz]; omega, by omega⟩
/-- .. and is the same again, but for its check. -/
theorem read_raw {l : List Int} {s d : ByteArray} (hl : Bytes l) (h : perr l s d = 0) : (sgOf l).raw (w16 l 16) (l.drop (hdOf l)) = l := by
  obtain ⟨h1, h2, h3, h4, h5, h6, h7⟩ := perr_zero h
  obtain ⟨V, vs, vh⟩ := read_valid hl h
  have opt : nums (sgOf l).opt = (l.drop 20).take (hdOf l - 20) := nums_str ((hl.drop 20).take _)
  have dd : l.drop (hdOf l) = (l.drop 20).drop (hdOf l - 20) := by rw [List.drop_drop]; congr 1; omega
  have o2 : nums (sgOf l).opt ++ l.drop (hdOf l) = l.drop 20 := by rw [opt, dd, List.take_append_drop]
  have osz : 16 * (5 + ((sgOf l).opt.size : Int) / 4) = l.getD 12 0 := by
    have hh : hdOf l = (l.getD 12 0 / 16 * 4).toNat := rfl
    have := getD_in hl 12
    omega
  unfold Sg.raw Sg.front Sg.back
  rw [o2, osz]
  obtain ⟨b0, b1, b2, b3, b4, b5, b6, b7, b8, b9, b10, b11, b12, b13, b14, b15, b16, b17, b18, b19, r, rfl⟩ := twenty h2
  have x0 := hl b0 (by simp); have x1 := hl b1 (by simp); have x2 := hl b2 (by simp); have x3 := hl b3 (by simp)
  have x4 := hl b4 (by simp); have x5 := hl b5 (by simp); have x6 := hl b6 (by simp); have x7 := hl b7 (by simp)
  have x8 := hl b8 (by simp); have x9 := hl b9 (by simp); have x10 := hl b10 (by simp); have x11 := hl b11 (by simp)
  have x14 := hl b14 (by simp); have x15 := hl b15 (by simp); have x16 := hl b16 (by simp); have x17 := hl b17 (by simp)
  have x18 := hl b18 (by simp); have x19 := hl b19 (by simp)
  clear opt dd o2 osz V vs vh h1 h2 h3 h4 h5 h6 h7 h hl
  simp only [sgOf, w16, w32, List.getD_cons_zero, List.getD_cons_succ, List.drop_succ_cons, List.drop_zero, List.cons_append, List.nil_append, List.cons.injEq, and_true]
  refine ⟨?_, ?_, ?_, ?_, ?_, ?_, ?_, ?_, ?_, ?_, ?_, ?_, ?_, ?_, ?_, ?_, ?_, ?_, ?_, ?_⟩
  all_goals first | trivial | omega
theorem read_bytes {l : List Int} {s d : ByteArray} (hl : Bytes l) (h : perr l s d = 0) : (sgOf l).bytes s d (l.drop (hdOf l)) = (sgOf l).raw ((sgOf l).sum s d (l.drop (hdOf l))) (l.drop (hdOf l)) ∧
    (w16 l 16 = (sgOf l).sum s d (l.drop (hdOf l)) ∨ (w16 l 16 = 65535 ∧ (sgOf l).sum s d (l.drop (hdOf l)) = 0)) := by
  refine ⟨rfl, ?_⟩
  obtain ⟨h1, h2, h3, h4, h5, h6, h7⟩ := perr_zero h
  obtain ⟨V, vs, vh⟩ := read_valid hl h
  have rr := read_raw hl h
  have k := w16_in hl 16
  have ld : (l.drop (hdOf l)).length = l.length - hdOf l := List.length_drop
  have b0 : Bytes ((sgOf l).raw 0 (l.drop (hdOf l))) := raw_bytes V (by decide) (by decide) (hl.drop _)
  have l0 := raw_len (sgOf l) 0 (l.drop (hdOf l))
  have l0' : ((sgOf l).raw 0 (l.drop (hdOf l))).length = l.length := by omega
  have t0 := ahead_pos h1 (p := 6) (n := (l.length : Int)) (by decide) (by omega)
  have t1 := tot_lo _ b0
  have e : (sgOf l).sum s d (l.drop (hdOf l)) = 65535 - fold (tot (Ahead.ahead s d 6 (l.length : Int)) + tot ((sgOf l).raw 0 (l.drop (hdOf l)))) := by
    unfold Sg.sum
    rw [whole_fold (by decide) (by decide) b0 (by omega), l0']
  rw [e]
  refine fold_plain (by omega) k.1 k.2 ?_
  rw [whole_fold (by decide) (by decide) hl (by omega)] at h7
  have := raw_tot (sgOf l) (w16 l 16) (l.drop (hdOf l))
  rw [rr] at this
  rw [Int.add_assoc, ← this]
  exact h7

/-- How much of a stream it takes. -/
def len (n : Nat) (flags : Int) : Int := n + (if flags / 2 % 2 = 1 then 1 else 0) + (if flags % 2 = 1 then 1 else 0)
theorem len_four (n : Nat) (f : Int) : len n f = n + (if 2 ≤ f % 4 then 1 else 0) + (if f % 4 % 2 = 1 then 1 else 0) := by
  unfold len
  repeat' split
  all_goals omega
end Go.Proofs.Ytadjkidjkgnkoaa.SegD
