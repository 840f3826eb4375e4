/- A packet as a value: its fields, whether it has an encoding, its head's bytes. No program is named but the kind of its numbers. -/
import Derived.Test.YtibfdacgdffpiaaDoorTot
import Derived.Test.YtibfdacgdffpiaaDoorAppend
namespace Go.Proofs.YtibfdacgdffpiaaDoor.Pkt
open Go.RowKit Go.Proofs.YtibfdacgdffpiaaDoor.Sums Go.Proofs.YtibfdacgdffpiaaDoor.Mem

structure Pkt where
  tos : Int
  id : Int
  ttl : Int
  proto : Int
  df : Bool
  mf : Bool
  off : Int
  src : ByteArray
  dst : ByteArray
  opt : ByteArray

def Pkt.zero : Pkt := ⟨0, 0, 0, 0, false, false, 0, ⟨#[]⟩, ⟨#[]⟩, ⟨#[]⟩⟩
/-- Is a number from 0 to another one? -/
def wi (n m : Int) : Bool := decide (0 ≤ n) && decide (n ≤ m)
theorem wi_true {n m : Int} (h : wi n m = true) : 0 ≤ n ∧ n ≤ m := by unfold wi at h; simpa using h
theorem wi_make {n m : Int} (h : 0 ≤ n) (k : n ≤ m) : wi n m = true := by unfold wi; simp [h, k]

def Pkt.ok (p : Pkt) : Bool :=
  wi p.tos 255 && (wi p.ttl 255 && (wi p.proto 255 && (wi p.id 65535 && (wi p.off 65528 && (decide (p.off % 8 = 0) && (decide (p.src.size = 4) && (decide (p.dst.size = 4) && (decide (p.opt.size ≤ 40) && decide (p.opt.size % 4 = 0)))))))))
/-- What Check says of a packet with n bytes of data. -/
def Pkt.chk (p : Pkt) (n : Nat) : Int := if p.ok = true then (if 65535 < 20 + p.opt.size + n then 2 else 0) else 1

structure Valid (p : Pkt) : Prop where
  t0 : 0 ≤ p.tos
  t1 : p.tos ≤ 255
  l0 : 0 ≤ p.ttl
  l1 : p.ttl ≤ 255
  p0 : 0 ≤ p.proto
  p1 : p.proto ≤ 255
  i0 : 0 ≤ p.id
  i1 : p.id ≤ 65535
  o0 : 0 ≤ p.off
  o1 : p.off ≤ 65528
  o8 : p.off % 8 = 0
  s : p.src.size = 4
  d : p.dst.size = 4
  z : p.opt.size ≤ 40
  z4 : p.opt.size % 4 = 0

theorem Pkt.ok_valid {p : Pkt} (h : p.ok = true) : Valid p := by
  simp only [Pkt.ok, wi, Bool.and_eq_true, decide_eq_true_eq] at h
  obtain ⟨⟨a1, a2⟩, ⟨b1, b2⟩, ⟨c1, c2⟩, ⟨d1, d2⟩, ⟨e1, e2⟩, f, g, h, i, j⟩ := h
  exact ⟨a1, a2, b1, b2, c1, c2, d1, d2, e1, e2, f, g, h, i, j⟩
theorem Valid.ok {p : Pkt} (h : Valid p) : p.ok = true := by
  simp only [Pkt.ok, wi, Bool.and_eq_true, decide_eq_true_eq]
  exact ⟨⟨h.t0, h.t1⟩, ⟨h.l0, h.l1⟩, ⟨h.p0, h.p1⟩, ⟨h.i0, h.i1⟩, ⟨h.o0, h.o1⟩, h.o8, h.s, h.d, h.z, h.z4⟩

/-- The field that holds the offset. -/
def Pkt.place (p : Pkt) : Int := p.off / 8 + (if p.df then 16384 else 0) + (if p.mf then 8192 else 0)
def Pkt.first (p : Pkt) : Int := 64 + (5 + (p.opt.size : Int) / 4)
def Pkt.total (p : Pkt) (n : Nat) : Int := 20 + p.opt.size + n

theorem Valid.place {p : Pkt} (h : Valid p) : 0 ≤ p.place ∧ p.place ≤ 32767 := by
  have := h.o0
  have := h.o1
  unfold Pkt.place
  split <;> split <;> omega

/-- The numbers of a head, laid down. -/
def numsOf (first tos total id place ttl proto sum : Int) : List Int :=
  [first, tos, total / 256, total % 256, id / 256, id % 256, place / 256, place % 256, ttl, proto, sum / 256, sum % 256]
def Pkt.rest (p : Pkt) : List Int := nums p.src ++ (nums p.dst ++ nums p.opt)
/-- The head's bytes, with a number in the place of the check. -/
def Pkt.head (p : Pkt) (n : Nat) (sum : Int) : List Int := numsOf p.first p.tos (p.total n) p.id p.place p.ttl p.proto sum ++ p.rest
/-- .. with its check. -/
def Pkt.sum (p : Pkt) (n : Nat) : Int := check (p.head n 0)
def Pkt.bytes (p : Pkt) (l : List Int) : List Int := p.head l.length (p.sum l.length) ++ l

theorem Pkt.head_len {p : Pkt} (h : Valid p) (n : Nat) (s : Int) : (p.head n s).length = 20 + p.opt.size := by
  simp [Pkt.head, numsOf, Pkt.rest, nums_len, h.s, h.d]; omega
theorem Pkt.head_bytes {p : Pkt} (h : Valid p) {n : Nat} (hn : 20 + p.opt.size + n ≤ 65535) {s : Int} (s0 : 0 ≤ s) (s1 : s ≤ 65535) : Bytes (p.head n s) := by
  have hp := h.place
  have := h.t0; have := h.t1; have := h.l0; have := h.l1; have := h.p0; have := h.p1; have := h.i0; have := h.i1; have := h.z
  refine Bytes.append ?_ ((nums_bytes _).append ((nums_bytes _).append (nums_bytes _)))
  intro z hz
  simp only [numsOf, Pkt.first, Pkt.total, List.mem_cons, List.not_mem_nil, or_false] at hz
  rcases hz with rfl | rfl | rfl | rfl | rfl | rfl | rfl | rfl | rfl | rfl | rfl | rfl <;> omega

end Go.Proofs.YtibfdacgdffpiaaDoor.Pkt
