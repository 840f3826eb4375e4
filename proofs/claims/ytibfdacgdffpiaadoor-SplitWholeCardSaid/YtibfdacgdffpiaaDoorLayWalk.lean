/- A head's numbers are laid down: walk, bytes. -/
import Derived.Test.YtibfdacgdffpiaaDoorLay
import Derived.OwnWalk
namespace Go.Proofs.YtibfdacgdffpiaaDoor.Lay
open Go.RowKit Go.Proofs.YtibfdacgdffpiaaDoor.Sums Go.Proofs.YtibfdacgdffpiaaDoor.Mem Go.Proofs.YtibfdacgdffpiaaDoor.Blk Go.Proofs.YtibfdacgdffpiaaDoor.Bits Go.Proofs.YtibfdacgdffpiaaDoor.Pkt

set_option maxHeartbeats 2000000 in
theorem walk_lay (g q base : Nat) (v : Value) (z0 z1 z2 z3 z4 z5 z6 z7 : Int) (w : World) (t : TypeId) (hg : Blk w g t #[.int .i64 z0, .int .i64 z1, .int .i64 z2, .int .i64 z3, .int .i64 z4, .int .i64 z5, .int .i64 z6, .int .i64 z7]) (hq : Blk w q 22 #[v]) (ho : Owns w base v 0 [])
    (l0 : 0 ≤ z0) (h0 : z0 ≤ 255) (l1 : 0 ≤ z1) (h1 : z1 ≤ 255) (l2 : 0 ≤ z2) (h2 : z2 ≤ 65535) (l3 : 0 ≤ z3) (h3 : z3 ≤ 65535) (l4 : 0 ≤ z4) (h4 : z4 ≤ 65535) (l5 : 0 ≤ z5) (h5 : z5 ≤ 255) (l6 : 0 ≤ z6) (h6 : z6 ≤ 255) (l7 : 0 ≤ z7) (h7 : z7 ≤ 65535) (hb : base ≤ q) (hgb : g < base) :
    Calls Tryd.prog 33 #[.pointer (some ⟨g, 0, none⟩), .func (.func 34) #[] #[.pointer (some ⟨q, 0, none⟩)]] w fun e w' => e = .returned (.tuple #[]) ∧
      ∃ v', Blk w' q 22 #[v'] ∧ Owns w' base v' 12 (numsOf z0 z1 z2 z3 z4 z5 z6 z7) ∧ Below base w w' := by
  have G := Lib.hid hg
  have Q := Lib.hid hq
  have O := Lib.hid ho
  clear hg hq ho
  go_enter Tryd.func33, Tryd.ntmps33
  go_wp2_with fail
  refine (lay_one g q 0 base 0 v [] z0 _ t _ G.out rfl Q.out O.out (by decide) l0 h0 hb).mono ?_
  rintro e w1 ⟨rfl, v1, q', o', b'⟩
  have Q1 := Lib.hid q'
  have O1 : Hid (Owns w1 base v1 1 [z0]) := Lib.hid o'
  have B1 := Lib.hid b'
  have G1 := Lib.hid (G.out.below b' hgb)
  clear q' o' b'
  go_wp2_with fail
  refine (lay_one g q 1 base 1 v1 [z0] z1 _ t _ G1.out rfl Q1.out O1.out (by decide) l1 h1 hb).mono ?_
  rintro e w2 ⟨rfl, v2, q', o', b'⟩
  have Q2 := Lib.hid q'
  have O2 : Hid (Owns w2 base v2 2 [z0, z1]) := Lib.hid o'
  have B2 := Lib.hid b'
  have G2 := Lib.hid (G1.out.below b' hgb)
  clear q' o' b'
  go_wp2_with fail
  refine (lay_two g q 2 base 2 v2 [z0, z1] z2 _ t _ G2.out rfl Q2.out O2.out (by decide) l2 h2 hb hgb).mono ?_
  rintro e w3 ⟨rfl, v3, q', o', b'⟩
  have Q3 := Lib.hid q'
  have O3 : Hid (Owns w3 base v3 4 [z0, z1, z2 / 256, z2 % 256]) := Lib.hid o'
  have B3 := Lib.hid b'
  have G3 := Lib.hid (G2.out.below b' hgb)
  clear q' o' b'
  go_wp2_with fail
  refine (lay_two g q 3 base 4 v3 [z0, z1, z2 / 256, z2 % 256] z3 _ t _ G3.out rfl Q3.out O3.out (by decide) l3 h3 hb hgb).mono ?_
  rintro e w4 ⟨rfl, v4, q', o', b'⟩
  have Q4 := Lib.hid q'
  have O4 : Hid (Owns w4 base v4 6 [z0, z1, z2 / 256, z2 % 256, z3 / 256, z3 % 256]) := Lib.hid o'
  have B4 := Lib.hid b'
  have G4 := Lib.hid (G3.out.below b' hgb)
  clear q' o' b'
  go_wp2_with fail
  refine (lay_two g q 4 base 6 v4 [z0, z1, z2 / 256, z2 % 256, z3 / 256, z3 % 256] z4 _ t _ G4.out rfl Q4.out O4.out (by decide) l4 h4 hb hgb).mono ?_
  rintro e w5 ⟨rfl, v5, q', o', b'⟩
  have Q5 := Lib.hid q'
  have O5 : Hid (Owns w5 base v5 8 [z0, z1, z2 / 256, z2 % 256, z3 / 256, z3 % 256, z4 / 256, z4 % 256]) := Lib.hid o'
  have B5 := Lib.hid b'
  have G5 := Lib.hid (G4.out.below b' hgb)
  clear q' o' b'
  go_wp2_with fail
  refine (lay_one g q 5 base 8 v5 [z0, z1, z2 / 256, z2 % 256, z3 / 256, z3 % 256, z4 / 256, z4 % 256] z5 _ t _ G5.out rfl Q5.out O5.out (by decide) l5 h5 hb).mono ?_
  rintro e w6 ⟨rfl, v6, q', o', b'⟩
  have Q6 := Lib.hid q'
  have O6 : Hid (Owns w6 base v6 9 [z0, z1, z2 / 256, z2 % 256, z3 / 256, z3 % 256, z4 / 256, z4 % 256, z5]) := Lib.hid o'
  have B6 := Lib.hid b'
  have G6 := Lib.hid (G5.out.below b' hgb)
  clear q' o' b'
  go_wp2_with fail
  refine (lay_one g q 6 base 9 v6 [z0, z1, z2 / 256, z2 % 256, z3 / 256, z3 % 256, z4 / 256, z4 % 256, z5] z6 _ t _ G6.out rfl Q6.out O6.out (by decide) l6 h6 hb).mono ?_
  rintro e w7 ⟨rfl, v7, q', o', b'⟩
  have Q7 := Lib.hid q'
  have O7 : Hid (Owns w7 base v7 10 [z0, z1, z2 / 256, z2 % 256, z3 / 256, z3 % 256, z4 / 256, z4 % 256, z5, z6]) := Lib.hid o'
  have B7 := Lib.hid b'
  have G7 := Lib.hid (G6.out.below b' hgb)
  clear q' o' b'
  go_wp2_with fail
  refine (lay_two g q 7 base 10 v7 [z0, z1, z2 / 256, z2 % 256, z3 / 256, z3 % 256, z4 / 256, z4 % 256, z5, z6] z7 _ t _ G7.out rfl Q7.out O7.out (by decide) l7 h7 hb hgb).mono ?_
  rintro e w8 ⟨rfl, v8, q', o', b'⟩
  have Q8 := Lib.hid q'
  have O8 : Hid (Owns w8 base v8 12 [z0, z1, z2 / 256, z2 % 256, z3 / 256, z3 % 256, z4 / 256, z4 % 256, z5, z6, z7 / 256, z7 % 256]) := Lib.hid o'
  have B8 := Lib.hid b'
  have G8 := Lib.hid (G7.out.below b' hgb)
  clear q' o' b'
  go_wp2_with fail
  go_end0
  exact ⟨rfl, _, Q8.out, O8.out, ((((((B1.out.trans B2.out).trans B3.out).trans B4.out).trans B5.out).trans B6.out).trans B7.out).trans B8.out⟩

end Go.Proofs.YtibfdacgdffpiaaDoor.Lay
