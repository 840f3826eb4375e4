/- The law SegOffers. -/
import Derived.Test.YtadjkidjkgnkoaaSegA
import Derived.Test.YtadjkidjkgnkoaaMssR
set_option linter.unusedVariables false
namespace Go.Proofs.Ytadjkidjkgnkoaa.LawOffers
open Go.RowKit Go.Sort Go.Proofs.Ytadjkidjkgnkoaa.Sums Go.Proofs.Ytadjkidjkgnkoaa.Words Go.Proofs.Ytadjkidjkgnkoaa.Mem Go.Proofs.Ytadjkidjkgnkoaa.Ahead Go.Proofs.Ytadjkidjkgnkoaa.SegD Go.Proofs.Ytadjkidjkgnkoaa.Blk Go.Proofs.Ytadjkidjkgnkoaa.Bits Go.Proofs.Ytadjkidjkgnkoaa.InetSum Go.Proofs.Ytadjkidjkgnkoaa.Steps Go.Proofs.Ytadjkidjkgnkoaa.Free Go.Proofs.Ytadjkidjkgnkoaa.Cut
open Go.PlainAid Go.Proofs.Ytadjkidjkgnkoaa.OptS Go.Proofs.Ytadjkidjkgnkoaa.MssR Go.Proofs.Ytadjkidjkgnkoaa.Mss2 Go.Proofs.Ytadjkidjkgnkoaa.Seg7 Go.Proofs.Ytadjkidjkgnkoaa.SegA

def Yes (w : World) (e : Ending) (w' : World) : Prop := e = .returned (.bool true) ∧ Below w.heap.size w w'

theorem bt_nums (s : ByteArray) (i : Nat) : bt s i = (nums s).getD i 0 := by
  unfold bt nums
  rw [List.getD_eq_getElem?_getD, List.getElem?_map]
  split
  · next h =>
    have : s.data.toList[i]? = some (s[i]'h) := by
      rw [List.getElem?_eq_getElem (show i < s.data.toList.length from h)]
      rfl
    rw [this]
    rfl
  · next h =>
    rw [List.getElem?_eq_none (show s.data.toList.length ≤ i from Nat.le_of_not_lt h)]
    rfl
theorem bt_str {l : List Int} (h : Bytes l) (i : Nat) : bt (strOfNums l) i = l.getD i 0 := by rw [bt_nums, nums_str h]
/-- The text of the law, with an offer in its midst. -/
def txt (n : Int) : ByteArray := (⟨#[1, 3, 3, 7]⟩ : ByteArray) ++ offerS n ++ ⟨#[2, 4, 0, 9, 0, 2]⟩
theorem offer_size (n : Int) : (offerS n).size ≤ 4 := by
  unfold offerS
  split
  · decide
  · rw [str_size]; exact Nat.le_refl _
theorem txt_size (n : Int) : (txt n).size ≤ 1048576 := by
  have : (offerS n).size ≤ 4 := by
    unfold offerS
    split
    · decide
    · rw [str_size]; exact Nat.le_refl _
  unfold txt
  rw [ByteArray.size_append, ByteArray.size_append]
  show 4 + (offerS n).size + 6 ≤ _
  omega
theorem txt_str {n : Int} (h : 1 ≤ n) (k : n ≤ 65535) : txt n = strOfNums [1, 3, 3, 7, 2, 4, n / 256, n % 256, 2, 4, 0, 9, 0, 2] := by
  unfold txt
  rw [offer_on h k]
  apply ByteArray.ext
  simp only [ByteArray.data_append, strOfNums]
  rfl
theorem mss_txt {n : Int} (h : 1 ≤ n) (k : n ≤ 65535) : mss (txt n) = (n, 0) := by
  rw [txt_str h k]
  obtain ⟨l, hl⟩ : ∃ l, l = [1, 3, 3, 7, 2, 4, n / 256, n % 256, 2, 4, 0, 9, 0, 2] := ⟨_, rfl⟩
  have hb : Bytes l := by
    rw [hl]; intro z hz; simp at hz; omega
  have B := bt_str hb
  have z : (strOfNums l).size = 14 := by rw [str_size, hl]; rfl
  rw [← hl]
  generalize strOfNums l = s at *
  have b0 : bt s 0 = 1 := by rw [B, hl]; rfl
  have b1 : bt s 1 = 3 := by rw [B, hl]; rfl
  have b2 : bt s 2 = 3 := by rw [B, hl]; rfl
  have b4 : bt s 4 = 2 := by rw [B, hl]; rfl
  have b5 : bt s 5 = 4 := by rw [B, hl]; rfl
  have b6 : bt s 6 = n / 256 := by rw [B, hl]; rfl
  have b7 : bt s 7 = n % 256 := by rw [B, hl]; rfl
  have b8 : bt s 8 = 2 := by rw [B, hl]; rfl
  have b9 : bt s 9 = 4 := by rw [B, hl]; rfl
  have b12 : bt s 12 = 0 := by rw [B, hl]; rfl
  have e : optsS s = some [((1 : Int), (⟨#[]⟩ : ByteArray)), (3, s.extract 3 4), (2, s.extract 6 8), (2, s.extract 10 12)] := by
    rw [← at_start s, at_nop s 0 (by omega) b0, at_go s 1 3 (by omega) (by omega) (by omega) (by rw [b2]; rfl) (by omega) (by omega), at_go s 4 4 (by omega) (by omega) (by omega) (by rw [b5]; rfl) (by omega) (by omega),
      at_go s 8 4 (by omega) (by omega) (by omega) (by rw [b9]; rfl) (by omega) (by omega), at_zero s 12 (by omega) b12, b1, b4, b8]
    simp only [at_start]
    rfl
  have x3 : (s.extract 6 8).size = 2 := by rw [ByteArray.size_extract]; omega
  have p : pick [((1 : Int), (⟨#[]⟩ : ByteArray)), (3, s.extract 3 4), (2, s.extract 6 8), (2, s.extract 10 12)] = n := by
    rw [pick, if_neg (by omega), pick, if_neg (by omega), pick, if_pos ⟨rfl, x3⟩, bt_extract s 6 8 0 (by omega) (by omega), bt_extract s 6 8 1 (by omega) (by omega)]
    rw [show bt s (6 + 0) = n / 256 from b6, show bt s (6 + 1) = n % 256 from b7]
    omega
  unfold mss
  rw [e]
  simp only [p]
  rw [if_neg (by omega)]

set_option maxHeartbeats 2000000 in
set_option maxRecDepth 100000 in
theorem offers_any (s : ByteArray) (n : Int) (w : World) (hs : s.size ≤ 140737488355328) :
    Calls Try.prog 5 #[.string s, .int .i64 n] w (Yes w) := by
  by_cases hq : 300 < s.size
  · have b4 : ((300 : Int) < (s.size : Int)) = True := eq_true (by omega)
    clear hq
    go_enter Try.func5, Try.ntmps5
    go_wp2_with fail
    go_ret
    exact ⟨rfl, Below.refl _ _⟩
  have b4 : ((300 : Int) < (s.size : Int)) = False := eq_false (by omega)
  have M1 := Lib.hid (fun W => mss_any s (by omega) W)
  have M2 := Lib.hid (fun W => mss_ref s W (by omega))
  have O1 := Lib.hid (fun W => offer_any n W)
  have O2 := Lib.hid (fun W => offer_ref n W)
  have M3 := Lib.hid (fun W => mss_any (txt n) (txt_size n) W)
  have oz : (offerS n).size ≤ 4 := offer_size n
  have T : Hid (txt n = (⟨#[1, 3, 3, 7]⟩ : ByteArray) ++ offerS n ++ ⟨#[2, 4, 0, 9, 0, 2]⟩) := Lib.hid rfl
  have MT := Lib.hid (fun h k => mss_txt (n := n) h k)
  generalize mss s = a at *
  obtain ⟨a1, a2⟩ := a
  clear hq
  go_enter Try.func5, Try.ntmps5
  go_wp2_with fail
  refine (M1.out _).mono ?_
  rintro e w1 ⟨rfl, hb⟩
  have B1 := Lib.hid hb
  clear hb
  go_wp2_with fail
  refine (M2.out _).mono ?_
  rintro e w2 ⟨rfl, hb⟩
  have B2 := Lib.hid (B1.out.trans (hb.mono B1.out.size))
  clear hb B1
  go_wp2_with fail
  refine (O1.out _).mono ?_
  rintro e w3 ⟨rfl, hb⟩
  have B3 := Lib.hid (B2.out.trans (hb.mono B2.out.size))
  clear hb B2
  rw [T.out] at M3
  go_wp2_with fail
  refine (M3.out _).mono ?_
  rintro e w4 ⟨rfl, hb⟩
  have B4 := Lib.hid (B3.out.trans (hb.mono B3.out.size))
  rw [← T.out]
  clear hb B3 T
  by_cases q1 : 1 ≤ n
  · have q1' : decide (1 ≤ n) = true := decide_eq_true q1
    by_cases q2 : n ≤ 65535
    · have q2' : decide (n ≤ 65535) = true := decide_eq_true q2
      rw [MT.out q1 q2]
      clear q1 q2 MT
      go_wp2_with fail
      refine (awake_any _).mono ?_
      rintro e w5 ⟨rfl, hb⟩
      have B5 := Lib.hid (B4.out.trans (hb.mono B4.out.size))
      clear hb B4
      go_wp2_with fail
      refine (O2.out _).mono ?_
      rintro e w6 ⟨rfl, hb⟩
      have B6 := Lib.hid (B5.out.trans (hb.mono B5.out.size))
      go_wp2_with fail
      go_ret
      exact ⟨rfl, B6.out⟩
    · have q2' : decide (n ≤ 65535) = false := decide_eq_false q2
      clear q1 q2 MT
      generalize mss (txt n) = z at *
      go_wp2_with fail
      refine (awake_any _).mono ?_
      rintro e w5 ⟨rfl, hb⟩
      have B5 := Lib.hid (B4.out.trans (hb.mono B4.out.size))
      clear hb B4
      go_wp2_with fail
      refine (O2.out _).mono ?_
      rintro e w6 ⟨rfl, hb⟩
      have B6 := Lib.hid (B5.out.trans (hb.mono B5.out.size))
      go_wp2_with fail
      go_ret
      exact ⟨rfl, B6.out⟩
  · have q1' : decide (1 ≤ n) = false := decide_eq_false q1
    clear q1 MT
    generalize mss (txt n) = z at *
    go_wp2_with fail
    refine (awake_any _).mono ?_
    rintro e w5 ⟨rfl, hb⟩
    have B5 := Lib.hid (B4.out.trans (hb.mono B4.out.size))
    clear hb B4
    go_wp2_with fail
    refine (O2.out _).mono ?_
    rintro e w6 ⟨rfl, hb⟩
    have B6 := Lib.hid (B5.out.trans (hb.mono B5.out.size))
    go_wp2_with fail
    go_ret
    exact ⟨rfl, B6.out⟩
end Go.Proofs.Ytadjkidjkgnkoaa.LawOffers
