/- Walks over the bits package: widened, Trim, Set, Clear, Get, Low. -/
import Derived.Test.YtcognpfihojphaaW2
import Derived.Deep.RegionHeld3
namespace Go.Proofs.Ytcognpfihojphaa
open Go.RowKit

/-- a vector with words 0 behind it up to n words -/
def padv (xs : List (BitVec 64)) (n : Nat) : List (BitVec 64) := xs ++ List.replicate (n - xs.length) 0#64
theorem len_padv (xs : List (BitVec 64)) (n : Nat) : (padv xs n).length = max xs.length n := by simp [padv]; omega
theorem wd_padv (xs : List (BitVec 64)) (n j : Nat) : wd (padv xs n) j = wd xs j := by
  unfold wd padv
  simp only [List.getD, List.getElem?_append]
  by_cases h : j < xs.length
  · rw [if_pos h]
  · rw [if_neg h, List.getElem?_eq_none (show xs.length ≤ j by omega)]
    rw [List.getElem?_replicate]
    split <;> rfl

/-- what a call leaves that gives a new row, whole -/
def GivesOwn (w : World) (ys : List (BitVec 64)) (e : Ending) (w' : World) : Prop :=
  ∃ g, e = .returned (.slice (some ⟨g, 0, none⟩) ys.length ys.length) ∧ Own w' g ys ∧ w.heap.size ≤ g ∧ Below w.heap.size w w'

theorem Try.size45 : (Try.prog.info? 22).map (·.size) = some 1 := by kernel_rfl

theorem splice_cells (xs : List (BitVec 64)) (n : Nat) (h : xs.length ≤ n) : splice (cellsOf (List.replicate n 0#64)) 0 (cellsOf xs) = cellsOf (padv xs n) := by
  simp [splice, cellsOf, padv]

theorem cells_src {w : World} {A : Option Addr} {xs : List (BitVec 64)} (h : U64s w A xs) (h0 : 0 < xs.length) : ∃ ad, A = some ad ∧ ∀ j v, (cellsOf xs)[j]? = some v → w.cell? (ad.add j) = some v := by
  obtain ⟨b, off, e, hlt, hc⟩ := h h0
  refine ⟨⟨b, off, none⟩, e, fun j v hv => ?_⟩
  have hj : j < xs.length := by
    rcases Nat.lt_or_ge j xs.length with h | h
    · exact h
    · rw [List.getElem?_eq_none (by rw [len_cellsOf]; exact h)] at hv; cases hv
  have e2 : (⟨b, off, none⟩ : Addr).add j = ⟨b, off + j, none⟩ := by unfold Addr.add; split <;> simp_all
  rw [e2, hc j hj]
  simp [cellsOf, hj] at hv
  rw [← hv]
  simp [wd, List.getD, hj]
theorem cells_one (xs : List (BitVec 64)) : ∀ v ∈ cellsOf xs, v.oneCell' = true := by
  intro v hv
  simp [cellsOf] at hv
  obtain ⟨x, _, rfl⟩ := hv
  rfl

set_option maxHeartbeats 400000 in
theorem widened_any (A : Option Addr) (c l n : Nat) (xs : List (BitVec 64)) (w : World) (hx : U64s w A xs) (hc : xs.length ≤ c) (lx : xs.length ≤ 35184372088832) (ll : l ≤ 35184372088832) (hn : n = max (canon xs).length l) :
    Calls Try.prog 31 #[.slice A xs.length c, .int .i64 l] w (GivesOwn w (padv (canon xs) n)) := by
  have hone := oneForm_any A c xs w hx hc (by omega)
  have lc := canon_le xs
  have lN : (canon xs).length ≤ n := by omega
  have lN2 : n ≤ 35184372088832 := by omega
  have hmk := run_make_row' (P := Try.prog) 80 22 (.int .u64 0) 8 Try.underlying80 Try.info22 rfl .i64 .i64 n (by omega) (by omega)
  have HX := Lib.hid hx.canon
  have HLP := Lib.hid (len_padv (canon xs) n)
  have HS := Lib.hid (splice_cells (canon xs) n lN)
  generalize canon xs = ys at *
  have hmax : (if ys.length < l then (l : Int) else (ys.length : Int)) = (n : Int) := by split <;> omega
  have HN := Lib.hid hn; clear hn hx
  have ha := own_made w n
  have hb : Below w.heap.size w (w.alloc (.cells (madeCells #[.int .u64 0] n) 22)) := (Below.refl _ _).alloc (Nat.le_refl _) _
  have HH := Lib.hid hone; clear hone
  go_enter Try.func31, Try.ntmps31
  go_wp2_with fail
  refine HH.out.mono ?_
  rintro e w' ⟨rfl, rfl⟩
  go_wp2_with (refine wpList_copy_splice rfl (.tmp 13) (.tmp 14) 80 80 rfl 22 Try.underlying80 Try.size45 (some ⟨w.heap.size, 0, none⟩) A n n ys.length c rfl rfl w.heap.size 0 (cellsOf (List.replicate n 0#64)) 22 ha (cellsOf ys) ?hn ?hpos ?hfit (cells_one ys) w.heap.size w hb (Nat.le_refl _) ?_)
  case hn => rw [len_cellsOf]; exact (Nat.min_eq_left lN).symm
  case hpos => intro h0; rw [len_cellsOf] at h0; first | exact cells_src (HX.out.below hb) h0 | exact ⟨rfl, cells_src (HX.out.below hb) h0⟩
  case hfit => simp [len_cellsOf]; omega
  intro w2 HG hb2
  clear ha hb hmax hmk
  go_wp2
  go_ret
  have hl : (padv ys n).length = n := by rw [HLP.out]; omega
  refine ⟨w.heap.size, ?_, ?_, Nat.le_refl _, hb2⟩
  · rw [hl]; rfl
  · have := HG.out; rw [HS.out] at this; exact this

theorem padv_self (xs : List (BitVec 64)) (n : Nat) (h : n ≤ xs.length) : padv xs n = xs := by simp [padv, Nat.sub_eq_zero_of_le h]

theorem get_no (A : Option Addr) (c : Nat) (xs : List (BitVec 64)) (i : Int) (w : World) (hi : i < 0) :
    Calls Try.prog 62 #[.slice A xs.length c, .int .i64 i] w fun e w' => e = .returned (.bool false) ∧ w = w' := by
  go_enter Try.func62, Try.ntmps62
  go_wp2
  go_ret
  exact ⟨rfl, rfl⟩

theorem and_mask (x : BitVec 64) (k : Nat) (hk : k < 64) : (uv (x &&& 1#64 <<< k) != 0) = x.getLsbD k := by
  have h1 : (uv (x &&& 1#64 <<< k) == 0) = decide (x &&& 1#64 <<< k = 0#64) := uv_eq_zero _
  rw [bne, h1]
  rw [Bool.eq_iff_iff]
  simp only [Bool.not_eq_true', decide_eq_false_iff_not]
  constructor
  · intro h
    cases hb : x.getLsbD k with
    | true => rfl
    | false =>
      exfalso; apply h
      apply BitVec.eq_of_getLsbD_eq
      intro l hl
      simp only [BitVec.getLsbD_and, BitVec.getLsbD_shiftLeft, BitVec.getLsbD_zero]
      by_cases hlk : l = k
      · subst hlk; simp [hb]
      · by_cases h2 : l < k
        · simp [h2]
        · have : ¬ (l - k = 0) := by omega
          simp [BitVec.getLsbD_one, this]
  · intro h h0
    have h2 : (x &&& 1#64 <<< k).getLsbD k = true := by simp [h, hk]
    rw [h0] at h2
    simp at h2

set_option maxHeartbeats 400000 in
theorem get_any (A : Option Addr) (c i : Nat) (xs : List (BitVec 64)) (w : World) (hx : U64s w A xs) (lx : xs.length ≤ 35184372088832) (hi : i ≤ 9223372036854775807) :
    Calls Try.prog 62 #[.slice A xs.length c, .int .i64 i] w fun e w' => e = .returned (.bool (bit xs i)) ∧ w = w' := by
  have h1 := word_any A c xs (i / 64) w hx (by omega)
  have h2 := mask_any i w hi
  have H1 := Lib.hid h1; have H2 := Lib.hid h2; clear h1 h2
  have hb : (uv (wd xs (i / 64) &&& 1#64 <<< (i % 64)) != 0) = bit xs i := and_mask _ _ (by omega)
  have HBB := Lib.hid hb; clear hb
  go_enter Try.func62, Try.ntmps62
  go_wp2_with fail
  refine H1.out.mono ?_
  rintro e w' ⟨rfl, rfl⟩
  go_wp2_with fail
  refine H2.out.mono ?_
  rintro e w' ⟨rfl, rfl⟩
  go_wp2
  go_ret
  refine ⟨?_, rfl⟩
  rw [← HBB.out, ← uv_and]
  rfl

/-- with the bit i set -/
def setv (xs : List (BitVec 64)) (i : Nat) : List (BitVec 64) :=
  let ys := padv (canon xs) (max (canon xs).length (i / 64 + 1))
  ys.set (i / 64) (wd ys (i / 64) ||| 1#64 <<< (i % 64))

/-- what Set leaves where the place is right -/
def GivesOk (w : World) (ys : List (BitVec 64)) (e : Ending) (w' : World) : Prop :=
  ∃ A c, e = .returned (.tuple #[.slice A ys.length c, .int .i64 0]) ∧ ys.length ≤ c ∧ U64s w' A ys ∧ Fre w' w.heap.size A ys.length ∧ Below w.heap.size w w'

set_option maxHeartbeats 400000 in
theorem set_no (A : Option Addr) (c : Nat) (xs : List (BitVec 64)) (i : Int) (w : World) (hi : i < 0 ∨ 65536 ≤ i) :
    Calls Try.prog 29 #[.slice A xs.length c, .int .i64 i] w fun e w' => e = .returned (.tuple #[.slice none 0 0, .int .i64 2]) ∧ w = w' := by
  have h1 := isPlace_no i w hi
  have H1 := Lib.hid h1; clear h1 hi
  go_enter Try.func29, Try.ntmps29
  go_wp2_with fail
  refine H1.out.mono ?_
  rintro e w' ⟨rfl, rfl⟩
  go_wp2
  go_ret2
  exact ⟨rfl, rfl⟩

theorem own_store {w w' : World} {g : Nat} {ys : List (BitVec 64)} (h : Own w' g ys) (hg : w.heap.size ≤ g) (hb : Below w.heap.size w w') (k : Nat) (x : BitVec 64) :
    Own (w'.setCell ⟨g, k, none⟩ (.int .u64 (uv x))).drew g (ys.set k x) ∧ Below w.heap.size w (w'.setCell ⟨g, k, none⟩ (.int .u64 (uv x))).drew :=
  ⟨h.set_ k x, (hb.setCell hg _).drew⟩
theorem own_fre {w w' : World} {g : Nat} {ys : List (BitVec 64)} (h : Own w' g ys) (hg : w.heap.size ≤ g) (n : Nat) : Fre w' w.heap.size (some ⟨g, 0, none⟩) n :=
  fun _ => ⟨g, 0, rfl, hg, fun j _ => by rw [Nat.zero_add]; exact h.frozen j⟩

set_option maxHeartbeats 400000 in
theorem set_any (A : Option Addr) (c i : Nat) (xs : List (BitVec 64)) (w : World) (hx : U64s w A xs) (hc : xs.length ≤ c) (lx : xs.length ≤ 35184372088832) (hi : i < 65536) :
    Calls Try.prog 29 #[.slice A xs.length c, .int .i64 i] w (GivesOk w (setv xs i)) := by
  have H1 := Lib.hid (isPlace_yes (i : Int) w (by omega) (by omega))
  have hw := widened_any A c (i / 64 + 1) _ xs w hx hc lx (by omega) rfl
  rw [show (((i / 64 + 1 : Nat)) : Int) = (i : Int) / 64 + 1 by omega] at hw
  have H2 := Lib.hid hw; clear hw
  have hln := len_padv (canon xs) (max (canon xs).length (i / 64 + 1))
  have hlt : i / 64 < (padv (canon xs) (max (canon xs).length (i / 64 + 1))).length := by omega
  have hlm : (padv (canon xs) (max (canon xs).length (i / 64 + 1))).length ≤ 35184372088832 := by have := canon_le xs; omega
  have HD : Hid (setv xs i = (padv (canon xs) (max (canon xs).length (i / 64 + 1))).set (i / 64) (wd (padv (canon xs) (max (canon xs).length (i / 64 + 1))) (i / 64) ||| 1#64 <<< (i % 64))) := rfl
  generalize padv (canon xs) (max (canon xs).length (i / 64 + 1)) = ys at *
  clear hln
  go_enter Try.func29, Try.ntmps29
  go_wp2_with fail
  refine H1.out.mono ?_
  rintro e w' ⟨rfl, rfl⟩
  go_wp2_with fail
  refine H2.out.mono ?_
  rintro e w' ⟨g, rfl, hown, hg, hb⟩
  have hce := hown.cell (i / 64) hlt
  have hfz := hown.frozen (i / 64)
  have HO := Lib.hid hown; have HB := Lib.hid hb
  clear hown hb H1 H2 hx
  go_wp2_with fail
  have q1 : (0 : Int) ≤ (i : Int) / 64 := by omega
  have q2 : (i : Int) / 64 < (ys.length : Int) := by omega
  have q3 : ((i : Int) / 64).toNat = i / 64 := by omega
  have q5 : IntKind.i64.wrap ((i : Int) / 64) = (i : Int) / 64 := IntWalk.i64_in _ (by omega)
  have q4 : (i : Int).tdiv 64 = (i : Int) / 64 := by rw [Int.tdiv_eq_ediv_of_nonneg (by omega)]
  go_region_with (go_at_call 32; refine (mask_any i _ (by omega)).mono ?_; rintro e w' ⟨rfl, rfl⟩)
  all_goals
    simp only [uv_or]
    obtain ⟨h5, h6⟩ := own_store HO.out hg HB.out (i / 64) (wd ys (i / 64) ||| 1#64 <<< (i % 64))
    have H5 := Lib.hid h5; have H6 := Lib.hid h6; clear h5 h6
    go_wp2
    go_ret2
    have hd := HD.out
    rw [hd]
    exact ⟨_, _, by rw [List.length_set]; rfl, by rw [List.length_set]; exact Nat.le_refl _, H5.out.u64s, own_fre H5.out hg _, H6.out⟩

/-- with the bit i not set -/
def clearv (xs : List (BitVec 64)) (i : Nat) : List (BitVec 64) :=
  if i / 64 < (canon xs).length then canon ((canon xs).set (i / 64) (wd (canon xs) (i / 64) &&& ~~~(1#64 <<< (i % 64)))) else canon xs

set_option maxHeartbeats 400000 in
theorem clear_no (A : Option Addr) (c : Nat) (xs : List (BitVec 64)) (i : Int) (w : World) (hx : U64s w A xs) (hc : xs.length ≤ c) (lx : xs.length ≤ 35184372088832) (hi : i < 0) :
    Calls Try.prog 63 #[.slice A xs.length c, .int .i64 i] w (Gives w (canon xs)) := by
  have hw := widened_any A c 0 _ xs w hx hc lx (by omega) rfl
  rw [padv_self _ _ (by omega)] at hw
  have H2 := Lib.hid hw; clear hw
  have hlm : (canon xs).length ≤ 35184372088832 := by have := canon_le xs; omega
  have HC := Lib.hid (canon_of_can _ (can_canon xs))
  generalize canon xs = ys at *
  go_enter Try.func63, Try.ntmps63
  go_wp2_with fail
  refine H2.out.mono ?_
  rintro e w' ⟨g, rfl, hown, hg, hb⟩
  have HO := Lib.hid hown; have HB := Lib.hid hb
  clear hown hb H2 hx
  go_wp2_with fail
  refine (oneForm_any _ _ ys w' HO.out.u64s (Nat.le_refl _) (by omega)).mono ?_
  rintro e w2 ⟨rfl, rfl⟩
  go_wp2
  go_ret
  rw [HC.out]
  exact ⟨_, _, rfl, Nat.le_refl _, HO.out.u64s, own_fre HO.out hg _, HB.out⟩

set_option maxHeartbeats 400000 in
theorem clear_out (A : Option Addr) (c i : Nat) (xs : List (BitVec 64)) (w : World) (hx : U64s w A xs) (hc : xs.length ≤ c) (lx : xs.length ≤ 35184372088832) (hi : i ≤ 9223372036854775807) (hk : ¬ i / 64 < (canon xs).length) :
    Calls Try.prog 63 #[.slice A xs.length c, .int .i64 i] w (Gives w (canon xs)) := by
  have hw := widened_any A c 0 _ xs w hx hc lx (by omega) rfl
  rw [padv_self _ _ (by omega)] at hw
  have H2 := Lib.hid hw; clear hw
  have hlm : (canon xs).length ≤ 35184372088832 := by have := canon_le xs; omega
  have HC := Lib.hid (canon_of_can _ (can_canon xs))
  generalize canon xs = ys at *
  go_enter Try.func63, Try.ntmps63
  go_wp2_with fail
  refine H2.out.mono ?_
  rintro e w' ⟨g, rfl, hown, hg, hb⟩
  have HO := Lib.hid hown; have HB := Lib.hid hb
  clear hown hb H2 hx
  go_wp2_with fail
  refine (oneForm_any _ _ ys w' HO.out.u64s (Nat.le_refl _) (by omega)).mono ?_
  rintro e w2 ⟨rfl, rfl⟩
  go_wp2
  go_ret
  rw [HC.out]
  exact ⟨_, _, rfl, Nat.le_refl _, HO.out.u64s, own_fre HO.out hg _, HB.out⟩

set_option maxHeartbeats 800000 in
theorem clear_in (A : Option Addr) (c i : Nat) (xs : List (BitVec 64)) (w : World) (hx : U64s w A xs) (hc : xs.length ≤ c) (lx : xs.length ≤ 35184372088832) (hi : i ≤ 9223372036854775807) (hk : i / 64 < (canon xs).length) :
    Calls Try.prog 63 #[.slice A xs.length c, .int .i64 i] w (Gives w (canon ((canon xs).set (i / 64) (wd (canon xs) (i / 64) &&& ~~~(1#64 <<< (i % 64)))))) := by
  have hw := widened_any A c 0 _ xs w hx hc lx (by omega) rfl
  rw [padv_self _ _ (by omega)] at hw
  have H2 := Lib.hid hw; clear hw
  have hlm : (canon xs).length ≤ 35184372088832 := by have := canon_le xs; omega
  generalize canon xs = ys at *
  go_enter Try.func63, Try.ntmps63
  go_wp2_with fail
  refine H2.out.mono ?_
  rintro e w' ⟨g, rfl, hown, hg, hb⟩
  have hce := hown.cell (i / 64) hk
  have hfz := hown.frozen (i / 64)
  have HO := Lib.hid hown; have HB := Lib.hid hb
  clear hown hb H2 hx
  go_wp2_with fail
  have q1 : (0 : Int) ≤ (i : Int) / 64 := by omega
  have q2 : (i : Int) / 64 < (ys.length : Int) := by omega
  have q3 : ((i : Int) / 64).toNat = i / 64 := by omega
  have q5 : IntKind.i64.wrap ((i : Int) / 64) = (i : Int) / 64 := IntWalk.i64_in _ (by omega)
  have q4 : (i : Int).tdiv 64 = (i : Int) / 64 := by rw [Int.tdiv_eq_ediv_of_nonneg (by omega)]
  go_region_with (go_at_call 32; refine (mask_any i _ (by omega)).mono ?_; rintro e w' ⟨rfl, rfl⟩)
  all_goals
    clear q1 q2 q3 q4 q5
    simp only [uv_andNot]
    obtain ⟨h5, h6⟩ := own_store HO.out hg HB.out (i / 64) (wd ys (i / 64) &&& ~~~(1#64 <<< (i % 64)))
    have hln : (ys.set (i / 64) (wd ys (i / 64) &&& ~~~(1#64 <<< (i % 64)))).length = ys.length := List.length_set
    have h1 := oneForm_any _ ys.length _ _ h5.u64s (by rw [hln]; exact Nat.le_refl _) (by rw [hln]; omega)
    have hg5 := gives_own h5 hg h6
    rw [hln] at h1 hg5
    have H5 := Lib.hid hg5; have H6 := Lib.hid h1
    clear h5 h6 h1 hg5 hln
    go_wp2_with fail
    refine H6.out.mono ?_
    rintro e w2 ⟨rfl, rfl⟩
    go_wp2
    go_ret
    exact H5.out
end Go.Proofs.Ytcognpfihojphaa
