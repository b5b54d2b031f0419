/- Walks: Of. -/
import Derived.Test.YtngblecgikhgdaaDoorW7
namespace Go.Proofs.YtngblecgikhgdaaDoor
open Go.RowKit

/-- a list with the bit i set in its word -/
def set1 (L : List (BitVec 64)) (i : Nat) : List (BitVec 64) := L.set (i / 64) (wd L (i / 64) ||| 1#64 <<< (i % 64))
theorem len_set1 (L : List (BitVec 64)) (i : Nat) : (set1 L i).length = L.length := List.length_set
theorem bit_set1 (L : List (BitVec 64)) (i j : Nat) (h : i / 64 < L.length) : bit (set1 L i) j = (bit L j || decide (j = i)) := by
  show (wd (set1 L i) (j / 64)).getLsbD (j % 64) = ((wd L (j / 64)).getLsbD (j % 64) || decide (j = i))
  have hw : wd (set1 L i) (j / 64) = if j / 64 = i / 64 then wd L (i / 64) ||| 1#64 <<< (i % 64) else wd L (j / 64) := by
    unfold set1 wd
    simp only [List.getD, List.getElem?_set]
    by_cases e : j / 64 = i / 64
    · rw [if_pos e.symm, if_pos h, if_pos e]; rfl
    · rw [if_neg (fun h => e h.symm), if_neg e]
  rw [hw]
  by_cases e : j / 64 = i / 64
  · rw [if_pos e, BitVec.getLsbD_or, BitVec.getLsbD_shiftLeft, e]
    congr 1
    by_cases h2 : j = i
    · subst h2; simp; omega
    · have h3 : j % 64 ≠ i % 64 := by omega
      rw [decide_eq_false h2]
      by_cases h4 : j % 64 < i % 64
      · simp [h4]
      · have : j % 64 - i % 64 ≠ 0 := by omega
        simp [BitVec.getLsbD_one, this]
  · rw [if_neg e, decide_eq_false (by omega), Bool.or_false]

theorem can_of_bit (L : List (BitVec 64)) (i : Nat) (h : 0 < L.length → i / 64 = L.length - 1 ∧ bit L i = true) : Can L := by
  intro h0
  obtain ⟨h1, h2⟩ := h h0
  intro hz
  unfold bit at h2
  rw [h1, hz] at h2
  simp at h2

def nz (zs : List Int) (k : Nat) : Nat := (zd zs k).toNat
/-- the least number of words for the first k places -/
def topw (zs : List Int) : Nat → Nat
  | 0 => 0
  | k + 1 => max (topw zs k) (nz zs k / 64 + 1)
def ofk (zs : List Int) (n : Nat) : Nat → List (BitVec 64)
  | 0 => List.replicate n 0#64
  | k + 1 => set1 (ofk zs n k) (nz zs k)
theorem len_ofk (zs : List Int) (n : Nat) : ∀ k, (ofk zs n k).length = n
  | 0 => by simp [ofk]
  | k + 1 => by rw [ofk, len_set1, len_ofk]
theorem topw_ge (zs : List Int) : ∀ k j, j < k → nz zs j / 64 + 1 ≤ topw zs k
  | k + 1, j, h => by
    have := topw_ge zs k j
    unfold topw
    by_cases e : j = k
    · subst e; omega
    · have := this (by omega); omega
theorem topw_at (zs : List Int) : ∀ k, 0 < topw zs k → ∃ j, j < k ∧ nz zs j / 64 + 1 = topw zs k
  | 0, h => by simp [topw] at h
  | k + 1, _ => by
    unfold topw
    rcases Nat.le_total (nz zs k / 64 + 1) (topw zs k) with h | h
    · by_cases h0 : 0 < topw zs k
      · obtain ⟨j, hj, e⟩ := topw_at zs k h0
        exact ⟨j, by omega, by omega⟩
      · exact ⟨k, by omega, by omega⟩
    · exact ⟨k, by omega, by omega⟩
theorem bit_ofk (zs : List Int) (n : Nat) (i : Nat) : ∀ k, (∀ j, j < k → nz zs j / 64 < n) → bit (ofk zs n k) i = decide (∃ j, j < k ∧ nz zs j = i)
  | 0, _ => by
    have : bit (List.replicate n 0#64) i = false := by
      unfold bit
      have : (List.replicate n 0#64).getD (i / 64) 0#64 = 0#64 := by simp [List.getD, List.getElem?_replicate]; split <;> rfl
      rw [this]; simp
    rw [ofk, this]
    exact (decide_eq_false (by rintro ⟨j, hj, _⟩; omega)).symm
  | k + 1, h => by
    rw [ofk, bit_set1 _ _ _ (by rw [len_ofk]; exact h k (by omega)), bit_ofk zs n i k (fun j hj => h j (by omega))]
    rw [Bool.eq_iff_iff]
    simp only [Bool.or_eq_true, decide_eq_true_eq]
    constructor
    · rintro (⟨j, hj, e⟩ | e)
      · exact ⟨j, by omega, e⟩
      · exact ⟨k, by omega, e.symm⟩
    · rintro ⟨j, hj, e⟩
      by_cases h2 : j = k
      · subst h2; exact Or.inr e.symm
      · exact Or.inl ⟨j, by omega, e⟩
/-- the vector of the places zs -/
def ofv (zs : List Int) : List (BitVec 64) := ofk zs (topw zs zs.length) zs.length
theorem len_ofv (zs : List Int) : (ofv zs).length = topw zs zs.length := len_ofk _ _ _
theorem bit_ofv (zs : List Int) (i : Nat) : bit (ofv zs) i = decide (∃ j, j < zs.length ∧ nz zs j = i) :=
  bit_ofk zs _ i _ (fun j hj => by have := topw_ge zs zs.length j hj; omega)
theorem can_ofv (zs : List Int) : Can (ofv zs) := by
  rcases Nat.eq_zero_or_pos (topw zs zs.length) with h | h
  · intro h0; rw [len_ofv] at h0; omega
  · obtain ⟨j, hj, e⟩ := topw_at zs zs.length h
    apply can_of_bit _ (nz zs j)
    intro _
    rw [len_ofv]
    refine ⟨by omega, ?_⟩
    rw [bit_ofv]
    exact decide_eq_true ⟨j, hj, rfl⟩

/-- each number is a place -/
def Pl (zs : List Int) (k : Nat) : Prop := 0 ≤ zd zs k ∧ zd zs k < 65536
theorem topw_le (zs : List Int) : ∀ k, (∀ j, j < k → Pl zs j) → topw zs k ≤ 1024
  | 0, _ => by simp [topw]
  | k + 1, h => by
    have h1 := topw_le zs k (fun j hj => h j (by omega))
    have h2 := h k (by omega)
    unfold Pl at h2
    unfold topw nz
    omega

set_option maxHeartbeats 400000 in
theorem of_bad (A : Option Addr) (c m : Nat) (zs : List Int) (w : World) (hx : I64s w A zs) (lx : zs.length ≤ 35184372088832) (hm : m < zs.length) (hbad : ¬ Pl zs m) (hgood : ∀ j, j < m → Pl zs j) :
    Calls Tryd.prog 34 #[.slice A zs.length c] w fun e w' => e = .returned (.tuple #[.slice none 0 0, .int .i64 2]) ∧ w = w' := by
  have HG := Lib.hid hgood; clear hgood
  have HBad := Lib.hid hbad; clear hbad
  obtain ⟨b, off, rfl, hbb, hcell⟩ := hx (by omega)
  have HC := Lib.hid hcell; clear hcell hx
  go_enter Tryd.func34, Tryd.ntmps34
  go_wp2
  go_loop [4, 12] (fun n i => ∃ k v : Nat, k ≤ m ∧ v ≤ 1024 ∧ i = .int .i64 k ∧ n = .int .i64 v) (fun _ i => zs.length - (intOf i).toNat)
  case atStart => exact ⟨0, 0, Nat.zero_le _, Nat.zero_le _, rfl, rfl⟩
  case round =>
    obtain ⟨k, v, hk, hv, rfl, rfl⟩ := hrel
    have hc1 := HC.out k (by omega)
    by_cases hkm : k = m
    · have hb2 : zd zs k < 0 ∨ 65536 ≤ zd zs k := by
        have := HBad.out
        rw [← hkm] at this
        unfold Pl at this
        omega
      have H1 := Lib.hid (isPlace_no (zd zs k) w hb2)
      have hlt : k < zs.length := by omega
      clear hb2 hkm
      go_wp2_with fail
      refine H1.out.mono ?_
      rintro e w' ⟨rfl, rfl⟩
      go_wp2
      go_ret2
      exact ⟨rfl, rfl⟩
    · have hp := HG.out k (by omega)
      unfold Pl at hp
      obtain ⟨p0, p1⟩ := hp
      have H1 := Lib.hid (isPlace_yes (zd zs k) w p0 p1)
      obtain ⟨q, hq⟩ : ∃ q : Nat, zd zs k = (q : Int) := ⟨(zd zs k).toNat, by omega⟩
      rw [hq] at hc1 H1 p0 p1
      clear hq
      have hlt : k < zs.length := by omega
      by_cases hmx : (v : Int) < (q : Int) / 64 + 1
      · go_wp2_with fail
        refine H1.out.mono ?_
        rintro e w' ⟨rfl, rfl⟩
        go_wp2
        go_round
        case rel => exact ⟨k + 1, q / 64 + 1, by omega, by omega, by go_num, by go_num⟩
        case measure => simp [intOf]; omega
      · go_wp2_with fail
        refine H1.out.mono ?_
        rintro e w' ⟨rfl, rfl⟩
        go_wp2
        go_round
        case rel => exact ⟨k + 1, v, by omega, by omega, by go_num, by go_num⟩
        case measure => simp [intOf]; omega

set_option maxHeartbeats 1000000 in
theorem of_ok (A : Option Addr) (c : Nat) (zs : List Int) (w : World) (hx : I64s w A zs) (lx : zs.length ≤ 35184372088832) (hgood : ∀ j, j < zs.length → Pl zs j) :
    Calls Tryd.prog 34 #[.slice A zs.length c] w (GivesOk w (ofv zs)) := by
  have HG := Lib.hid hgood
  have htl := topw_le zs zs.length hgood
  clear hgood
  go_enter Tryd.func34, Tryd.ntmps34
  go_wp2
  go_loop [4, 12] (fun n i => ∃ k v : Nat, k ≤ zs.length ∧ v ≤ 1024 ∧ i = .int .i64 k ∧ n = .int .i64 v ∧ v = topw zs k) (fun _ i => zs.length - (intOf i).toNat)
  case atStart => exact ⟨0, 0, Nat.zero_le _, Nat.zero_le _, rfl, rfl, rfl⟩
  case round =>
    obtain ⟨k, v, hk, hv, rfl, rfl, hvt⟩ := hrel
    have HV := Lib.hid hvt; clear hvt
    by_cases hlt : k < zs.length
    · obtain ⟨b, off, rfl, hbb, hcell⟩ := hx (by omega)
      have hc1 := hcell k hlt
      have hp := HG.out k (by omega)
      unfold Pl at hp
      obtain ⟨p0, p1⟩ := hp
      have H1 := Lib.hid (isPlace_yes (zd zs k) w p0 p1)
      obtain ⟨q, hq⟩ : ∃ q : Nat, zd zs k = (q : Int) := ⟨(zd zs k).toNat, by omega⟩
      have HQ : Hid (topw zs (k + 1) = max (topw zs k) (q / 64 + 1)) := by
        show max (topw zs k) (nz zs k / 64 + 1) = _
        unfold nz; rw [hq, Int.toNat_natCast]
      rw [hq] at hc1 H1 p0 p1
      clear hq hcell hx
      by_cases hmx : (v : Int) < (q : Int) / 64 + 1
      · go_wp2_with fail
        refine H1.out.mono ?_
        rintro e w' ⟨rfl, rfl⟩
        go_wp2
        go_round
        case rel => exact ⟨k + 1, q / 64 + 1, by omega, by omega, by go_num, by go_num, by rw [HQ.out, ← HV.out]; omega⟩
        case measure => simp [intOf]; omega
      · go_wp2_with fail
        refine H1.out.mono ?_
        rintro e w' ⟨rfl, rfl⟩
        go_wp2
        go_round
        case rel => exact ⟨k + 1, v, by omega, by omega, by go_num, by go_num, by rw [HQ.out, ← HV.out]; omega⟩
        case measure => simp [intOf]; omega
    · obtain rfl : k = zs.length := by omega
      have hmk := run_make_row' (P := Tryd.prog) 23 45 (.int .u64 0) 8 Tryd.underlying23 Tryd.info45 rfl .i64 .i64 v (by omega) (by omega)
      have ha := own_made w v
      have hb : Below w.heap.size w (w.alloc (.cells (madeCells #[.int .u64 0] v) 45)) := (Below.refl _ _).alloc (Nat.le_refl _) _
      go_wp2_with fail
      clear hmk
      generalize w.alloc (.cells (madeCells #[.int .u64 0] v) 45) = w1 at ha hb ⊢
      go_loopw [29] (fun i wr => ∃ k : Nat, k ≤ zs.length ∧ i = .int .i64 k ∧ Own wr w.heap.size (ofk zs v k) ∧ Below w.heap.size w wr) (fun i _ => zs.length - (intOf i).toNat)
      case atStart => exact ⟨0, Nat.zero_le _, rfl, ha, hb⟩
      case round =>
        obtain ⟨k, hk2, rfl, hown, hbl⟩ := hrel
        have HO := Lib.hid hown; have HB := Lib.hid hbl
        clear ha hb
        by_cases hlt : k < zs.length
        · obtain ⟨b, off, rfl, hbb, hcell⟩ := (hx.below hbl) (by omega)
          have hc1 := hcell k hlt
          have hp := HG.out k (by omega)
          unfold Pl at hp
          obtain ⟨p0, p1⟩ := hp
          obtain ⟨q, hq⟩ : ∃ q : Nat, zd zs k = (q : Int) := ⟨(zd zs k).toNat, by omega⟩
          have hnq : nz zs k = q := by unfold nz; rw [hq]; rfl
          have hqv : q / 64 < v := by have := topw_ge zs zs.length k hlt; rw [hnq, ← HV.out] at this; omega
          have HN := Lib.hid hnq
          have hce := hown.cell (q / 64) (by rw [len_ofk]; exact hqv)
          have hfz := hown.frozen (q / 64)
          rw [hq] at hc1 p0 p1
          clear hq hcell hx hown hbl hnq
          generalize hL : ofk zs v k = L at HO hce
          have HLL := Lib.hid hL; clear hL
          go_wp2_with fail
          have q1 : (0 : Int) ≤ (q : Int) / 64 := by omega
          have q2 : (q : Int) / 64 < (v : Int) := by omega
          have q3 : ((q : Int) / 64).toNat = q / 64 := by omega
          have q5 : IntKind.i64.wrap ((q : Int) / 64) = (q : Int) / 64 := IntWalk.i64_in _ (by omega)
          have q4 : (q : Int).tdiv 64 = (q : Int) / 64 := by rw [Int.tdiv_eq_ediv_of_nonneg (by omega)]
          go_region_with (go_at_call 46; refine (mask_any q _ (by omega)).mono ?_; rintro e w' ⟨rfl, rfl⟩)
          all_goals
            clear q1 q2 q3 q4 q5
            simp only [uv_or]
            obtain ⟨h5, h6⟩ := own_store HO.out (Nat.le_refl _) HB.out (q / 64) (wd L (q / 64) ||| 1#64 <<< (q % 64))
            have H5 := Lib.hid h5; have H6 := Lib.hid h6; clear h5 h6
            go_wp2
            go_roundw
            case rel =>
              refine ⟨k + 1, by omega, by go_num, ?_, H6.out⟩
              show Own _ _ (set1 (ofk zs v k) (nz zs k))
              rw [HN.out, HLL.out]
              exact H5.out
            case measure => simp [intOf]; omega
        · obtain rfl : k = zs.length := by omega
          go_wp2
          go_ret2
          have he : ofv zs = ofk zs v zs.length := by unfold ofv; rw [HV.out]
          rw [he]
          exact ⟨_, v, by rw [len_ofk]; rfl, by rw [len_ofk]; exact Nat.le_refl _, HO.out.u64s, own_fre HO.out (Nat.le_refl _) _, HB.out⟩
end Go.Proofs.YtngblecgikhgdaaDoor
