/- The document's answers for layer 1, walked: Set, Clear, Low, Up, List, Of. -/
import Derived.Test.YtngblecgikhgdaaDoorV2
namespace Go.Proofs.YtngblecgikhgdaaDoor
open Go.RowKit

theorem bd_set (bs : List Bool) (i j : Nat) (b : Bool) (h : i < bs.length) : bd (bs.set i b) j = if j = i then b else bd bs j := by
  unfold bd
  simp only [List.getD, List.getElem?_set]
  by_cases e : j = i
  · rw [if_pos e.symm, if_pos h, if_pos e]; rfl
  · rw [if_neg (fun h => e h.symm), if_neg e]
theorem FL.frozen {w : World} {base g cap : Nat} {bs : List Bool} (h : FL w base g cap bs) (j : Nat) : w.frozen? ⟨g, j, none⟩ = false := World.ownsRow.frozenAt h j

set_option maxHeartbeats 400000 in
theorem rset1 (A : Option Addr) (c i N : Nat) (xs : List (BitVec 64)) (w : World) (hx : U64s w A xs) (lx : xs.length ≤ 1024) (hi : i < 65536) (hN : N = 64 * xs.length) (hcmp : i < 64 * xs.length) :
    Calls Tryd.prog 28 #[.slice A xs.length c, .int .i64 i] w (GivesP w (Is fun j => bit xs j || decide (j = i))) := by
  have h1 := flags_any A c N xs w hx (by omega) (by omega)
  rw [show ((N : Nat) : Int) = 64 * (xs.length : Int) by omega] at h1
  have hiN : i < N := by omega
  have hNx : 64 * xs.length ≤ N := by omega
  have H1 := Lib.hid h1
  have hcmp2 : decide (64 * (xs.length : Int) ≤ (i : Int)) = false := by simp; omega
  clear hx hcmp h1
  have lN : N ≤ 65536 := by omega
  have HN := Lib.hid hN; clear hN
  go_enter Tryd.func28, Tryd.ntmps28
  go_wp2_with fail
  refine H1.out.mono ?_
  rintro e w1 ⟨g, cap, rfl, hfl, hb⟩
  have hln := len_flagsL (bit xs) N
  have hce := hfl.cell i (by omega)
  have hfz := hfl.frozen i
  have hlt := hfl.lt
  have hs := hfl.set_ i true
  have hbd : ∀ j, bd ((flagsL (bit xs) N).set i true) j = (bit xs j || decide (j = i)) := fun j => by
    rw [bd_set _ _ _ _ (by omega)]
    by_cases e : j = i
    · rw [if_pos e, decide_eq_true e]; simp
    · rw [if_neg e, decide_eq_false e, Bool.or_false, bd_flagsL]
      by_cases h : j < N
      · rw [decide_eq_true h]; rfl
      · rw [decide_eq_false h, bit_big xs j (by omega)]; rfl
  have hb2 := hb.setCell (p := ⟨g, i, none⟩) hlt.1 (.bool true)
  have H2 := from_fl hs (by rw [List.length_set]; omega) _ hbd
  rw [List.length_set] at H2
  have HB2 := Lib.hid hb2
  have H2 := Lib.hid H2
  generalize flagsL (bit xs) N = fl at *
  generalize bd fl i = old at hce
  clear hfl hb hs hbd hb2 hlt H1 hcmp2
  have hi2 : i < fl.length := by omega
  have HLN := Lib.hid hln; clear hln
  go_wp2_with fail
  refine H2.out.mono ?_
  rintro e w2 hg
  have HG := Lib.hid (givesP_trans HB2.out hg)
  obtain ⟨z, A2, c2, rfl, hrest⟩ := hg
  clear hrest H2 HB2
  go_wp2
  go_ret
  exact HG.out

set_option maxHeartbeats 400000 in
theorem rset2 (A : Option Addr) (c i N : Nat) (xs : List (BitVec 64)) (w : World) (hx : U64s w A xs) (lx : xs.length ≤ 1024) (hi : i < 65536) (hN : N = i + 1) (hcmp : 64 * xs.length ≤ i) :
    Calls Tryd.prog 28 #[.slice A xs.length c, .int .i64 i] w (GivesP w (Is fun j => bit xs j || decide (j = i))) := by
  have h1 := flags_any A c N xs w hx (by omega) (by omega)
  rw [show ((N : Nat) : Int) = (i : Int) + 1 by omega] at h1
  have hiN : i < N := by omega
  have hNx : 64 * xs.length ≤ N := by omega
  have H1 := Lib.hid h1
  have hcmp2 : decide (64 * (xs.length : Int) ≤ (i : Int)) = true := by simp; omega
  clear hx hcmp h1
  have lN : N ≤ 65536 := by omega
  have HN := Lib.hid hN; clear hN
  go_enter Tryd.func28, Tryd.ntmps28
  go_wp2_with fail
  refine H1.out.mono ?_
  rintro e w1 ⟨g, cap, rfl, hfl, hb⟩
  have hln := len_flagsL (bit xs) N
  have hce := hfl.cell i (by omega)
  have hfz := hfl.frozen i
  have hlt := hfl.lt
  have hs := hfl.set_ i true
  have hbd : ∀ j, bd ((flagsL (bit xs) N).set i true) j = (bit xs j || decide (j = i)) := fun j => by
    rw [bd_set _ _ _ _ (by omega)]
    by_cases e : j = i
    · rw [if_pos e, decide_eq_true e]; simp
    · rw [if_neg e, decide_eq_false e, Bool.or_false, bd_flagsL]
      by_cases h : j < N
      · rw [decide_eq_true h]; rfl
      · rw [decide_eq_false h, bit_big xs j (by omega)]; rfl
  have hb2 := hb.setCell (p := ⟨g, i, none⟩) hlt.1 (.bool true)
  have H2 := from_fl hs (by rw [List.length_set]; omega) _ hbd
  rw [List.length_set] at H2
  have HB2 := Lib.hid hb2
  have H2 := Lib.hid H2
  generalize flagsL (bit xs) N = fl at *
  generalize bd fl i = old at hce
  clear hfl hb hs hbd hb2 hlt H1 hcmp2
  have hi2 : i < fl.length := by omega
  have HLN := Lib.hid hln; clear hln
  go_wp2_with fail
  refine H2.out.mono ?_
  rintro e w2 hg
  have HG := Lib.hid (givesP_trans HB2.out hg)
  obtain ⟨z, A2, c2, rfl, hrest⟩ := hg
  clear hrest H2 HB2
  go_wp2
  go_ret
  exact HG.out

theorem rset_any (A : Option Addr) (c : Nat) (i : Int) (xs : List (BitVec 64)) (w : World) (hx : U64s w A xs) (lx : xs.length ≤ 1024) (h0 : 0 ≤ i) (hi : i < 65536) :
    Calls Tryd.prog 28 #[.slice A xs.length c, .int .i64 i] w (GivesP w (Is fun j => bit xs j || decide ((j : Int) = i))) := by
  obtain ⟨m, rfl⟩ := Int.eq_ofNat_of_zero_le h0
  have e : (fun j => bit xs j || decide (j = m)) = (fun j : Nat => bit xs j || decide ((j : Int) = (m : Int))) := by
    funext j; congr 1; rw [Bool.eq_iff_iff]; simp; omega
  rw [← e]
  by_cases h : m < 64 * xs.length
  · exact rset1 A c m _ xs w hx lx (by omega) rfl h
  · exact rset2 A c m _ xs w hx lx (by omega) rfl (by omega)

set_option maxHeartbeats 400000 in
theorem rclear_out1 (A : Option Addr) (c : Nat) (i : Int) (xs : List (BitVec 64)) (w : World) (hx : U64s w A xs) (lx : xs.length ≤ 40) (hi : i < 0) :
    Calls Tryd.prog 26 #[.slice A xs.length c, .int .i64 i] w (GivesP w (Is (bit xs))) := by
  have H1 := Lib.hid (flags_len A c xs w hx lx)
  have hln := len_flagsL (bit xs) (64 * xs.length)
  have d0 : decide (0 ≤ i) = false := by simp; omega
  clear hx
  go_enter Tryd.func26, Tryd.ntmps26
  go_wp2_with fail
  refine H1.out.mono ?_
  rintro e w1 ⟨g, cap, rfl, hfl, hb⟩
  have H2 := Lib.hid (from_fl hfl (by omega) (bit xs) fun i => by rw [bd_flagsL, bit_small])
  have HB := Lib.hid hb
  clear hfl hb H1
  generalize flagsL (bit xs) (64 * xs.length) = fl at *
  have HLN := Lib.hid hln; clear hln
  go_wp2_with fail
  refine H2.out.mono ?_
  rintro e w2 hg
  have HG := Lib.hid (givesP_trans HB.out hg)
  obtain ⟨z, A2, c2, rfl, hrest⟩ := hg
  clear hrest H2 HB
  go_wp2
  go_ret
  exact HG.out

set_option maxHeartbeats 400000 in
theorem rclear_out2 (A : Option Addr) (c : Nat) (i : Int) (xs : List (BitVec 64)) (w : World) (hx : U64s w A xs) (lx : xs.length ≤ 40) (hi : 64 * (xs.length : Int) ≤ i) :
    Calls Tryd.prog 26 #[.slice A xs.length c, .int .i64 i] w (GivesP w (Is (bit xs))) := by
  have H1 := Lib.hid (flags_len A c xs w hx lx)
  have hln := len_flagsL (bit xs) (64 * xs.length)
  have d0 : decide (0 ≤ i) = true := by simp; omega
  clear hx
  go_enter Tryd.func26, Tryd.ntmps26
  go_wp2_with fail
  refine H1.out.mono ?_
  rintro e w1 ⟨g, cap, rfl, hfl, hb⟩
  have H2 := Lib.hid (from_fl hfl (by omega) (bit xs) fun i => by rw [bd_flagsL, bit_small])
  have HB := Lib.hid hb
  clear hfl hb H1
  generalize flagsL (bit xs) (64 * xs.length) = fl at *
  have d1 : decide (i < (fl.length : Int)) = false := by simp; omega
  have HLN := Lib.hid hln; clear hln
  go_wp2_with fail
  refine H2.out.mono ?_
  rintro e w2 hg
  have HG := Lib.hid (givesP_trans HB.out hg)
  obtain ⟨z, A2, c2, rfl, hrest⟩ := hg
  clear hrest H2 HB
  go_wp2
  go_ret
  exact HG.out

set_option maxHeartbeats 400000 in
theorem rclear_in (A : Option Addr) (c i : Nat) (xs : List (BitVec 64)) (w : World) (hx : U64s w A xs) (lx : xs.length ≤ 40) (hi : i < 64 * xs.length) :
    Calls Tryd.prog 26 #[.slice A xs.length c, .int .i64 i] w (GivesP w (Is fun j => bit xs j && !decide (j = i))) := by
  have H1 := Lib.hid (flags_len A c xs w hx lx)
  have hln := len_flagsL (bit xs) (64 * xs.length)
  clear hx
  go_enter Tryd.func26, Tryd.ntmps26
  go_wp2_with fail
  refine H1.out.mono ?_
  rintro e w1 ⟨g, cap, rfl, hfl, hb⟩
  have hce := hfl.cell i (by omega)
  have hfz := hfl.frozen i
  have hlt := hfl.lt
  have hs := hfl.set_ i false
  have hbd : ∀ j, bd ((flagsL (bit xs) (64 * xs.length)).set i false) j = (bit xs j && !decide (j = i)) := fun j => by
    rw [bd_set _ _ _ _ (by omega)]
    by_cases e : j = i
    · rw [if_pos e, decide_eq_true e]; simp
    · rw [if_neg e, decide_eq_false e, bd_flagsL, bit_small]; simp
  have hb2 := hb.setCell (p := ⟨g, i, none⟩) hlt.1 (.bool false)
  have H2 := from_fl hs (by rw [List.length_set]; omega) _ hbd
  rw [List.length_set] at H2
  have HB2 := Lib.hid hb2
  have H2 := Lib.hid H2
  generalize flagsL (bit xs) (64 * xs.length) = fl at *
  generalize bd fl i = old at hce
  clear hfl hb hs hbd hb2 hlt H1
  have hi2 : i < fl.length := by omega
  have d1 : decide ((i : Int) < (fl.length : Int)) = true := by simp; omega
  have HLN := Lib.hid hln; clear hln
  go_wp2_with fail
  refine H2.out.mono ?_
  rintro e w2 hg
  have HG := Lib.hid (givesP_trans HB2.out hg)
  obtain ⟨z, A2, c2, rfl, hrest⟩ := hg
  clear hrest H2 HB2
  go_wp2
  go_ret
  exact HG.out

theorem rclear_any (A : Option Addr) (c : Nat) (i : Int) (xs : List (BitVec 64)) (w : World) (hx : U64s w A xs) (lx : xs.length ≤ 40) :
    Calls Tryd.prog 26 #[.slice A xs.length c, .int .i64 i] w (GivesP w (Is fun j => bit xs j && !decide ((j : Int) = i))) := by
  by_cases h0 : i < 0
  · have e : bit xs = (fun j : Nat => bit xs j && !decide ((j : Int) = i)) := by
      funext j; rw [decide_eq_false (by omega)]; simp
    rw [← e]; exact rclear_out1 A c i xs w hx lx h0
  · by_cases h1 : 64 * (xs.length : Int) ≤ i
    · have e : bit xs = (fun j : Nat => bit xs j && !decide ((j : Int) = i)) := by
        funext j
        by_cases h : (j : Int) = i
        · rw [bit_big xs j (by omega)]; simp
        · rw [decide_eq_false h]; simp
      rw [← e]; exact rclear_out2 A c i xs w hx lx h1
    · obtain ⟨m, rfl⟩ := Int.eq_ofNat_of_zero_le (show 0 ≤ i by omega)
      have e : (fun j => bit xs j && !decide (j = m)) = (fun j : Nat => bit xs j && !decide ((j : Int) = (m : Int))) := by
        funext j; congr 2; rw [Bool.eq_iff_iff]; simp; omega
      rw [← e]; exact rclear_in A c m xs w hx lx (by omega)

/-- the flags of Low behind k rounds -/
def lowF (xs : List (BitVec 64)) (n : Int) (N k : Nat) : List Bool := flagsL (fun j => bit xs j && (decide (k ≤ j) || decide ((j : Int) < n))) N
theorem lowF_zero (xs : List (BitVec 64)) (n : Int) (N : Nat) : lowF xs n N 0 = flagsL (bit xs) N := by unfold lowF; simp
theorem lowF_step (xs : List (BitVec 64)) (n : Int) (N k : Nat) (hk : k < N) : (lowF xs n N k).set k (bd (lowF xs n N k) k && decide ((k : Int) < n)) = lowF xs n N (k + 1) := by
  have hb : bd (lowF xs n N k) k = bit xs k := by unfold lowF; rw [bd_flagsL, decide_eq_true hk]; simp
  rw [hb]
  unfold lowF flagsL
  apply List.ext_getElem (by simp)
  intro j h1 h2
  simp only [List.getElem_set, List.getElem_map, List.getElem_range]
  by_cases e : k = j
  · subst e
    rw [if_pos rfl, decide_eq_false (show ¬ (k + 1 ≤ k) by omega), Bool.false_or]
  · rw [if_neg e]
    congr 2
    rw [Bool.eq_iff_iff]; simp; omega

set_option maxHeartbeats 400000 in
theorem rlow_any (A : Option Addr) (c : Nat) (n : Int) (xs : List (BitVec 64)) (w : World) (hx : U64s w A xs) (lx : xs.length ≤ 40) :
    Calls Tryd.prog 31 #[.slice A xs.length c, .int .i64 n] w (GivesP w (Is fun j => decide ((j : Int) < n) && bit xs j)) := by
  have H1 := Lib.hid (flags_len A c xs w hx lx)
  obtain ⟨N, hN⟩ : ∃ N, N = 64 * xs.length := ⟨_, rfl⟩
  clear hx
  go_enter Tryd.func31, Tryd.ntmps31
  go_wp2_with fail
  refine H1.out.mono ?_
  rintro e w1 ⟨g, cap, rfl, hfl, hb⟩
  rw [len_flagsL]
  rw [← hN, ← lowF_zero xs n N] at hfl
  rw [← hN]
  have HF := Lib.hid hfl; have HB := Lib.hid hb
  have lN : N ≤ 2560 := by omega
  have HN := Lib.hid hN
  clear hfl hb H1 hN
  go_wp2_with fail
  go_loopw [6] (fun i wr => ∃ k : Nat, k ≤ N ∧ i = .int .i64 k ∧ FL wr w.heap.size g cap (lowF xs n N k) ∧ Below w.heap.size w wr) (fun i _ => N - (intOf i).toNat)
  case atStart => exact ⟨0, Nat.zero_le _, rfl, HF.out, HB.out⟩
  case round =>
    obtain ⟨k, hk, rfl, hfl, hbl⟩ := hrel
    have HF2 := Lib.hid hfl; have HB2 := Lib.hid hbl
    have hln : (lowF xs n N k).length = N := len_flagsL _ _
    have hlt := hfl.lt
    clear HF HB
    by_cases hkn : k < N
    · have hce := hfl.cell k (by omega)
      have hfz := hfl.frozen k
      have HST := Lib.hid (lowF_step xs n N k hkn)
      have HS := Lib.hid (hfl.set_ k (bd (lowF xs n N k) k && decide ((k : Int) < n)))
      generalize bd (lowF xs n N k) k = b at hce HST HS
      obtain ⟨q, hq⟩ : ∃ q, q = decide ((k : Int) < n) := ⟨_, rfl⟩
      rw [← hq] at HST HS
      have hq2 := hq.symm
      clear hfl hbl hq
      cases b <;> cases q
      all_goals
        go_wp2
        go_roundw
        case rel => exact ⟨k + 1, by omega, by go_num, by rw [← HST.out]; exact HS.out, HB2.out.setCell hlt.1 _⟩
        case measure => simp [intOf]; omega
    · obtain rfl : k = N := by omega
      have H2 := from_fl (f := fun j => decide ((j : Int) < n) && bit xs j) hfl (by omega) fun j => by
        unfold lowF; rw [bd_flagsL]
        by_cases h : j < k
        · rw [decide_eq_true h, decide_eq_false (show ¬ k ≤ j by omega)]; simp [Bool.and_comm]
        · have := HN.out
          rw [decide_eq_false h, bit_big xs j (by omega)]; simp
      rw [hln] at H2
      have H2 := Lib.hid H2
      clear hfl hbl hln
      go_wp2_with fail
      refine H2.out.mono ?_
      rintro e w2 hg
      have HG := Lib.hid (givesP_trans HB2.out hg)
      obtain ⟨z, A2, c2, rfl, hrest⟩ := hg
      clear hrest H2 HB2
      go_wp2
      go_ret
      exact HG.out
end Go.Proofs.YtngblecgikhgdaaDoor
