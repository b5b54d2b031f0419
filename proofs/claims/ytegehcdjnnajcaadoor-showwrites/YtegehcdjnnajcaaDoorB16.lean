/- A number's digits; how often something comes is written. -/
import Derived.Test.YtegehcdjnnajcaaDoorB15
import Derived.Test.YtegehcdjnnajcaaDoorA4
import Derived.Test.YtegehcdjnnajcaaDoorShelf
namespace Go.Proofs.YtegehcdjnnajcaaDoor
open Go.RowKit
/-- the library's table of powers of ten lies as it was laid -/
def Pow (w : World) : Prop := Lib.TabIs Tryd.prog w "internal/strconv.uint64pow10" .u64 Lib.pow10Tab
theorem Pow.below {w w' : World} (h : Pow w) (hb : Below w.heap.size w w') : Pow w' := by
  unfold Pow Lib.TabIs World.var? at *
  cases hg : Tryd.prog.globalNamed "internal/strconv.uint64pow10" with
  | none => simp [hg] at h
  | some g =>
    simp only [hg, Option.bind_some] at h ⊢
    have hlt : g < w.heap.size := by
      rcases Nat.lt_or_ge g w.heap.size with h' | h'
      · exact h'
      · rw [Array.getElem?_eq_none h'] at h; simp at h
    rw [hb.block g hlt]
    exact h
theorem dec1 (n : Nat) (h : n < 10) : Lib.decDigits n = [UInt8.ofNat (48 + n)] := by rw [Lib.decDigits, dif_pos h]
theorem decS (n : Nat) (h : ¬ n < 10) : Lib.decDigits n = Lib.decDigits (n / 10) ++ [UInt8.ofNat (48 + n % 10)] := by rw [Lib.decDigits, dif_neg h]
theorem itoa_num (n : Nat) (hn : n < 1000) : (⟨(Lib.itoa (n : Nat)).toArray⟩ : ByteArray) = strC (numF n) := by
  have e0 : Lib.itoa (n : Nat) = Lib.decDigits n := by unfold Lib.itoa; rw [if_neg (by omega), Int.toNat_natCast]
  have e : Lib.decDigits n = (numF n).map Nat.toUInt8 := by
    unfold numF
    by_cases h1 : n < 10
    · rw [if_pos h1, dec1 n h1]; rfl
    · rw [if_neg h1]
      by_cases h2 : n < 100
      · rw [if_pos h2, decS n h1, dec1 (n / 10) (by omega)]; rfl
      · rw [if_neg h2, decS n h1, decS (n / 10) (by omega), dec1 (n / 10 / 10) (by omega), show n / 10 / 10 = n / 100 by omega]; rfl
  unfold strC
  rw [e0, e]
theorem below_grow (w : World) (k : Nat) (os : Array Obj) : Below w.heap.size w (Sort.grow (w.drewN k) os) := by
  refine ⟨rfl, rfl, rfl, ?_, fun j hj => ?_⟩
  · show w.heap.size ≤ (w.heap ++ os).size
    rw [Array.size_append]; omega
  · show (w.heap ++ os)[j]? = w.heap[j]?
    rw [Array.getElem?_append_left hj]
theorem itoa_any (n : Nat) (hn : n < 1000) (w : World) (h : Pow w) : Calls Tryd.prog 54 #[.int .i64 (n : Nat)] w (Tells w (.string (strC (numF n)))) := by
  refine (Tryd.strconv_Itoa (n : Nat) (by omega) (by omega) w h).mono ?_
  rintro e w' ⟨rfl, k, os, rfl⟩
  rw [itoa_num n hn]
  exact ⟨rfl, below_grow w k os⟩
theorem num_lt (n : Nat) (h : n < 1000) : ∀ x ∈ numF n, x < 256 := by
  unfold numF
  intro x hx
  split at hx
  · simp at hx; omega
  split at hx
  · simp at hx; omega
  · simp at hx; omega
theorem stb_app (a b : ByteArray) : stb (a ++ b) = stb a ++ stb b := by
  unfold stb
  rw [ByteArray.data_append, Array.toList_append, List.map_append]
theorem stb_num (n : Nat) (h : n < 1000) : stb (strC (numF n)) = numF n := sb_strC _ (num_lt n h)
theorem step_wb {w w' : World} {g c : Nat} {A : Option Addr} {l : List Nat} {o dp : Int} (h : Hid (Wb w g A c l o dp)) (hb : Below w.heap.size w w') : Hid (Wb w' g A c l o dp) := Wb.below h.out hb
theorem step_pow {w w' : World} (h : Hid (Pow w)) (hb : Below w.heap.size w w') : Hid (Pow w') := Pow.below h.out hb
theorem step_fw {w0 w w' : World} {g : Nat} {A : Option Addr} (h : Hid (Fw w0 w g A A)) (hb : Below w.heap.size w w') : Hid (Fw w0 w' g A A) := Fw.trans h.out (Fw.of_below hb g A)
theorem Wrote.cast {w : World} {g : Nat} {A : Option Addr} {l l' : List Nat} {o dp : Int} {v : Value} {e : Ending} {w' : World} (h : Wrote w g A l o dp v e w') (hl : l = l') : Wrote w g A l' o dp v e w' := hl ▸ h
set_option maxRecDepth 100000 in
set_option maxHeartbeats 4000000 in
theorem quantW_any (lo hi : Int) (hb : bndOk lo hi) {w : World} {g c : Nat} {A : Option Addr} {l : List Nat} {o dp : Int} (h : Wb w g A c l o dp) (hp : Pow w) (hl : l.length ≤ 200000) :
    Calls Tryd.prog 39 #[.pointer (some ⟨g, 0, none⟩), .int .i64 lo, .int .i64 hi] w (Wrote w g A (l ++ quantOf lo hi) o dp (.tuple #[])) := by
  obtain ⟨b1, b2, b3⟩ := hb
  have hlt := h.lt
  have H0 := Lib.hid h.drew
  have HL := Lib.hid hl
  have P0 : Hid (Pow w.drew) := Pow.below hp (Below.refl w.heap.size w).drew
  have ONE : ∀ (b : Nat), b < 256 → Hid (Calls Tryd.prog 37 #[.pointer (some ⟨g, 0, none⟩), .int .u8 (b : Nat)] w (Wrote w g A (l ++ [b]) o dp .nilIface)) := fun b hb => writeByte_any h b hb (by omega)
  have F0 : Hid (Fw w w.drew g A A) := (Fw.refl w g A).drew
  obtain ⟨m, rfl⟩ := Int.eq_ofNat_of_zero_le b1
  clear h hl hp
  by_cases c1 : hi = -1
  · subst c1
    by_cases c2 : m = 0
    · subst c2
      have E : quantOf ((0 : Nat) : Int) (-1) = [42] := rfl
      rw [E]
      have D1 := Lib.hid (ONE 42 (by omega)).out
      clear ONE E b1 b2 b3
      go_enter Tryd.func39, Tryd.ntmps39
      go_wp2_with fail
      refine D1.out.mono ?_
      rintro e w1 ⟨rfl, A1, c1, h1⟩
      go_wp2
      refine bodyPost_end (results_none rfl _ _ _) rfl ?_
      exact ⟨rfl, A1, c1, h1⟩
    by_cases c3 : m = 1
    · subst c3
      have E : quantOf ((1 : Nat) : Int) (-1) = [43] := rfl
      rw [E]
      have D1 := Lib.hid (ONE 43 (by omega)).out
      clear ONE E b1 b2 b3
      go_enter Tryd.func39, Tryd.ntmps39
      go_wp2_with fail
      refine D1.out.mono ?_
      rintro e w1 ⟨rfl, A1, c1, h1⟩
      go_wp2
      refine bodyPost_end (results_none rfl _ _ _) rfl ?_
      exact ⟨rfl, A1, c1, h1⟩
    have E : quantOf (m : Int) (-1) = 123 :: numF m ++ [44, 125] := by
      unfold quantOf; rw [if_neg (by omega), if_neg (by omega), if_pos rfl, Int.toNat_natCast]
    have E2 : l ++ quantOf (m : Int) (-1) = l ++ stb (⟨#[123]⟩ ++ strC (numF m) ++ ⟨#[44, 125]⟩) := by
      rw [E, stb_app, stb_app, stb_num m (by omega)]; rfl
    rw [E2]
    have SZ : Hid (l.length + (⟨#[123]⟩ ++ strC (numF m) ++ ⟨#[44, 125]⟩ : ByteArray).size ≤ 1099511627776) := by
      show l.length + (⟨#[123]⟩ ++ strC (numF m) ++ ⟨#[44, 125]⟩ : ByteArray).size ≤ 1099511627776
      rw [← stb_len, stb_app, stb_app, stb_num m (by omega)]
      have := num_le m
      have e1 : (stb ⟨#[123]⟩).length = 1 := rfl
      have e2 : (stb ⟨#[44, 125]⟩).length = 2 := rfl
      have := HL.out
      rw [List.length_append, List.length_append, e1, e2]; omega
    have t0m : ((m : Int) == 0) = false := by rw [beq_eq_false_iff_ne]; omega
    have t1m : ((m : Int) == 1) = false := by rw [beq_eq_false_iff_ne]; omega
    have t1mn : ((m : Int) == -1) = false := by rw [beq_eq_false_iff_ne]; omega
    have DI : Hid (∀ W, Pow W → Calls Tryd.prog 54 #[.int .i64 (m : Nat)] W (Tells W (.string (strC (numF m))))) := fun W hW => itoa_any m (by omega) W hW
    have hs3 : (strC (numF m)).size ≤ 3 := by
      rw [← stb_len, stb_num m (by omega)]; exact num_le m
    clear ONE E E2 b1 b2 b3 c2 c3
    generalize strC (numF m) = sm at *
    have q1 := fun W => run_string_add_sum (P := Tryd.prog) W ⟨#[123]⟩ sm (by show 1 + sm.size ≤ _; omega)
    have hs4 : (⟨#[123]⟩ ++ sm : ByteArray).size ≤ 4 := by rw [ByteArray.size_append]; show 1 + sm.size ≤ _; omega
    have q2 := fun W => run_string_add_sum (P := Tryd.prog) W (⟨#[123]⟩ ++ sm) ⟨#[44, 125]⟩ (by show (⟨#[123]⟩ ++ sm : ByteArray).size + 2 ≤ _; omega)
    clear hs3 hs4
    go_enter Tryd.func39, Tryd.ntmps39
    go_wp2_with fail
    go_region_held3 (fun _ => True) (trivial)
      (first
        | (go_at_call 54; refine (DI.out _ (Hid.out (by assumption))).mono ?_; rintro e wn ⟨rfl, hb⟩; have P1 := step_pow (by assumption) hb; have H1 := step_wb (by assumption) hb; have F1 := step_fw (by assumption) hb; clear hb P0 H0 F0)
        | (go_at_call 46; refine (writeString_any (Hid.out (by assumption)) _ SZ.out).mono ?_; rintro e wn ⟨rfl, A2, c2, hb2, hf2⟩; have H2 := Lib.hid hb2; have F2 := Lib.hid (F1.out.trans hf2); clear hb2 hf2)
        | fail)
    all_goals
      go_wp2
      refine bodyPost_end (results_none rfl _ _ _) rfl ?_
      exact ⟨rfl, A2, c2, H2.out, F2.out⟩
  obtain ⟨k, rfl⟩ := Int.eq_ofNat_of_zero_le (show 0 ≤ hi by omega)
  by_cases cq : m = 0 ∧ k = 1
  · obtain ⟨rfl, rfl⟩ := cq
    have E : quantOf ((0 : Nat) : Int) ((1 : Nat) : Int) = [63] := rfl
    rw [E]
    have D1 := Lib.hid (ONE 63 (by omega)).out
    clear ONE E b1 b2 b3
    go_enter Tryd.func39, Tryd.ntmps39
    go_wp2_with fail
    refine D1.out.mono ?_
    rintro e w1 ⟨rfl, A1, c1, h1⟩
    go_wp2
    refine bodyPost_end (results_none rfl _ _ _) rfl ?_
    exact ⟨rfl, A1, c1, h1⟩
  by_cases ce : k = m
  · subst ce
    have E : quantOf (k : Int) (k : Int) = 123 :: numF k ++ [125] := by
      unfold quantOf; rw [if_neg (by omega), if_neg (by omega), if_neg (by omega), if_pos rfl, Int.toNat_natCast]
    by_cases c2 : k = 0
    · subst c2
      have E2 : l ++ quantOf ((0 : Nat) : Int) ((0 : Nat) : Int) = l ++ stb (⟨#[123]⟩ ++ strC (numF 0) ++ ⟨#[125]⟩) := by
        rw [E, stb_app, stb_app, stb_num 0 (by omega)]; rfl
      rw [E2]
      have SZ : Hid (l.length + (⟨#[123]⟩ ++ strC (numF 0) ++ ⟨#[125]⟩ : ByteArray).size ≤ 1099511627776) := by
        show l.length + (⟨#[123]⟩ ++ strC (numF 0) ++ ⟨#[125]⟩ : ByteArray).size ≤ 1099511627776
        rw [← stb_len, stb_app, stb_app, stb_num 0 (by omega)]
        have := num_le 0
        have e1 : (stb ⟨#[123]⟩).length = 1 := rfl
        have e2 : (stb ⟨#[125]⟩).length = 1 := rfl
        have := HL.out
        rw [List.length_append, List.length_append, e1, e2]; omega
      have DI : Hid (∀ W, Pow W → Calls Tryd.prog 54 #[.int .i64 ((0 : Nat) : Int)] W (Tells W (.string (strC (numF 0))))) := fun W hW => itoa_any 0 (by omega) W hW
      have hs3 : (strC (numF 0)).size ≤ 3 := by
        rw [← stb_len, stb_num 0 (by omega)]; exact num_le 0
      clear ONE E E2 b1 b2 b3 cq
      generalize strC (numF 0) = sm at *
      have q1 := fun W => run_string_add_sum (P := Tryd.prog) W ⟨#[123]⟩ sm (by show 1 + sm.size ≤ _; omega)
      have hs4 : (⟨#[123]⟩ ++ sm : ByteArray).size ≤ 4 := by rw [ByteArray.size_append]; show 1 + sm.size ≤ _; omega
      have q2 := fun W => run_string_add_sum (P := Tryd.prog) W (⟨#[123]⟩ ++ sm) ⟨#[125]⟩ (by show (⟨#[123]⟩ ++ sm : ByteArray).size + 1 ≤ _; omega)
      clear hs3 hs4
      go_enter Tryd.func39, Tryd.ntmps39
      go_wp2_with fail
      go_region_held3 (fun _ => True) (trivial)
        (first
          | (go_at_call 54; refine (DI.out _ (Hid.out (by assumption))).mono ?_; rintro e wn ⟨rfl, hb⟩; have P1 := step_pow (by assumption) hb; have H1 := step_wb (by assumption) hb; have F1 := step_fw (by assumption) hb; clear hb P0 H0 F0)
          | (go_at_call 46; refine (writeString_any (Hid.out (by assumption)) _ SZ.out).mono ?_; rintro e wn ⟨rfl, A2, c2, hb2, hf2⟩; have H2 := Lib.hid hb2; have F2 := Lib.hid (F1.out.trans hf2); clear hb2 hf2)
          | fail)
      all_goals
        go_wp2
        refine bodyPost_end (results_none rfl _ _ _) rfl ?_
        exact ⟨rfl, A2, c2, H2.out, F2.out⟩
    by_cases c3 : k = 1
    · subst c3
      have E2 : l ++ quantOf ((1 : Nat) : Int) ((1 : Nat) : Int) = l ++ stb (⟨#[123]⟩ ++ strC (numF 1) ++ ⟨#[125]⟩) := by
        rw [E, stb_app, stb_app, stb_num 1 (by omega)]; rfl
      rw [E2]
      have SZ : Hid (l.length + (⟨#[123]⟩ ++ strC (numF 1) ++ ⟨#[125]⟩ : ByteArray).size ≤ 1099511627776) := by
        show l.length + (⟨#[123]⟩ ++ strC (numF 1) ++ ⟨#[125]⟩ : ByteArray).size ≤ 1099511627776
        rw [← stb_len, stb_app, stb_app, stb_num 1 (by omega)]
        have := num_le 1
        have e1 : (stb ⟨#[123]⟩).length = 1 := rfl
        have e2 : (stb ⟨#[125]⟩).length = 1 := rfl
        have := HL.out
        rw [List.length_append, List.length_append, e1, e2]; omega
      have DI : Hid (∀ W, Pow W → Calls Tryd.prog 54 #[.int .i64 ((1 : Nat) : Int)] W (Tells W (.string (strC (numF 1))))) := fun W hW => itoa_any 1 (by omega) W hW
      have hs3 : (strC (numF 1)).size ≤ 3 := by
        rw [← stb_len, stb_num 1 (by omega)]; exact num_le 1
      clear ONE E E2 b1 b2 b3 cq c2
      generalize strC (numF 1) = sm at *
      have q1 := fun W => run_string_add_sum (P := Tryd.prog) W ⟨#[123]⟩ sm (by show 1 + sm.size ≤ _; omega)
      have hs4 : (⟨#[123]⟩ ++ sm : ByteArray).size ≤ 4 := by rw [ByteArray.size_append]; show 1 + sm.size ≤ _; omega
      have q2 := fun W => run_string_add_sum (P := Tryd.prog) W (⟨#[123]⟩ ++ sm) ⟨#[125]⟩ (by show (⟨#[123]⟩ ++ sm : ByteArray).size + 1 ≤ _; omega)
      clear hs3 hs4
      go_enter Tryd.func39, Tryd.ntmps39
      go_wp2_with fail
      go_region_held3 (fun _ => True) (trivial)
        (first
          | (go_at_call 54; refine (DI.out _ (Hid.out (by assumption))).mono ?_; rintro e wn ⟨rfl, hb⟩; have P1 := step_pow (by assumption) hb; have H1 := step_wb (by assumption) hb; have F1 := step_fw (by assumption) hb; clear hb P0 H0 F0)
          | (go_at_call 46; refine (writeString_any (Hid.out (by assumption)) _ SZ.out).mono ?_; rintro e wn ⟨rfl, A2, c2, hb2, hf2⟩; have H2 := Lib.hid hb2; have F2 := Lib.hid (F1.out.trans hf2); clear hb2 hf2)
          | fail)
      all_goals
        go_wp2
        refine bodyPost_end (results_none rfl _ _ _) rfl ?_
        exact ⟨rfl, A2, c2, H2.out, F2.out⟩
    have E2 : l ++ quantOf (k : Int) (k : Int) = l ++ stb (⟨#[123]⟩ ++ strC (numF k) ++ ⟨#[125]⟩) := by
      rw [E, stb_app, stb_app, stb_num k (by omega)]; rfl
    rw [E2]
    have SZ : Hid (l.length + (⟨#[123]⟩ ++ strC (numF k) ++ ⟨#[125]⟩ : ByteArray).size ≤ 1099511627776) := by
      show l.length + (⟨#[123]⟩ ++ strC (numF k) ++ ⟨#[125]⟩ : ByteArray).size ≤ 1099511627776
      rw [← stb_len, stb_app, stb_app, stb_num k (by omega)]
      have := num_le k
      have e1 : (stb ⟨#[123]⟩).length = 1 := rfl
      have e2 : (stb ⟨#[125]⟩).length = 1 := rfl
      have := HL.out
      rw [List.length_append, List.length_append, e1, e2]; omega
    have t0k : ((k : Int) == 0) = false := by rw [beq_eq_false_iff_ne]; omega
    have t1k : ((k : Int) == 1) = false := by rw [beq_eq_false_iff_ne]; omega
    have t1kn : ((k : Int) == -1) = false := by rw [beq_eq_false_iff_ne]; omega
    have DI : Hid (∀ W, Pow W → Calls Tryd.prog 54 #[.int .i64 (k : Nat)] W (Tells W (.string (strC (numF k))))) := fun W hW => itoa_any k (by omega) W hW
    have hs3 : (strC (numF k)).size ≤ 3 := by
      rw [← stb_len, stb_num k (by omega)]; exact num_le k
    clear ONE E E2 b1 b2 b3 cq c2 c3
    generalize strC (numF k) = sm at *
    have q1 := fun W => run_string_add_sum (P := Tryd.prog) W ⟨#[123]⟩ sm (by show 1 + sm.size ≤ _; omega)
    have hs4 : (⟨#[123]⟩ ++ sm : ByteArray).size ≤ 4 := by rw [ByteArray.size_append]; show 1 + sm.size ≤ _; omega
    have q2 := fun W => run_string_add_sum (P := Tryd.prog) W (⟨#[123]⟩ ++ sm) ⟨#[125]⟩ (by show (⟨#[123]⟩ ++ sm : ByteArray).size + 1 ≤ _; omega)
    clear hs3 hs4
    go_enter Tryd.func39, Tryd.ntmps39
    go_wp2_with fail
    go_region_held3 (fun _ => True) (trivial)
      (first
        | (go_at_call 54; refine (DI.out _ (Hid.out (by assumption))).mono ?_; rintro e wn ⟨rfl, hb⟩; have P1 := step_pow (by assumption) hb; have H1 := step_wb (by assumption) hb; have F1 := step_fw (by assumption) hb; clear hb P0 H0 F0)
        | (go_at_call 46; refine (writeString_any (Hid.out (by assumption)) _ SZ.out).mono ?_; rintro e wn ⟨rfl, A2, c2, hb2, hf2⟩; have H2 := Lib.hid hb2; have F2 := Lib.hid (F1.out.trans hf2); clear hb2 hf2)
        | fail)
    all_goals
      go_wp2
      refine bodyPost_end (results_none rfl _ _ _) rfl ?_
      exact ⟨rfl, A2, c2, H2.out, F2.out⟩
  have E : quantOf (m : Int) (k : Int) = 123 :: numF m ++ 44 :: numF k ++ [125] := by
    unfold quantOf; rw [if_neg (by omega), if_neg (by omega), if_neg (by omega), if_neg (by omega), Int.toNat_natCast, Int.toNat_natCast]
  have te : ((m : Int) == (k : Int)) = false := by rw [beq_eq_false_iff_ne]; omega
  have tk1 : ((k : Int) == -1) = false := by rw [beq_eq_false_iff_ne]; omega
  by_cases c2 : m = 0
  · subst c2
    have E2 : l ++ quantOf ((0 : Nat) : Int) (k : Int) = l ++ stb (⟨#[123]⟩ ++ strC (numF 0) ++ ⟨#[44]⟩ ++ strC (numF k) ++ ⟨#[125]⟩) := by
      rw [E, stb_app, stb_app, stb_app, stb_app, stb_num 0 (by omega), stb_num k (by omega)]
      show _ = l ++ ([123] ++ numF 0 ++ [44] ++ numF k ++ [125])
      simp
    rw [E2]
    have SZ : Hid (l.length + (⟨#[123]⟩ ++ strC (numF 0) ++ ⟨#[44]⟩ ++ strC (numF k) ++ ⟨#[125]⟩ : ByteArray).size ≤ 1099511627776) := by
      show l.length + (⟨#[123]⟩ ++ strC (numF 0) ++ ⟨#[44]⟩ ++ strC (numF k) ++ ⟨#[125]⟩ : ByteArray).size ≤ 1099511627776
      rw [← stb_len, stb_app, stb_app, stb_app, stb_app, stb_num 0 (by omega), stb_num k (by omega)]
      have := num_le 0
      have := num_le k
      have e1 : (stb ⟨#[123]⟩).length = 1 := rfl
      have e2 : (stb ⟨#[44]⟩).length = 1 := rfl
      have e3 : (stb ⟨#[125]⟩).length = 1 := rfl
      have := HL.out
      rw [List.length_append, List.length_append, List.length_append, List.length_append, e1, e2, e3]; omega
    have t1k : ((k : Int) == 1) = false := by rw [beq_eq_false_iff_ne]; omega
    have DI : Hid (∀ W, Pow W → Calls Tryd.prog 54 #[.int .i64 0] W (Tells W (.string (strC (numF 0))))) := fun W hW => itoa_any 0 (by omega) W hW
    have DK : Hid (∀ W, Pow W → Calls Tryd.prog 54 #[.int .i64 (k : Nat)] W (Tells W (.string (strC (numF k))))) := fun W hW => itoa_any k (by omega) W hW
    have hs3 : (strC (numF 0)).size ≤ 3 := by
      rw [← stb_len, stb_num 0 (by omega)]; exact num_le 0
    have hs5 : (strC (numF k)).size ≤ 3 := by
      rw [← stb_len, stb_num k (by omega)]; exact num_le k
    clear ONE E E2 b1 b2 b3 cq ce
    generalize strC (numF 0) = sm at *
    generalize strC (numF k) = sk at *
    have q1 := fun W => run_string_add_sum (P := Tryd.prog) W ⟨#[123]⟩ sm (by show 1 + sm.size ≤ _; omega)
    have z1 : (⟨#[123]⟩ ++ sm : ByteArray).size ≤ 4 := by rw [ByteArray.size_append]; show 1 + sm.size ≤ _; omega
    have q2 := fun W => run_string_add_sum (P := Tryd.prog) W (⟨#[123]⟩ ++ sm) ⟨#[44]⟩ (by show (⟨#[123]⟩ ++ sm : ByteArray).size + 1 ≤ _; omega)
    have z2 : (⟨#[123]⟩ ++ sm ++ ⟨#[44]⟩ : ByteArray).size ≤ 5 := by rw [ByteArray.size_append]; show (⟨#[123]⟩ ++ sm : ByteArray).size + 1 ≤ _; omega
    have q3 := fun W => run_string_add_sum (P := Tryd.prog) W (⟨#[123]⟩ ++ sm ++ ⟨#[44]⟩) sk (by omega)
    have z3 : (⟨#[123]⟩ ++ sm ++ ⟨#[44]⟩ ++ sk : ByteArray).size ≤ 8 := by rw [ByteArray.size_append]; omega
    have q4 := fun W => run_string_add_sum (P := Tryd.prog) W (⟨#[123]⟩ ++ sm ++ ⟨#[44]⟩ ++ sk) ⟨#[125]⟩ (by show (⟨#[123]⟩ ++ sm ++ ⟨#[44]⟩ ++ sk : ByteArray).size + 1 ≤ _; omega)
    clear hs3 hs5 z1 z2 z3
    go_enter Tryd.func39, Tryd.ntmps39
    go_wp2_with fail
    go_region_held3 (fun _ => True) (trivial)
      (first
        | (go_at_call 54; (first | with_reducible refine (DI.out _ (Hid.out (by assumption))).mono ?_ | with_reducible refine (DK.out _ (Hid.out (by assumption))).mono ?_); rintro e wn ⟨rfl, hb⟩; have P1 := step_pow (by assumption) hb; have H1 := step_wb (by assumption) hb; have F1 := step_fw (by assumption) hb; clear hb; (first | clear P0 H0 F0 | skip))
        | (go_at_call 46; refine (writeString_any (Hid.out (by assumption)) _ SZ.out).mono ?_; rintro e wn ⟨rfl, A2, c2, hb2, hf2⟩; have H2 := Lib.hid hb2; have F2 := Lib.hid (F1.out.trans hf2); clear hb2 hf2)
        | fail)
    all_goals
      go_wp2
      refine bodyPost_end (results_none rfl _ _ _) rfl ?_
      exact ⟨rfl, A2, c2, H2.out, F2.out⟩
  by_cases c3 : m = 1
  · subst c3
    have E2 : l ++ quantOf ((1 : Nat) : Int) (k : Int) = l ++ stb (⟨#[123]⟩ ++ strC (numF 1) ++ ⟨#[44]⟩ ++ strC (numF k) ++ ⟨#[125]⟩) := by
      rw [E, stb_app, stb_app, stb_app, stb_app, stb_num 1 (by omega), stb_num k (by omega)]
      show _ = l ++ ([123] ++ numF 1 ++ [44] ++ numF k ++ [125])
      simp
    rw [E2]
    have SZ : Hid (l.length + (⟨#[123]⟩ ++ strC (numF 1) ++ ⟨#[44]⟩ ++ strC (numF k) ++ ⟨#[125]⟩ : ByteArray).size ≤ 1099511627776) := by
      show l.length + (⟨#[123]⟩ ++ strC (numF 1) ++ ⟨#[44]⟩ ++ strC (numF k) ++ ⟨#[125]⟩ : ByteArray).size ≤ 1099511627776
      rw [← stb_len, stb_app, stb_app, stb_app, stb_app, stb_num 1 (by omega), stb_num k (by omega)]
      have := num_le 1
      have := num_le k
      have e1 : (stb ⟨#[123]⟩).length = 1 := rfl
      have e2 : (stb ⟨#[44]⟩).length = 1 := rfl
      have e3 : (stb ⟨#[125]⟩).length = 1 := rfl
      have := HL.out
      rw [List.length_append, List.length_append, List.length_append, List.length_append, e1, e2, e3]; omega
    have DI : Hid (∀ W, Pow W → Calls Tryd.prog 54 #[.int .i64 1] W (Tells W (.string (strC (numF 1))))) := fun W hW => itoa_any 1 (by omega) W hW
    have DK : Hid (∀ W, Pow W → Calls Tryd.prog 54 #[.int .i64 (k : Nat)] W (Tells W (.string (strC (numF k))))) := fun W hW => itoa_any k (by omega) W hW
    have hs3 : (strC (numF 1)).size ≤ 3 := by
      rw [← stb_len, stb_num 1 (by omega)]; exact num_le 1
    have hs5 : (strC (numF k)).size ≤ 3 := by
      rw [← stb_len, stb_num k (by omega)]; exact num_le k
    clear ONE E E2 b1 b2 b3 cq ce c2
    generalize strC (numF 1) = sm at *
    generalize strC (numF k) = sk at *
    have q1 := fun W => run_string_add_sum (P := Tryd.prog) W ⟨#[123]⟩ sm (by show 1 + sm.size ≤ _; omega)
    have z1 : (⟨#[123]⟩ ++ sm : ByteArray).size ≤ 4 := by rw [ByteArray.size_append]; show 1 + sm.size ≤ _; omega
    have q2 := fun W => run_string_add_sum (P := Tryd.prog) W (⟨#[123]⟩ ++ sm) ⟨#[44]⟩ (by show (⟨#[123]⟩ ++ sm : ByteArray).size + 1 ≤ _; omega)
    have z2 : (⟨#[123]⟩ ++ sm ++ ⟨#[44]⟩ : ByteArray).size ≤ 5 := by rw [ByteArray.size_append]; show (⟨#[123]⟩ ++ sm : ByteArray).size + 1 ≤ _; omega
    have q3 := fun W => run_string_add_sum (P := Tryd.prog) W (⟨#[123]⟩ ++ sm ++ ⟨#[44]⟩) sk (by omega)
    have z3 : (⟨#[123]⟩ ++ sm ++ ⟨#[44]⟩ ++ sk : ByteArray).size ≤ 8 := by rw [ByteArray.size_append]; omega
    have q4 := fun W => run_string_add_sum (P := Tryd.prog) W (⟨#[123]⟩ ++ sm ++ ⟨#[44]⟩ ++ sk) ⟨#[125]⟩ (by show (⟨#[123]⟩ ++ sm ++ ⟨#[44]⟩ ++ sk : ByteArray).size + 1 ≤ _; omega)
    clear hs3 hs5 z1 z2 z3
    go_enter Tryd.func39, Tryd.ntmps39
    go_wp2_with fail
    go_region_held3 (fun _ => True) (trivial)
      (first
        | (go_at_call 54; (first | with_reducible refine (DI.out _ (Hid.out (by assumption))).mono ?_ | with_reducible refine (DK.out _ (Hid.out (by assumption))).mono ?_); rintro e wn ⟨rfl, hb⟩; have P1 := step_pow (by assumption) hb; have H1 := step_wb (by assumption) hb; have F1 := step_fw (by assumption) hb; clear hb; (first | clear P0 H0 F0 | skip))
        | (go_at_call 46; refine (writeString_any (Hid.out (by assumption)) _ SZ.out).mono ?_; rintro e wn ⟨rfl, A2, c2, hb2, hf2⟩; have H2 := Lib.hid hb2; have F2 := Lib.hid (F1.out.trans hf2); clear hb2 hf2)
        | fail)
    all_goals
      go_wp2
      refine bodyPost_end (results_none rfl _ _ _) rfl ?_
      exact ⟨rfl, A2, c2, H2.out, F2.out⟩
  have E2 : l ++ quantOf (m : Int) (k : Int) = l ++ stb (⟨#[123]⟩ ++ strC (numF m) ++ ⟨#[44]⟩ ++ strC (numF k) ++ ⟨#[125]⟩) := by
    rw [E, stb_app, stb_app, stb_app, stb_app, stb_num m (by omega), stb_num k (by omega)]
    show _ = l ++ ([123] ++ numF m ++ [44] ++ numF k ++ [125])
    simp
  rw [E2]
  have SZ : Hid (l.length + (⟨#[123]⟩ ++ strC (numF m) ++ ⟨#[44]⟩ ++ strC (numF k) ++ ⟨#[125]⟩ : ByteArray).size ≤ 1099511627776) := by
    show l.length + (⟨#[123]⟩ ++ strC (numF m) ++ ⟨#[44]⟩ ++ strC (numF k) ++ ⟨#[125]⟩ : ByteArray).size ≤ 1099511627776
    rw [← stb_len, stb_app, stb_app, stb_app, stb_app, stb_num m (by omega), stb_num k (by omega)]
    have := num_le m
    have := num_le k
    have e1 : (stb ⟨#[123]⟩).length = 1 := rfl
    have e2 : (stb ⟨#[44]⟩).length = 1 := rfl
    have e3 : (stb ⟨#[125]⟩).length = 1 := rfl
    have := HL.out
    rw [List.length_append, List.length_append, List.length_append, List.length_append, e1, e2, e3]; omega
  have t0m : ((m : Int) == 0) = false := by rw [beq_eq_false_iff_ne]; omega
  have t1m : ((m : Int) == 1) = false := by rw [beq_eq_false_iff_ne]; omega
  have DI : Hid (∀ W, Pow W → Calls Tryd.prog 54 #[.int .i64 (m : Nat)] W (Tells W (.string (strC (numF m))))) := fun W hW => itoa_any m (by omega) W hW
  have DK : Hid (∀ W, Pow W → Calls Tryd.prog 54 #[.int .i64 (k : Nat)] W (Tells W (.string (strC (numF k))))) := fun W hW => itoa_any k (by omega) W hW
  have hs3 : (strC (numF m)).size ≤ 3 := by
    rw [← stb_len, stb_num m (by omega)]; exact num_le m
  have hs5 : (strC (numF k)).size ≤ 3 := by
    rw [← stb_len, stb_num k (by omega)]; exact num_le k
  clear ONE E E2 b1 b2 b3 cq ce c2 c3
  generalize strC (numF m) = sm at *
  generalize strC (numF k) = sk at *
  have q1 := fun W => run_string_add_sum (P := Tryd.prog) W ⟨#[123]⟩ sm (by show 1 + sm.size ≤ _; omega)
  have z1 : (⟨#[123]⟩ ++ sm : ByteArray).size ≤ 4 := by rw [ByteArray.size_append]; show 1 + sm.size ≤ _; omega
  have q2 := fun W => run_string_add_sum (P := Tryd.prog) W (⟨#[123]⟩ ++ sm) ⟨#[44]⟩ (by show (⟨#[123]⟩ ++ sm : ByteArray).size + 1 ≤ _; omega)
  have z2 : (⟨#[123]⟩ ++ sm ++ ⟨#[44]⟩ : ByteArray).size ≤ 5 := by rw [ByteArray.size_append]; show (⟨#[123]⟩ ++ sm : ByteArray).size + 1 ≤ _; omega
  have q3 := fun W => run_string_add_sum (P := Tryd.prog) W (⟨#[123]⟩ ++ sm ++ ⟨#[44]⟩) sk (by omega)
  have z3 : (⟨#[123]⟩ ++ sm ++ ⟨#[44]⟩ ++ sk : ByteArray).size ≤ 8 := by rw [ByteArray.size_append]; omega
  have q4 := fun W => run_string_add_sum (P := Tryd.prog) W (⟨#[123]⟩ ++ sm ++ ⟨#[44]⟩ ++ sk) ⟨#[125]⟩ (by show (⟨#[123]⟩ ++ sm ++ ⟨#[44]⟩ ++ sk : ByteArray).size + 1 ≤ _; omega)
  clear hs3 hs5 z1 z2 z3
  go_enter Tryd.func39, Tryd.ntmps39
  go_wp2_with fail
  go_region_held3 (fun _ => True) (trivial)
    (first
      | (go_at_call 54; (first | with_reducible refine (DI.out _ (Hid.out (by assumption))).mono ?_ | with_reducible refine (DK.out _ (Hid.out (by assumption))).mono ?_); rintro e wn ⟨rfl, hb⟩; have P1 := step_pow (by assumption) hb; have H1 := step_wb (by assumption) hb; have F1 := step_fw (by assumption) hb; clear hb; (first | clear P0 H0 F0 | skip))
      | (go_at_call 46; refine (writeString_any (Hid.out (by assumption)) _ SZ.out).mono ?_; rintro e wn ⟨rfl, A2, c2, hb2, hf2⟩; have H2 := Lib.hid hb2; have F2 := Lib.hid (F1.out.trans hf2); clear hb2 hf2)
      | fail)
  all_goals
    go_wp2
    refine bodyPost_end (results_none rfl _ _ _) rfl ?_
    exact ⟨rfl, A2, c2, H2.out, F2.out⟩
end Go.Proofs.YtegehcdjnnajcaaDoor
