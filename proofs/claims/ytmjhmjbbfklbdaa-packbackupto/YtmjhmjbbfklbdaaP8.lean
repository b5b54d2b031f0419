/- Walks over the reference of pack: Uint, Bytes, Seal. -/
import Derived.Test.YtmjhmjbbfklbdaaF1
namespace Go.Proofs.Ytmjhmjbbfklbdaa
open Go.RowKit

/-- a call that gives bytes of its own, and a number -/
def GivesQ (w : World) (l : List Nat) (code : Nat) (e : Ending) (w' : World) : Prop :=
  ∃ A c, e = .returned (.tuple #[.slice A l.length c, .int .i64 (code : Nat)]) ∧ Own w' A c l ∧ Below w.heap.size w w' ∧ ∀ k, ow A = some k → w.heap.size ≤ k
theorem own_new (w : World) : Own (w.alloc (.cells #[] 5)) (some ⟨w.heap.size, 0, none⟩) 0 [] :=
  ⟨World.ownsRow_lit (base := 0) (e := 5) (size := 1) w #[] 0 (Nat.zero_le _) (Nat.zero_le _) (by simp), (fun x h => by cases h), fun h => by cases h⟩
theorem ow_new (w : World) : ∀ k, ow (some ⟨w.heap.size, 0, none⟩) = some k → w.heap.size ≤ k := fun k hk => by have : w.heap.size = k := (by simpa [ow] using hk); omega
theorem below_new (w : World) (o : Obj) : Below w.heap.size w (w.alloc o) := (Below.refl _ _).alloc (Nat.le_refl _) _

theorem uint2_bad (n : Nat) (sz : Int) (w : World) (h : ¬ (1 ≤ sz ∧ sz ≤ 8)) (h1 : -9223372036854775808 ≤ sz) (h2 : sz ≤ 9223372036854775807) :
    Calls Try.prog 12 #[.int .u64 (n : Nat), .int .i64 sz] w (GivesQ w [] 2) := by
  by_cases c1 : sz < 1
  · clear h
    go_enter Try.func12, Try.ntmps12
    go_wp2
    go_ret2
    exact ⟨_, 0, rfl, own_new w, below_new w _, ow_new w⟩
  · have c2 : 8 < sz := by omega
    clear h
    go_enter Try.func12, Try.ntmps12
    go_wp2
    go_ret2
    exact ⟨_, 0, rfl, own_new w, below_new w _, ow_new w⟩

def Uint2 (w : World) (n sz : Nat) (e : Ending) (w' : World) : Prop := (n < 256 ^ sz → GivesQ w (le sz n) 0 e w') ∧ (¬ n < 256 ^ sz → GivesQ w [] 2 e w')
set_option maxHeartbeats 1000000 in
theorem uint2_any (n sz : Nat) (w : World) (h1 : 1 ≤ sz) (h8 : sz ≤ 8) (hn2 : n < 18446744073709551616) :
    Calls Try.prog 12 #[.int .u64 (n : Nat), .int .i64 (sz : Nat)] w (Uint2 w n sz) := by
  have O0 := Lib.hid (own_new w)
  have B0 := Lib.hid (below_new w (.cells #[] 5))
  go_enter Try.func12, Try.ntmps12
  go_wp2_with fail
  go_loopw [6, 7, 8] (fun v x i wr => ∃ (k : Nat) (R : Option Addr) (c : Nat) (l : List Nat), k ≤ sz ∧ i = .int .i64 k ∧ x = .int .u64 (n / 256 ^ k : Nat) ∧ v = .slice R l.length c ∧ Hid (l = le k n) ∧ Own wr R c l ∧ Below w.heap.size w wr ∧ ∀ j, ow R = some j → w.heap.size ≤ j) (fun _ _ i _ => sz - (intOf i).toNat)
  case atStart => exact ⟨0, _, 0, [], by omega, rfl, by simp, rfl, rfl, O0.out, B0.out, ow_new w⟩
  case round =>
    obtain ⟨k, R, c, l, hk, rfl, rfl, rfl, hl, ho, hb, hg⟩ := hrel
    clear O0 B0
    by_cases hlt : k < sz
    · have bX : n / 256 ^ k < 18446744073709551616 := Nat.lt_of_le_of_lt (Nat.div_le_self _ _) hn2
      have HL : Hid (le (k + 1) n = l ++ [n / 256 ^ k % 256]) := by
        show le (k + 1) n = _
        rw [hl.out, le_snoc]
      have HX : Hid (n / 256 ^ (k + 1) = n / 256 ^ k / 256) := by
        show n / 256 ^ (k + 1) = _
        rw [Nat.pow_succ, Nat.div_div_eq_div_mul]
      have ll : l.length ≤ 8 := by rw [hl.out, len_le]; omega
      generalize n / 256 ^ k = X at *
      obtain ⟨y, hy⟩ : ∃ y : Nat, (X : Int) % 256 = (y : Int) := ⟨X % 256, by omega⟩
      have hy2 : y < 256 := by omega
      have HY : Hid (X % 256 = y) := by show X % 256 = y; omega
      have O1 := Lib.hid (ho.alloc (.cells #[.int .u8 (y : Nat)] 5))
      have B1 := Lib.hid (hb.alloc hb.size (.cells #[.int .u8 (y : Nat)] 5))
      have G1 := Lib.hid hg
      have X1 := Lib.hid (bts_one wr y hy2)
      have t1 : (X : Int).tmod 256 = (y : Int) := by rw [Int.tmod_eq_emod_of_nonneg (by omega)]; exact hy
      have t2 : (X : Int).tdiv 256 = ((X / 256 : Nat) : Int) := by rw [Int.tdiv_eq_ediv_of_nonneg (by omega)]; omega
      clear ho hb hg hl
      go_wp2_with (at_builtin; refine appB rfl (.tmp 23) (.tmp 27) rfl R c l O1.out _ 1 [y] X1.out (fun h => by cases h) (by simp; omega) rfl rfl ?_)
      intro R2 c2 l2 w2 hl2 ho2 hg2 hr2
      have B2 := Lib.hid (B1.out.trans (grown_below (B := w.heap.size) hg2 G1.out B1.out.size))
      have G2 := Lib.hid (nr_ge (B := w.heap.size) hr2 G1.out B1.out.size)
      have O2 := Lib.hid ho2
      have L2 : Hid (l2 = le (k + 1) n) := by
        show l2 = _
        rw [HL.out, hl2.out, HY.out]
      clear ho2 hg2 hr2 hl2 O1 B1 G1 X1
      go_wp2
      go_roundw
      case rel => exact ⟨k + 1, R2, c2, l2, by omega, by go_num, by rw [HX.out]; first | rfl | (congr 1; omega), rfl, L2, O2.out, B2.out, G2.out⟩
      case measure => simp [intOf]; omega
    · obtain rfl : k = sz := by omega
      have O1 := Lib.hid ho; have B1 := Lib.hid hb; have G1 := Lib.hid hg
      clear ho hb hg
      by_cases hlt2 : n < 256 ^ k
      · have h0 : n / 256 ^ k = 0 := Nat.div_eq_of_lt hlt2
        rw [h0]
        have HLT := Lib.hid hlt2
        clear h0 hlt2
        go_wp2
        go_ret2
        exact ⟨fun _ => by rw [← hl.out]; exact ⟨R, c, rfl, O1.out, B1.out, G1.out⟩, fun h => absurd HLT.out h⟩
      · have h0 : 0 < n / 256 ^ k := Nat.div_pos (by omega) (Nat.pow_pos (by omega))
        have HLT := Lib.hid hlt2
        generalize n / 256 ^ k = X at *
        clear hlt2
        go_wp2
        go_ret2
        exact ⟨fun h => absurd h HLT.out, fun _ => ⟨_, 0, rfl, own_new _, B1.out.alloc B1.out.size _, fun j hj => by have := ow_new wr j hj; have := B1.out.size; omega⟩⟩

set_option maxHeartbeats 1000000 in
theorem bytes2_any (B : Option Addr) (cb : Nat) (bs : List Nat) (w : World) (hb : Bts w B bs) (hB : B = none → cb = 0) (lb : bs.length < 4294967296) :
    Calls Try.prog 14 #[.slice B bs.length cb] w (GivesN w (le 4 bs.length ++ bs)) := by
  have D1 : Hid (Calls Try.prog 12 #[.int .u64 (bs.length : Nat), .int .i64 4] w (GivesQ w (le 4 bs.length) 0)) := (uint2_any bs.length 4 w (by omega) (by omega) (by omega)).mono fun e w' h => h.1 (by omega)
  have HB := Lib.hid hb; have HN := Lib.hid hB
  clear hb hB
  go_enter Try.func14, Try.ntmps14
  go_wp2_with fail
  with_reducible refine D1.out.mono ?_
  rintro e w1 ⟨A1, c1, rfl, ho1, hb1, hg1⟩
  have X1 := step_bts HB hb1
  have O1 := Lib.hid ho1; have B1 := Lib.hid hb1; have G1 := Lib.hid hg1
  clear HB ho1 hb1 hg1 D1
  have ll : (le 4 bs.length).length ≤ 4 := by rw [len_le]; exact Nat.le_refl 4
  generalize le 4 bs.length = l1 at *
  go_wp2_with (at_builtin; refine appB rfl (.tmp 12) (.tmp 13) rfl A1 c1 l1 O1.out B cb bs X1.out HN.out (by omega) rfl rfl ?_)
  intro R2 c2 l2 w2 hl2 ho2 hg2 hr2
  have B2 := Lib.hid (B1.out.trans (grown_below (B := w.heap.size) hg2 G1.out B1.out.size))
  have G2 := Lib.hid (nr_ge (B := w.heap.size) hr2 G1.out B1.out.size)
  have O2 := Lib.hid ho2
  have HL2 : Hid (l1 ++ bs = l2) := by show l1 ++ bs = l2; rw [hl2.out]
  clear ho2 hg2 hr2 O1 B1 G1 X1 hl2
  go_wp2
  go_ret
  show GivesN w (l1 ++ bs) _ _
  rw [HL2.out]
  exact ⟨R2, c2, rfl, O2.out, B2.out, G2.out⟩

set_option maxHeartbeats 1000000 in
theorem seal2_any (v : Nat) (B : Option Addr) (cb : Nat) (bs : List Nat) (w : World) (hv : v < 256) (hb : Bts w B bs) (hB : B = none → cb = 0) (lb : bs.length < 4294967296) :
    Calls Try.prog 26 #[.int .u8 (v : Nat), .slice B bs.length cb] w (GivesN w (frame v bs)) := by
  have O0 : Hid (Own (w.alloc (.cells #[.int .u8 82, .int .u8 68, .int .u8 76, .int .u8 (v : Nat)] 5)) (some ⟨w.heap.size, 0, none⟩) 4 [82, 68, 76, v]) :=
    ⟨World.ownsRow_lit (base := 0) (e := 5) (size := 1) w #[.int .u8 82, .int .u8 68, .int .u8 76, .int .u8 (v : Nat)] 4 (Nat.zero_le _) (by decide) (by simp), (fun x h => by simp at h; omega), fun h => by cases h⟩
  have B0 := Lib.hid (below_new w (.cells #[.int .u8 82, .int .u8 68, .int .u8 76, .int .u8 (v : Nat)] 5))
  have X0 := step_bts (Lib.hid hb) B0.out
  have D1 := Lib.hid (bytes2_any B cb bs _ X0.out hB lb)
  have G0 := Lib.hid (ow_new w)
  have HM := Lib.hid (bn_mem hb.1)
  clear hb hB
  go_enter Try.func26, Try.ntmps26
  go_wp2_with fail
  with_reducible refine D1.out.mono ?_
  rintro e w1 ⟨A1, c1, rfl, ho1, hb1, hg1⟩
  have B1 := Lib.hid (B0.out.trans (hb1.mono B0.out.size))
  have O1 := step_own O0 hb1
  have Y1 := Lib.hid ho1
  have ll : (le 4 bs.length ++ bs).length ≤ 4294967300 := by rw [List.length_append, len_le]; omega
  have HL : Hid (head v bs = [82, 68, 76, v] ++ (le 4 bs.length ++ bs)) := rfl
  generalize le 4 bs.length ++ bs = l1 at *
  clear ho1 hb1 hg1 D1 O0 B0 X0
  go_wp2_with (at_builtin; refine appB rfl (.tmp 9) (.tmp 11) rfl _ 4 [82, 68, 76, v] O1.out A1 c1 l1 Y1.out.bts Y1.out.2.2 (by simp; omega) rfl rfl ?_)
  intro A2 c2 l2 w2 hl2 ho2 hg2 hr2
  have B2 := Lib.hid (B1.out.trans (grown_below (B := w.heap.size) hg2 G0.out B1.out.size))
  have G2 := Lib.hid (nr_ge (B := w.heap.size) hr2 G0.out B1.out.size)
  have O2 := Lib.hid ho2
  have HL2 : Hid (head v bs = l2) := by show head v bs = l2; exact HL.out.trans hl2.out.symm
  have l2l : l2.length ≤ 4294967304 := by rw [← HL2.out, len_head]; omega
  have D2 := Lib.hid (sum2_any A2 c2 l2 w2 ho2.bts (by omega))
  have hcl := crc_lt l2 ho2.2.1
  have HF : Hid (frame v bs = l2 ++ le 4 (crc l2)) := by show frame v bs = _; unfold frame; rw [HL2.out]
  have D3 : Hid (Calls Try.prog 12 #[.int .u64 (crc l2 : Nat), .int .i64 4] w2 (GivesQ w2 (le 4 (crc l2)) 0)) := (uint2_any (crc l2) 4 w2 (by omega) (by omega) (by omega)).mono fun e w' h => h.1 (by simpa using hcl)
  have l4 : (le 4 (crc l2)).length ≤ 4 := by rw [len_le]; exact Nat.le_refl 4
  generalize le 4 (crc l2) = l3 at *
  generalize crc l2 = sm at *
  clear ho2 hg2 hr2 hl2 O1 B1 Y1 HL HL2
  go_wp2_with fail
  with_reducible refine D2.out.mono ?_
  rintro e w2' ⟨rfl, rfl⟩
  go_wp2_with fail
  with_reducible refine D3.out.mono ?_
  rintro e w3 ⟨A3, c3, rfl, ho3, hb3, hg3⟩
  have B3 := step_below B2 hb3
  have O3 := step_own O2 hb3
  have Y3 := Lib.hid ho3
  clear ho3 hb3 hg3 D2 D3 O2 B2
  go_wp2_with (at_builtin; refine appB rfl (.tmp 20) (.tmp 21) rfl A2 c2 l2 O3.out A3 c3 l3 Y3.out.bts Y3.out.2.2 (by omega) rfl rfl ?_)
  intro A4 c4 l4' w4 hl4 ho4 hg4 hr4
  have B4 := Lib.hid (B3.out.trans (grown_below (B := w.heap.size) hg4 G2.out B3.out.size))
  have G4 := Lib.hid (nr_ge (B := w.heap.size) hr4 G2.out B3.out.size)
  have O4 := Lib.hid ho4
  have E4 : Hid (frame v bs = l4') := by show frame v bs = l4'; rw [HF.out, hl4.out]
  clear ho4 hg4 hr4 hl4 O3 B3 Y3 HF
  go_wp2
  go_ret
  show GivesN w (frame v bs) _ _
  rw [E4.out]
  exact ⟨A4, c4, rfl, O4.out, B4.out, G4.out⟩
end Go.Proofs.Ytmjhmjbbfklbdaa
