/- Walks: math/bits.TrailingZeros64, List, SameInts. -/
import Derived.Test.YtngblecgikhgdaaDoorW6
import Derived.Lib.TrailingZeros
namespace Go.Proofs.YtngblecgikhgdaaDoor
open Go.RowKit

/-- the library's table in its variable -/
def Tab (w : World) : Prop := ∀ j, j < 64 → w.cell? ⟨0, j, none⟩ = some (.int .u8 ((Lib.deBruijn64tab.getD j 0 : Nat) : Int))
theorem Tab.below {B : Nat} {w w' : World} (h : Tab w) (hb : Below B w w') (hB : 0 < B) : Tab w' := fun j hj => (hb.cell (p := ⟨0, j, none⟩) hB).trans (h j hj)

theorem tz_key (X a : Nat) (hx : X < 18446744073709551616) (hx0 : X ≠ 0) (hlow : X &&& (18446744073709551616 - X) = a) (Y : Int) (hY : Y = (X : Int)) :
    IntKind.u64.wrap (bits BinOp.and IntKind.u64 Y (IntKind.u64.wrap (-Y)) * 285870213051353865) / 288230376151711744 = ((a * 285870213051353865 % 18446744073709551616 / 288230376151711744 : Nat) : Int) := by
  subst hY
  have e1 : IntKind.u64.wrap (-(X : Int)) = ((18446744073709551616 - X : Nat) : Int) := by rw [IntKind.wrap_u64]; omega
  rw [e1, and_u64 X _ hx (by omega), hlow, IntKind.wrap_u64]
  omega

set_option maxHeartbeats 1000000 in
theorem tz_core (x : BitVec 64) (k idx : Nat) (w : World) (hx0 : (uv x == 0) = false)
    (key : IntKind.u64.wrap (bits BinOp.and IntKind.u64 (uv x) (IntKind.u64.wrap (-(uv x))) * 285870213051353865) / 288230376151711744 = (idx : Int))
    (hi : idx < 64) (hk : k < 64) (hcell : w.cell? ⟨0, idx, none⟩ = some (.int .u8 k)) :
    Calls Tryd.prog 50 #[.int .u64 (uv x)] w fun e w' => e = .returned (.int .i64 k) ∧ w = w' := by
  go_enter Tryd.func50, Tryd.ntmps50
  go_wp2_with (simp only [key])
  go_ret
  exact ⟨rfl, rfl⟩

theorem tz_any (x : BitVec 64) (w : World) (h0 : x ≠ 0#64) (hT : Tab w) :
    Calls Tryd.prog 50 #[.int .u64 (uv x)] w fun e w' => e = .returned (.int .i64 (Lib.ctz 64 x.toNat : Nat)) ∧ w = w' := by
  have hX : x.toNat ≠ 0 := fun h => h0 (BitVec.eq_of_toNat_eq (by simpa using h))
  obtain ⟨hlow, hk⟩ := Lib.lowest_bit 64 x.toNat hX x.isLt
  obtain ⟨hi, htab⟩ := Lib.deBruijn64_at _ hk
  have hc := hT _ hi
  rw [htab] at hc
  exact tz_core x _ _ w (by rw [uv_eq_zero]; simpa using h0) (tz_key x.toNat _ x.isLt hX hlow (uv x) rfl) hi hk hc

/-- x is not 0: its lowest bit's place, and x without that bit -/
theorem ctz_facts (x : BitVec 64) (h0 : x ≠ 0#64) :
    Lib.ctz 64 x.toNat < 64 ∧ x.getLsbD (Lib.ctz 64 x.toNat) = true ∧ (∀ l, l < Lib.ctz 64 x.toNat → x.getLsbD l = false) ∧
      (∀ l, (x &&& (x - 1#64)).getLsbD l = (decide (Lib.ctz 64 x.toNat + 1 ≤ l) && x.getLsbD l)) ∧ (x &&& (x - 1#64)).toNat < x.toNat := by
  have hX : x.toNat ≠ 0 := fun h => h0 (BitVec.eq_of_toNat_eq (by simpa using h))
  have hlt := x.isLt
  obtain ⟨m, hm, hk⟩ := Lib.ctzFrom_spec 64 x.toNat (by omega) hlt
  have e : Lib.ctz 64 x.toNat = Lib.ctzFrom 64 x.toNat := by simp [Lib.ctz, hX]
  rw [e]
  generalize Lib.ctzFrom 64 x.toNat = k at *
  have hp : 0 < 2 ^ k := Nat.two_pow_pos k
  have hb : ∀ l, x.getLsbD l = if l < k then false else (2 * m + 1).testBit (l - k) := by
    intro l
    show x.toNat.testBit l = _
    have := Nat.testBit_two_pow_mul_add (2 * m + 1) (b := 0) (i := k) hp l
    rw [Nat.add_zero, ← hm] at this
    rw [this]; simp
  have hs : (x - 1#64).toNat = 2 ^ k * (2 * m) + (2 ^ k - 1) := by
    rw [BitVec.toNat_sub]
    have e1 : (1#64).toNat = 1 := rfl
    have e2 : 2 ^ k * (2 * m + 1) = 2 ^ k * (2 * m) + 2 ^ k := by rw [Nat.mul_add, Nat.mul_one]
    rw [e1]
    rw [e2] at hm
    generalize 2 ^ k * (2 * m) = q at *
    generalize 2 ^ k = p at *
    omega
  have hb1 : ∀ l, (x - 1#64).getLsbD l = if l < k then true else (2 * m).testBit (l - k) := by
    intro l
    show (x - 1#64).toNat.testBit l = _
    rw [hs, Nat.testBit_two_pow_mul_add _ (by omega) l]
    split
    · rename_i h; rw [Nat.testBit_two_pow_sub_one]; simp [h]
    · rfl
  refine ⟨hk, ?_, fun l hl => by rw [hb, if_pos hl], fun l => ?_, ?_⟩
  · rw [hb, if_neg (by omega), Nat.sub_self]; simp
  · rw [BitVec.getLsbD_and, hb, hb1]
    by_cases h1 : l < k
    · rw [if_pos h1, if_pos h1]; simp
    · rw [if_neg h1, if_neg h1]
      by_cases h2 : l = k
      · subst h2
        rw [Nat.sub_self]
        simp
      · obtain ⟨d, hd⟩ : ∃ d, l - k = d + 1 := ⟨l - k - 1, by omega⟩
        rw [hd, Nat.testBit_succ, Nat.testBit_succ, show (2 * m + 1) / 2 = m by omega, show 2 * m / 2 = m by omega, decide_eq_true (by omega)]
        simp
  · rw [BitVec.toNat_and]
    have h1 : x.toNat &&& (x - 1#64).toNat ≤ (x - 1#64).toNat := Nat.and_le_right
    rw [hs] at h1
    have e2 : 2 ^ k * (2 * m + 1) = 2 ^ k * (2 * m) + 2 ^ k := by rw [Nat.mul_add, Nat.mul_one]
    rw [e2] at hm
    rw [hs]
    generalize 2 ^ k * (2 * m) = q at *
    generalize 2 ^ k = p at *
    omega

/-- the places of a vector's bits below n -/
def places (xs : List (BitVec 64)) (n : Nat) : List Nat := (List.range n).filter (bit xs)
def ivals (l : List Nat) : List Value := l.map fun (i : Nat) => Value.int .i64 (i : Int)
theorem places_none (xs : List (BitVec 64)) (n : Nat) : ∀ d, (∀ i, n ≤ i → i < n + d → bit xs i = false) → places xs (n + d) = places xs n
  | 0, _ => rfl
  | d + 1, h => by
    unfold places
    rw [← Nat.add_assoc, List.range_succ, List.filter_append, show (List.range (n + d)).filter (bit xs) = (List.range n).filter (bit xs) from places_none xs n d (fun i h1 h2 => h i h1 (by omega))]
    simp [h (n + d) (by omega) (by omega)]
theorem places_one (xs : List (BitVec 64)) (n : Nat) (h : bit xs n = true) : places xs (n + 1) = places xs n ++ [n] := by
  unfold places
  rw [List.range_succ, List.filter_append]
  simp [h]
theorem places_le (xs : List (BitVec 64)) (n : Nat) : (places xs n).length ≤ n := by
  have := List.length_filter_le (bit xs) (List.range n)
  simpa [places] using this
theorem len_ivals (l : List Nat) : (ivals l).length = l.length := by simp [ivals]

theorem Tryd.info3 : (Tryd.prog.info? 3).map (fun i => (i.zero, i.size, i.bytes)) = some (some (.int .i64 0), 1, 8) := by kernel_rfl

/-- the slice at A reads as the numbers zs -/
def zd (zs : List Int) (j : Nat) : Int := zs.getD j 0
def I64s (w : World) (A : Option Addr) (zs : List Int) : Prop :=
  0 < zs.length → ∃ b off, A = some ⟨b, off, none⟩ ∧ b < w.heap.size ∧ ∀ j, j < zs.length → w.cell? ⟨b, off + j, none⟩ = some (.int .i64 (zd zs j))
theorem I64s.below {w w' : World} {A : Option Addr} {zs : List Int} (h : I64s w A zs) (hb : Below w.heap.size w w') : I64s w' A zs := fun h0 => by
  obtain ⟨b, off, e, hlt, hc⟩ := h h0
  exact ⟨b, off, e, Nat.lt_of_lt_of_le hlt hb.size, fun j hj => (hb.cell (p := ⟨b, off + j, none⟩) hlt).trans (hc j hj)⟩
def ints (l : List Nat) : List Int := l.map fun (i : Nat) => (i : Int)
theorem len_ints (l : List Nat) : (ints l).length = l.length := by simp [ints]

/-- what a call that gives a new list of numbers leaves -/
def GivesI (w : World) (zs : List Int) (e : Ending) (w' : World) : Prop :=
  ∃ A c, e = .returned (.slice A zs.length c) ∧ I64s w' A zs ∧ (A = none → c = 0 ∧ zs.length = 0) ∧ Below w.heap.size w w'

theorem givesI_owns {w w' : World} {v : Value} {l : List Nat} {n : Nat} (hn : n = l.length) (h : w'.ownsRow w.heap.size 3 1 v n (ivals l)) (hb : Below w.heap.size w w') : GivesI w (ints l) (.returned v) w' := by
  subst hn
  rcases h.2 with ⟨rfl, h0⟩ | ⟨g, cap, cur, rfl, hg, hh, hc, _, _, ht⟩
  · exact ⟨none, 0, by rw [len_ints, h0], fun h => by rw [len_ints] at h; omega, fun _ => ⟨rfl, by rw [len_ints]; exact h0⟩, hb⟩
  · have hlt : g < w'.heap.size := by
      rcases Nat.lt_or_ge g w'.heap.size with hlt | hge
      · exact hlt
      · rw [Array.getElem?_eq_none hge] at hh; cases hh
    refine ⟨_, cap, by rw [len_ints], fun _ => ⟨g, 0, rfl, hlt, fun j hj => ?_⟩, (fun h => by cases h), hb⟩
    rw [len_ints] at hj
    rw [Nat.zero_add, h.cellAt j (by omega)]
    simp [ivals, ints, zd, hj, List.getD]

theorem ivals_snoc (l : List Nat) (i : Nat) : ivals l ++ [.int .i64 (i : Int)] = ivals (l ++ [i]) := by simp [ivals]

theorem bit_at (xs : List (BitVec 64)) (k l : Nat) (h : l < 64) : bit xs (64 * k + l) = (wd xs k).getLsbD l := by
  unfold bit wd; rw [show (64 * k + l) / 64 = k by omega, show (64 * k + l) % 64 = l by omega]

/-- of the word k all bits from t on are left in r -/
def Left64 (xs : List (BitVec 64)) (k t : Nat) (r : BitVec 64) : Prop := ∀ l, r.getLsbD l = (decide (t ≤ l) && (wd xs k).getLsbD l)
theorem left_start (xs : List (BitVec 64)) (k : Nat) : Left64 xs k 0 (wd xs k) := fun l => by simp
theorem left_end (xs : List (BitVec 64)) (k t : Nat) (ht : t ≤ 64) (h : Left64 xs k t 0#64) : places xs (64 * k + t) = places xs (64 * k + 64) := by
  have e := places_none xs (64 * k + t) (64 - t) (fun i h1 h2 => by
    obtain ⟨l, rfl⟩ : ∃ l, i = 64 * k + l := ⟨i - 64 * k, by omega⟩
    rw [bit_at _ _ _ (by omega)]
    have := h l
    rw [decide_eq_true (by omega)] at this
    simpa using this.symm)
  rw [← e]; congr 1; omega
theorem left_step (xs : List (BitVec 64)) (k t : Nat) (r : BitVec 64) (h : Left64 xs k t r) (h0 : r ≠ 0#64) :
    Lib.ctz 64 r.toNat + 1 ≤ 64 ∧ Left64 xs k (Lib.ctz 64 r.toNat + 1) (r &&& (r - 1#64)) ∧ places xs (64 * k + (Lib.ctz 64 r.toNat + 1)) = places xs (64 * k + t) ++ [64 * k + Lib.ctz 64 r.toNat] ∧ (r &&& (r - 1#64)).toNat < r.toNat := by
  obtain ⟨c1, c2, c3, c4, c5⟩ := ctz_facts r h0
  generalize Lib.ctz 64 r.toNat = q at *
  have ht : t ≤ q := by
    have := h q
    rw [c2] at this
    rcases Nat.lt_or_ge q t with hlt | hge
    · rw [decide_eq_false (by omega)] at this; simp at this
    · exact hge
  have hq : (wd xs k).getLsbD q = true := by
    have := h q
    rw [c2, decide_eq_true ht] at this
    simpa using this.symm
  refine ⟨by omega, fun l => ?_, ?_, c5⟩
  · rw [c4, h]
    by_cases h1 : q + 1 ≤ l
    · rw [decide_eq_true h1, decide_eq_true (by omega)]; simp
    · rw [decide_eq_false h1]; simp
  · have e1 := places_none xs (64 * k + t) (q - t) (fun i h1 h2 => by
      obtain ⟨l, rfl⟩ : ∃ l, i = 64 * k + l := ⟨i - 64 * k, by omega⟩
      rw [bit_at _ _ _ (by omega)]
      have := h l
      rw [c3 l (by omega), decide_eq_true (by omega)] at this
      simpa using this.symm)
    rw [show 64 * k + t + (q - t) = 64 * k + q by omega] at e1
    have e2 := places_one xs (64 * k + q) (by rw [bit_at _ _ _ (by omega)]; exact hq)
    rw [← e1, ← e2, Nat.add_assoc]

set_option maxHeartbeats 1000000 in
theorem list_any (A : Option Addr) (c : Nat) (xs : List (BitVec 64)) (w : World) (hx : U64s w A xs) (hT : Tab w) (hw0 : 0 < w.heap.size) (lx : xs.length ≤ 1048576) :
    Calls Tryd.prog 33 #[.slice A xs.length c] w (GivesI w (ints (places xs (64 * xs.length)))) := by
  obtain ⟨i0, hi0, hz0, hz1, hz2⟩ := info_parts Tryd.info3
  have H1 := Lib.hid (count_any A c xs w hx (by omega))
  have hcl := cnt_le xs
  generalize cnt xs = m at H1 hcl
  go_enter Tryd.func33, Tryd.ntmps33
  go_wp2_with fail
  refine H1.out.mono ?_
  rintro e w' ⟨rfl, rfl⟩
  go_wp2_with (at_make; refine wpList_make_own _ rfl _ _ 35 rfl w.heap.size 3 i0 (.int .i64 0) 1 Tryd.underlying35 hi0 hz0 hz1 .i64 .i64 (m : Int) m rfl rfl rfl (by rw [hz2]; omega) (by unfold maxLen; omega) (Nat.le_refl _) ?_)
  intro w1 hown1 hgrow1
  have hb1 : Below w.heap.size w w1 := (Below.refl _ _).grown hgrow1 (Nat.le_refl _) (fun k hk => by cases hk)
  have HO1 := Lib.hid hown1; have HB1 := Lib.hid hb1
  clear hown1 hgrow1 hb1
  go_wp2_with fail
  go_loopw [3, 11] (fun v i wr => ∃ k : Nat, k ≤ xs.length ∧ i = .int .i64 k ∧ wr.ownsRow w.heap.size 3 1 v (places xs (64 * k)).length (ivals (places xs (64 * k))) ∧ Below w.heap.size w wr) (fun _ i _ => xs.length - (intOf i).toNat)
  case atStart => exact ⟨0, Nat.zero_le _, rfl, HO1.out, HB1.out⟩
  case round =>
    obtain ⟨k, hk, rfl, hown, hbl⟩ := hrel
    have HO := Lib.hid hown; have HB := Lib.hid hbl
    by_cases hlt : k < xs.length
    · obtain ⟨b, off, rfl, hbb, hcell⟩ := (hx.below hbl) (by omega)
      have hc1 := hcell k hlt
      clear hcell hown hbl HO1 HB1
      go_wp2_with fail
      go_loopw [3, 5] (fun v x wi => ∃ (t : Nat) (r : BitVec 64), t ≤ 64 ∧ x = .int .u64 (uv r) ∧ Left64 xs k t r ∧ wi.ownsRow w.heap.size 3 1 v (places xs (64 * k + t)).length (ivals (places xs (64 * k + t))) ∧ Below w.heap.size w wi) (fun _ x _ => (intOf x).toNat)
      case atStart => exact ⟨0, wd xs k, Nat.zero_le _, rfl, left_start xs k, HO.out, HB.out⟩
      case round =>
        obtain ⟨t, r, ht, rfl, hleft, hown, hbl⟩ := hrel
        have HL := Lib.hid hleft; have HO2 := Lib.hid hown; have HB2 := Lib.hid hbl
        clear HO HB hleft hown hbl
        by_cases hr0 : r = 0#64
        · have hne : (uv r != 0) = false := by rw [bne, uv_eq_zero]; simp [hr0]
          have hpl : Hid (places xs (64 * k + t) = places xs (64 * (k + 1))) := by
            have hl := HL.out; rw [hr0] at hl
            exact (left_end xs k t ht hl)
          clear HL hr0
          go_wp2
          go_roundw
          case rel => exact ⟨k + 1, by omega, by go_num, by rw [← hpl.out]; exact HO2.out, HB2.out⟩
          case measure => simp [intOf]; omega
        · have hne : (uv r != 0) = true := by rw [bne, uv_eq_zero]; simp [hr0]
          obtain ⟨g1, g2, g3, g4⟩ := left_step xs k t r HL.out hr0
          have H2 := Lib.hid (tz_any r wr hr0 (hT.below HB2.out hw0))
          have hpl := places_le xs (64 * k + t)
          generalize Lib.ctz 64 r.toNat = q at g1 g2 g3 H2
          have G2 := Lib.hid g2; have G3 := Lib.hid g3; have G4 := Lib.hid g4
          clear g2 g3 g4 hr0 HL
          go_wp2_with fail
          refine H2.out.mono ?_
          rintro e w' ⟨rfl, rfl⟩
          go_wp2_with (at_builtin; refine wpList_append_own _ rfl (.tmp 18) (.tmp 24) 35 rfl w.heap.size 3 i0 (.int .i64 0) 1 8 Tryd.underlying35 hi0 hz0 hz1 hz2 rfl (by decide) u3 _ _ rfl (HO2.out.alloc _) ⟨wr.heap.size, 0, none⟩ 1 1 [.int .i64 ((k : Int) * 64 + (q : Int))] rfl rfl (cell_one_new _ _ _) ?c1 (by unfold maxLen; omega) (by omega) ?c2 ?_)
          case c1 => intro u hu; simp at hu; subst hu; rfl
          case c2 => have := HB2.out.size; simp; omega
          intro v' w2 hown' hgrow _
          have hlen : (places xs (64 * k + t)).length + 1 = (places xs (64 * k + (q + 1))).length := by rw [G3.out]; simp
          have R1 : Hid (w2.ownsRow w.heap.size 3 1 v' (places xs (64 * k + (q + 1))).length (ivals (places xs (64 * k + (q + 1))))) := by
            rw [← hlen, G3.out, ← ivals_snoc]
            have e1 : (k : Int) * 64 + (q : Int) = ((64 * k + q : Nat) : Int) := by omega
            rw [e1] at hown'
            exact hown'
          have R2 : Hid (Below w.heap.size w w2) := by
            have hs := HB2.out.size
            refine (HB2.out.alloc hs _).grown hgrow (by simp; omega) (fun g hg => ?_)
            exact (HO2.out.lt g hg).1
          clear hown' hgrow hlen
          go_wp2
          go_roundw
          case rel => exact ⟨q + 1, r &&& (r - 1#64), g1, by simp only [uv_sub_one, uv_and], G2.out, R1.out, R2.out⟩
          case measure =>
            have := G4.out
            simp only [uv_sub_one, uv_and]
            simp only [intOf, uv, Int.toNat_natCast]
            exact this
    · obtain rfl : k = xs.length := by omega
      clear hown hbl HO1 HB1
      go_wp2
      go_ret
      exact givesI_owns rfl HO.out HB.out

set_option maxHeartbeats 400000 in
theorem sameI_eq (A B : Option Addr) (c d : Nat) (zs : List Int) (w : World) (hx : I64s w A zs) (hy : I64s w B zs) (lx : zs.length ≤ 35184372088832) :
    Calls Tryd.prog 35 #[.slice A zs.length c, .slice B zs.length d] w fun e w' => e = .returned (.bool true) ∧ ∃ n, w' = w.drewN n := by
  go_enter Tryd.func35, Tryd.ntmps35
  go_wp2
  go_loopw [5] (fun i wr => ∃ k m : Nat, k ≤ zs.length ∧ i = .int .i64 k ∧ wr = w.drewN m) (fun i _ => zs.length - (intOf i).toNat)
  case atStart => exact ⟨0, 0, Nat.zero_le _, rfl, rfl⟩
  case round =>
    obtain ⟨k, m, hk, rfl, rfl⟩ := hrel
    by_cases hlt : k < zs.length
    · obtain ⟨b, off, rfl, hbb, hcell⟩ := hx (by omega)
      obtain ⟨b2, off2, rfl, hbb2, hcell2⟩ := hy (by omega)
      have hc1 := hcell k hlt
      have hc2 := hcell2 k hlt
      have hne : (zd zs k != zd zs k) = false := by simp
      clear hcell hcell2 hx hy
      go_wp2
      go_quiet (fail)
      go_wp2
      go_roundw
      case rel => exact ⟨k + 1, _, by omega, by go_num, rfl⟩
      case measure => simp [intOf]; omega
    · go_wp2
      go_ret
      exact ⟨rfl, _, rfl⟩
end Go.Proofs.YtngblecgikhgdaaDoor
