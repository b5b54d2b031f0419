/- The bits of what Low, Set, Clear give; one contract each; slices that came in as vectors. -/
import Derived.Test.YtngblecgikhgdaaDoorQ
namespace Go.Proofs.YtngblecgikhgdaaDoor
open Go.ChangeShapes Go.WideShapes Go.ChangeAt Go.RowKit

/-- the bits below n -/
def lowv (xs : List (BitVec 64)) (n : Int) : List (BitVec 64) :=
  if n ≤ 0 then [] else if xs.length ≤ n.toNat / 64 then canon xs
  else canon ((xs.take (n.toNat / 64 + 1)).set (n.toNat / 64) (wd (xs.take (n.toNat / 64 + 1)) (n.toNat / 64) &&& (1#64 <<< (n.toNat % 64) - 1#64)))

theorem low_any (A : Option Addr) (c : Nat) (n : Int) (xs : List (BitVec 64)) (w : World) (hx : U64s w A xs) (hc : xs.length ≤ c) (lx : xs.length ≤ 35184372088832) (hi : n ≤ 9223372036854775807) :
    Calls Tryd.prog 30 #[.slice A xs.length c, .int .i64 n] w (Gives w (lowv xs n)) := by
  unfold lowv
  by_cases h0 : n ≤ 0
  · rw [if_pos h0]; exact low_no A c xs n w h0
  · obtain ⟨m, rfl⟩ := Int.eq_ofNat_of_zero_le (show 0 ≤ n by omega)
    rw [if_neg h0, Int.toNat_natCast]
    by_cases h1 : xs.length ≤ m / 64
    · rw [if_pos h1]; exact low_all A c m xs w hx hc lx (by omega) (by omega) h1
    · rw [if_neg h1]; exact low_in A c m (m / 64) xs w hx lx (by omega) (by omega) rfl (by omega)

theorem mask_low (k l : Nat) (hk : k < 64) (hl : l < 64) : (1#64 <<< k - 1#64).getLsbD l = decide (l < k) := by
  have h1 : (2 : Nat) ^ k < 2 ^ 64 := Nat.pow_lt_pow_right (by omega) hk
  have h2 : 0 < 2 ^ k := Nat.two_pow_pos k
  have e : (1#64 <<< k - 1#64).toNat = 2 ^ k - 1 := by
    rw [BitVec.toNat_sub, BitVec.toNat_shiftLeft]
    have e1 : (1#64).toNat = 1 := rfl
    rw [e1, Nat.shiftLeft_eq, Nat.one_mul, Nat.mod_eq_of_lt h1]
    omega
  show (1#64 <<< k - 1#64).toNat.testBit l = _
  rw [e, Nat.testBit_two_pow_sub_one]

theorem bit_wd (xs : List (BitVec 64)) (i : Nat) : bit xs i = (wd xs (i / 64)).getLsbD (i % 64) := rfl

theorem can_lowv (xs : List (BitVec 64)) (n : Int) : Can (lowv xs n) := by
  unfold lowv
  split
  · exact can_nil
  · split <;> exact can_canon _

theorem wd_set (L : List (BitVec 64)) (k j : Nat) (x : BitVec 64) (h : k < L.length) : wd (L.set k x) j = if j = k then x else wd L j := by
  unfold wd
  simp only [List.getD, List.getElem?_set]
  by_cases e : j = k
  · rw [if_pos e.symm, if_pos h, if_pos e]; rfl
  · rw [if_neg (fun h => e h.symm), if_neg e]
theorem wd_take (xs : List (BitVec 64)) (m j : Nat) : wd (xs.take m) j = if j < m then wd xs j else 0#64 := by
  unfold wd
  simp only [List.getD, List.getElem?_take]
  split <;> rfl

theorem bit_lowv (xs : List (BitVec 64)) (n : Int) (i : Nat) : bit (lowv xs n) i = (decide ((i : Int) < n) && bit xs i) := by
  unfold lowv
  by_cases h0 : n ≤ 0
  · rw [if_pos h0, decide_eq_false (by omega)]; simp [bit]
  · rw [if_neg h0]
    obtain ⟨m, rfl⟩ := Int.eq_ofNat_of_zero_le (show 0 ≤ n by omega)
    rw [Int.toNat_natCast]
    by_cases h1 : xs.length ≤ m / 64
    · rw [if_pos h1, bit_canon]
      by_cases h2 : i < m
      · rw [decide_eq_true (by omega)]; simp
      · rw [decide_eq_false (by omega), bit_big xs i (by omega)]; rfl
    · rw [if_neg h1, bit_canon, bit_wd, wd_set _ _ _ _ (by simp; omega), wd_take, wd_take, if_pos (show m / 64 < m / 64 + 1 by omega), bit_wd]
      by_cases e : i / 64 = m / 64
      · rw [if_pos e, BitVec.getLsbD_and, mask_low _ _ (by omega) (by omega), e, Bool.and_comm]
        congr 1
        rw [Bool.eq_iff_iff]; simp; omega
      · rw [if_neg e]
        by_cases h3 : i / 64 < m / 64 + 1
        · rw [if_pos h3, decide_eq_true (by omega)]; simp
        · rw [if_neg h3, decide_eq_false (by omega)]; simp

theorem can_setv (xs : List (BitVec 64)) (i : Nat) : Can (setv xs i) ∧ (∀ j, bit (setv xs i) j = (bit xs j || decide (j = i))) ∧ (setv xs i).length = max (canon xs).length (i / 64 + 1) := by
  have e : setv xs i = set1 (padv (canon xs) (max (canon xs).length (i / 64 + 1))) i := rfl
  have hl : (padv (canon xs) (max (canon xs).length (i / 64 + 1))).length = max (canon xs).length (i / 64 + 1) := by rw [len_padv]; omega
  have hb : ∀ j, bit (setv xs i) j = (bit xs j || decide (j = i)) := by
    intro j
    rw [e, bit_set1 _ _ _ (by rw [hl]; omega)]
    congr 1
    rw [bit_wd, wd_padv, ← bit_wd, bit_canon]
  refine ⟨?_, hb, by rw [e, len_set1, hl]⟩
  by_cases h : i / 64 + 1 ≥ (canon xs).length
  · apply can_of_bit _ i
    intro _
    rw [e, len_set1, hl, ← e]
    exact ⟨by omega, by rw [hb]; simp⟩
  · intro h0 hz
    have hc := can_canon xs (by omega)
    apply hc
    have e1 : (setv xs i).length - 1 = (canon xs).length - 1 := by rw [e, len_set1, hl]; omega
    rw [e1] at hz
    have e2 : wd (setv xs i) ((canon xs).length - 1) = wd (canon xs) ((canon xs).length - 1) := by
      rw [e]
      unfold set1
      rw [wd_set _ _ _ _ (by rw [hl]; omega), if_neg (by omega), wd_padv]
    exact e2.symm.trans hz

/-- with the bit i not set, whatever i is -/
def clrv (xs : List (BitVec 64)) (i : Int) : List (BitVec 64) := if i < 0 then canon xs else clearv xs i.toNat

theorem clear_any (A : Option Addr) (c : Nat) (xs : List (BitVec 64)) (i : Int) (w : World) (hx : U64s w A xs) (hc : xs.length ≤ c) (lx : xs.length ≤ 35184372088832) (hi : i ≤ 9223372036854775807) :
    Calls Tryd.prog 22 #[.slice A xs.length c, .int .i64 i] w (Gives w (clrv xs i)) := by
  unfold clrv
  by_cases h0 : i < 0
  · rw [if_pos h0]; exact clear_no A c xs i w hx hc lx h0
  · obtain ⟨m, rfl⟩ := Int.eq_ofNat_of_zero_le (show 0 ≤ i by omega)
    rw [if_neg h0, Int.toNat_natCast]
    unfold clearv
    by_cases h1 : m / 64 < (canon xs).length
    · rw [if_pos h1]; exact clear_in A c m xs w hx hc lx (by omega) h1
    · rw [if_neg h1]; exact clear_out A c m xs w hx hc lx (by omega) h1

theorem can_clrv (xs : List (BitVec 64)) (i : Int) : Can (clrv xs i) := by
  unfold clrv clearv
  split
  · exact can_canon _
  · split <;> exact can_canon _

theorem bit_clrv (xs : List (BitVec 64)) (i : Int) (j : Nat) : bit (clrv xs i) j = (bit xs j && !decide ((j : Int) = i)) := by
  unfold clrv
  by_cases h0 : i < 0
  · rw [if_pos h0, bit_canon, decide_eq_false (by omega)]; simp
  · obtain ⟨m, rfl⟩ := Int.eq_ofNat_of_zero_le (show 0 ≤ i by omega)
    rw [if_neg h0, Int.toNat_natCast]
    unfold clearv
    by_cases h1 : m / 64 < (canon xs).length
    · rw [if_pos h1, bit_canon, bit_wd, wd_set _ _ _ _ h1, ← bit_canon xs j, bit_wd]
      by_cases e : j / 64 = m / 64
      · rw [if_pos e, BitVec.getLsbD_and, e]
        congr 1
        have hm : m % 64 < 64 := Nat.mod_lt _ (by omega)
        have hj : j % 64 < 64 := Nat.mod_lt _ (by omega)
        rw [BitVec.getLsbD_not, BitVec.getLsbD_shiftLeft]
        by_cases h2 : j = m
        · subst h2; simp
        · have h3 : j % 64 ≠ m % 64 := by omega
          rw [decide_eq_false (show ¬ ((j : Int) = (m : Int)) by omega), decide_eq_true hj]
          by_cases h4 : j % 64 < m % 64
          · simp [h4]
          · have : j % 64 - m % 64 ≠ 0 := by omega
            simp [BitVec.getLsbD_one, this]
      · rw [if_neg e, decide_eq_false (by omega)]; simp
    · rw [if_neg h1, bit_canon]
      by_cases h2 : j = m
      · subst h2
        rw [← bit_canon xs j, bit_big (canon xs) j (by omega)]; rfl
      · rw [decide_eq_false (by omega)]; simp
theorem len_clrv (xs : List (BitVec 64)) (i : Int) : (clrv xs i).length ≤ xs.length := by
  have h1 := canon_le xs
  unfold clrv clearv
  split
  · exact h1
  · split
    · have := canon_le ((canon xs).set (i.toNat / 64) (wd (canon xs) (i.toNat / 64) &&& ~~~(1#64 <<< (i.toNat % 64))))
      rw [List.length_set] at this
      omega
    · exact h1
theorem len_lowv (xs : List (BitVec 64)) (n : Int) : (lowv xs n).length ≤ xs.length := by
  have h1 := canon_le xs
  unfold lowv
  split
  · simp
  · split
    · exact h1
    · have := canon_le ((xs.take (n.toNat / 64 + 1)).set (n.toNat / 64) (wd (xs.take (n.toNat / 64 + 1)) (n.toNat / 64) &&& (1#64 <<< (n.toNat % 64) - 1#64)))
      rw [List.length_set, List.length_take] at this
      omega

/-- a slice of words that came in -/
def VecArg (w : World) (a : Option Addr) (c : Nat) (xs : List (BitVec 64)) : Prop :=
  xs.length ≤ c ∧ U64s w a xs ∧ (a = none → c = 0 ∧ xs.length = 0) ∧ xs.length ≤ 17592186043904
def IntArg (w : World) (a : Option Addr) (c : Nat) (zs : List Int) : Prop :=
  zs.length ≤ c ∧ I64s w a zs ∧ (a = none → c = 0 ∧ zs.length = 0) ∧ zs.length ≤ 17592186043904 ∧ ∀ j, -9223372036854775808 ≤ zd zs j ∧ zd zs j ≤ 9223372036854775807

theorem cell_lt {w : World} {p : Addr} {v : Value} (h : w.cell? p = some v) : p.block < w.heap.size := by
  rcases Nat.lt_or_ge p.block w.heap.size with hlt | hge
  · exact hlt
  · exfalso
    have : w.heap[p.block]? = none := Array.getElem?_eq_none hge
    simp [World.cell?, this] at h

theorem open_vec {H : Type} {enc : TypeId × Value → H} {W : World} {base : Nat} {a : Option Addr} {len cap : Nat} {d : DataW H} {p : List MemPlace} {ts : List TypeId} {ds : List (DataW H)} {j : Nat}
    (h : DataW.Trod enc Tryd.prog W base (fun _ => true) true 23 (.slice a len cap) d p)
    (hsz : (DataW.weightsEach Tryd.prog ts ds).all (· ≤ reachBytes) = true) (ht : ts[j]? = some 23) (hd : ds[j]? = some d) :
    ∃ xs, xs.length = len ∧ VecArg W a cap xs := by
  obtain ⟨fuel, hf⟩ := h
  rcases open_ints Tryd.underlying23 Tryd.underlying45 (by kernel_rfl) hf with ⟨hcs, _⟩ | ⟨x, l, c, zs, hcs, _, hl, hm, hz, hx, hcell, hwz⟩
  · simp [Value.cells] at hcs
    obtain ⟨rfl, rfl, rfl⟩ := hcs
    exact ⟨[], rfl, Nat.le_refl _, fun h => by simp at h, fun _ => ⟨rfl, rfl⟩, by simp⟩
  · simp [Value.cells] at hcs
    obtain ⟨rfl, rfl, rfl⟩ := hcs
    have hz : zs.length = cap := by simpa using hz
    simp only [Prod.mk.injEq] at hx
    obtain ⟨rfl, _⟩ := hx
    have hs := sized_slice hsz ht hd Tryd.underlying23
    rw [bytes45] at hs
    simp only [lits, List.length_map, List.length_take, List.length_drop, reachBytes] at hs
    refine ⟨(zs.take len).map (BitVec.ofInt 64), by simp; omega, by simp; omega, ?_, (fun h => by cases h), by simp; omega⟩
    intro h0
    have h0' : 0 < zs.length := by simp at h0; omega
    obtain ⟨b, off, rfl, hc⟩ := ints_at hcell h0'
    refine ⟨b, off, rfl, cell_lt (hc 0 h0'), fun j hj => ?_⟩
    have hj' : j < len := by simp at hj; omega
    rw [hc j (by omega)]
    have hw := bounds_u64 (hwz zs[j] (List.getElem_mem (by omega)))
    have e : uv (wd ((zs.take len).map (BitVec.ofInt 64)) j) = zs.getD j 0 := by
      have hjz : j < zs.length := by omega
      simp only [wd, List.getD, List.getElem?_map, List.getElem?_take, hj', if_true, List.getElem?_eq_getElem hjz, Option.map_some, Option.getD_some]
      unfold uv
      rw [BitVec.toNat_ofInt]
      omega
    rw [e]

theorem open_ivec {H : Type} {enc : TypeId × Value → H} {W : World} {base : Nat} {a : Option Addr} {len cap : Nat} {d : DataW H} {p : List MemPlace} {ts : List TypeId} {ds : List (DataW H)} {j : Nat}
    (h : DataW.Trod enc Tryd.prog W base (fun _ => true) true 35 (.slice a len cap) d p)
    (hsz : (DataW.weightsEach Tryd.prog ts ds).all (· ≤ reachBytes) = true) (ht : ts[j]? = some 35) (hd : ds[j]? = some d) :
    ∃ zs, zs.length = len ∧ IntArg W a cap zs := by
  obtain ⟨fuel, hf⟩ := h
  rcases open_ints Tryd.underlying35 Tryd.underlying3 (by kernel_rfl) hf with ⟨hcs, _⟩ | ⟨x, l, c, zs, hcs, _, hl, hm, hz, hx, hcell, hwz⟩
  · simp [Value.cells] at hcs
    obtain ⟨rfl, rfl, rfl⟩ := hcs
    exact ⟨[], rfl, Nat.le_refl _, fun h => by simp at h, fun _ => ⟨rfl, rfl⟩, by simp, fun j => by simp [zd]⟩
  · simp [Value.cells] at hcs
    obtain ⟨rfl, rfl, rfl⟩ := hcs
    have hz : zs.length = cap := by simpa using hz
    simp only [Prod.mk.injEq] at hx
    obtain ⟨rfl, _⟩ := hx
    have hs := sized_slice hsz ht hd Tryd.underlying35
    rw [bytes3] at hs
    simp only [lits, List.length_map, List.length_take, List.length_drop, reachBytes] at hs
    refine ⟨zs.take len, by simp; omega, by simp; omega, ?_, (fun h => by cases h), by simp; omega, fun j => ?_⟩
    · intro h0
      have h0' : 0 < zs.length := by simp at h0; omega
      obtain ⟨b, off, rfl, hc⟩ := ints_at hcell h0'
      refine ⟨b, off, rfl, cell_lt (hc 0 h0'), fun j hj => ?_⟩
      have hj' : j < len := by simp at hj; omega
      rw [hc j (by omega)]
      simp [zd, List.getD, hj']
    · unfold zd
      simp only [List.getD, List.getElem?_take]
      split
      · exact range_i64 hwz j
      · simp
end Go.Proofs.YtngblecgikhgdaaDoor
