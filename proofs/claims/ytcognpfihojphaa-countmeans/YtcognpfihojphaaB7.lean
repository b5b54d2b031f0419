/- keep and New: counters of the three kinds, or none. -/
import Derived.Test.YtcognpfihojphaaB6
namespace Go.Proofs.Ytcognpfihojphaa
open Go.RowKit

/-- what keep gives: a value of the type t, which Q tells -/
def Keeps (L T : Nat) (S : Bool) (kind : Int) (Q : TypeId → Option Addr → List Nat → Nat → World → Prop) : Prop :=
  ∀ W, Calls Try.prog 21 #[bdv L T S, .int .i64 kind] W fun e w' => ∃ t p o, e = .returned (.iface t (.pointer p)) ∧ Q t p o W.heap.size w' ∧ Below W.heap.size W w'

def QV (L T : Nat) (S : Bool) (t : TypeId) (p : Option Addr) (o : List Nat) (B : Nat) (w : World) : Prop := ∃ g, t = 72 ∧ p = some ⟨g, 0, none⟩ ∧ o = [g] ∧ VK w g L T S agNone ∧ B ≤ g
def QR (L T : Nat) (S : Bool) (t : TypeId) (p : Option Addr) (o : List Nat) (B : Nat) (w : World) : Prop := ∃ g m, t = 74 ∧ p = some ⟨g, 0, none⟩ ∧ o = [g, m] ∧ RgB w g m L T S 0 0 0 (fun _ => 0) ∧ B ≤ g ∧ B ≤ m
def QS (L : Nat) (t : TypeId) (p : Option Addr) (o : List Nat) (B : Nat) (w : World) : Prop := ∃ g, t = 76 ∧ p = some ⟨g, 0, none⟩ ∧ o = [g] ∧ SpB w g L L 0 ∧ B ≤ g

theorem box60 (L T : Nat) (S : Bool) (w : World) : Below w.heap.size w (w.alloc (.cells #[.int .i64 (L : Nat), .int .i64 (T : Nat), .bool S] 60)) := (Below.refl _ _).alloc (Nat.le_refl _) _

set_option maxHeartbeats 1000000 in
theorem keep0 (L T : Nat) (S : Bool) (hL : L ≤ T) (hT : T ≤ 200) : Keeps L T S 0 (QV L T S) := by
  intro w
  have D := Lib.hid fun W => newVector_any L T S W hL hT
  have HB := Lib.hid (box60 L T S w)
  unfold bdv at D ⊢
  go_enter Try.func21, Try.ntmps21
  go_wp2_with fail
  refine (D.out _).mono ?_
  rintro e w' ⟨g, rfl, hv, hg, hb⟩
  go_wp2
  go_ret
  exact ⟨_, _, _, rfl, ⟨g, rfl, rfl, rfl, hv, by simp at hg; omega⟩, HB.out.trans (hb.mono (by simp))⟩

set_option maxHeartbeats 1000000 in
theorem keep1 (L T : Nat) (S : Bool) (hT : T ≤ 200) : Keeps L T S 1 (QR L T S) := by
  intro w
  have D := Lib.hid fun W => newRing_any L T S W (by omega)
  have HB := Lib.hid (box60 L T S w)
  unfold bdv at D ⊢
  go_enter Try.func21, Try.ntmps21
  go_wp2_with fail
  refine (D.out _).mono ?_
  rintro e w' ⟨g, m, rfl, hv, hg, hm, hb⟩
  go_wp2
  go_ret
  exact ⟨_, _, _, rfl, ⟨g, m, rfl, rfl, rfl, hv, by simp at hg; omega, by simp at hm; omega⟩, HB.out.trans (hb.mono (by simp))⟩

set_option maxHeartbeats 1000000 in
theorem keep2 (L : Nat) (hT : L ≤ 200) : Keeps L L true 2 (QS L) := by
  intro w
  have HB := Lib.hid (box60 L L true w)
  have h1 := Rw.new (w.alloc (.cells #[.int .i64 (L : Nat), .int .i64 (L : Nat), .bool true] 60)) #[.int .i64 (L : Nat), .int .i64 (L : Nat), .bool true, .int .i64 0] 78
  simp only [World.size_alloc] at h1
  have H1 := Lib.hid h1
  clear h1
  unfold bdv
  go_enter Try.func21, Try.ntmps21
  go_wp2
  go_ret
  exact ⟨_, _, _, rfl, ⟨w.heap.size + 1, rfl, rfl, rfl, H1.out, by omega⟩, HB.out.alloc (by simp) _⟩

set_option maxHeartbeats 1000000 in
theorem keep_none (L T : Nat) (S : Bool) (kind : Int) (h0 : kind ≠ 0) (h1 : kind ≠ 1) (h2 : kind = 2 → S = false) (w : World) :
    Calls Try.prog 21 #[bdv L T S, .int .i64 kind] w fun e w' => e = .returned .nilIface ∧ Below w.heap.size w w' := by
  have HB := Lib.hid (box60 L T S w)
  have e0 : (kind == 0) = false := by simpa using h0
  have e1 : (kind == 1) = false := by simpa using h1
  unfold bdv
  by_cases h : kind = 2
  · obtain rfl := h2 h
    subst h
    go_enter Try.func21, Try.ntmps21
    go_wp2
    go_ret
    exact ⟨rfl, HB.out⟩
  · have e2 : (kind == 2) = false := by simpa using h
    go_enter Try.func21, Try.ntmps21
    go_wp2
    go_ret
    exact ⟨rfl, HB.out⟩

theorem nil40 (t : TypeId) (v : Value) (W : World) : (binOp .eql 40 (.iface t v) .nilIface).run Try.prog W = .ok (.bool false) W := by kernel_rfl
theorem nil40n (W : World) : (binOp .eql 40 .nilIface .nilIface).run Try.prog W = .ok (.bool true) W := by kernel_rfl

/-- what a predicate on new ages must bear -/
structure Bears (Q : TypeId → Option Addr → List Nat → Nat → World → Prop) : Prop where
  below : ∀ t p o B w w', Q t p o B w → Below w.heap.size w w' → Q t p o B w'
  less : ∀ t p o B B' w, Q t p o B w → B' ≤ B → Q t p o B' w
  own : ∀ t p o B w, Q t p o B w → ∀ k, k ∈ o → B ≤ k ∧ k < w.heap.size

theorem bearsV (L T : Nat) (S : Bool) : Bears (QV L T S) where
  below := fun t p o B w w' ⟨g, a, b, c, d, e⟩ hb => ⟨g, a, b, c, d.below hb, e⟩
  less := fun t p o B B' w ⟨g, a, b, c, d, e⟩ h => ⟨g, a, b, c, d, by omega⟩
  own := fun t p o B w ⟨g, a, b, c, d, e⟩ k hk => by
    subst c
    obtain rfl : k = g := by simpa using hk
    obtain ⟨A, c, xs, A', c', es, hv, _⟩ := d
    exact ⟨e, hv.rw.lt⟩
theorem bearsR (L T : Nat) (S : Bool) : Bears (QR L T S) where
  below := fun t p o B w w' ⟨g, m, a, b, c, d, e⟩ hb => ⟨g, m, a, b, c, ⟨d.1.below hb d.1.lt, d.2.1.below hb d.2.1.lt, d.2.2⟩, e⟩
  less := fun t p o B B' w ⟨g, m, a, b, c, d, e⟩ h => ⟨g, m, a, b, c, d, by omega, by omega⟩
  own := fun t p o B w ⟨g, m, a, b, c, d, e⟩ k hk => by
    subst c
    rcases List.mem_cons.1 hk with rfl | hk
    · exact ⟨e.1, d.1.lt⟩
    · obtain rfl : k = m := by simpa using hk
      exact ⟨e.2, d.2.1.lt⟩
theorem bearsS (L : Nat) : Bears (QS L) where
  below := fun t p o B w w' ⟨g, a, b, c, d, e⟩ hb => ⟨g, a, b, c, Rw.below d hb (Rw.lt d), e⟩
  less := fun t p o B B' w ⟨g, a, b, c, d, e⟩ h => ⟨g, a, b, c, d, by omega⟩
  own := fun t p o B w ⟨g, a, b, c, d, e⟩ k hk => by
    subst c
    obtain rfl : k = g := by simpa using hk
    exact ⟨e, Rw.lt d⟩

/-- a new counter, where the numbers are right -/
def NewOk (q : Nat → BitVec 64) (Q : TypeId → Option Addr → List Nat → Nat → World → Prop) (w : World) (e : Ending) (w' : World) : Prop :=
  ∃ b t p o, e = .returned (.tuple #[.pointer (some ⟨b, 0, none⟩), .int .i64 0]) ∧ CtB w' b t p q ∧ Q t p o w.heap.size w' ∧ b ∉ o ∧ w.heap.size ≤ b ∧ Below w.heap.size w w'

set_option maxHeartbeats 1000000 in
theorem new_ok (q : Nat → BitVec 64) (L T : Nat) (S : Bool) (m kind : Int) (Q : TypeId → Option Addr → List Nat → Nat → World → Prop) (w : World) (hL : L ≤ 200)
    (hm : (m = -1 ∧ T = L ∧ S = true) ∨ (m = (T : Int) ∧ L ≤ T ∧ T ≤ 200 ∧ S = false)) (hk : Keeps L T S kind Q) (hQ : Bears Q) :
    Calls Try.prog 8 #[.agg (K.cw q), .int .i64 (L : Nat), .int .i64 m, .int .i64 kind] w (NewOk q Q w) := by
  have D1 : Hid (∀ W, Calls Try.prog 22 #[.int .i64 (L : Nat), .int .i64 m] W fun e w' => e = .returned (bdv L T S) ∧ Below W.heap.size W w') := fun W => by
    rcases hm with ⟨rfl, rfl, rfl⟩ | ⟨rfl, h1, h2, rfl⟩
    · exact bounds_open T W
    · exact bounds_to L T W
  have D2 := Lib.hid hk
  have HQ := Lib.hid hQ
  have hN := nil40
  have hm' : (m = -1 ∧ True) ∨ ((L : Int) ≤ m ∧ m ≤ 200) := by
    rcases hm with ⟨rfl, _, _⟩ | ⟨rfl, h1, h2, _⟩
    · exact .inl ⟨rfl, trivial⟩
    · exact .inr ⟨by omega, by omega⟩
  clear hm hk hQ
  have HC := Lib.hid (K.CB.new w q)
  have hb0 : Hid (Below w.heap.size w (w.alloc (.cells (K.cw q) 24))) := (Below.refl _ _).alloc (Nat.le_refl _) _
  unfold K.cw at HC hb0 ⊢
  rcases hm' with ⟨rfl, _⟩ | ⟨m1, m2⟩
  · go_enter Try.func8, Try.ntmps8
    go_wp2_with fail
    refine (D1.out _).mono ?_
    rintro e w1 ⟨rfl, hb1⟩
    go_wp2_with fail
    refine (D2.out _).mono ?_
    rintro e w2 ⟨t, p, o, rfl, hq, hb2⟩
    have HH := Lib.hid ((hb0.out.trans (hb1.mono (by simp))).trans (hb2.mono (by have := hb1.size; simp at this; omega)))
    have hsz : w.heap.size + 1 ≤ w1.heap.size := by have := hb1.size; simp at this; omega
    have hsz2 := hb2.size
    have cc : ∀ j, j < 4 → w2.cell? ⟨w.heap.size, j, none⟩ = some (.int .u64 (K.uv (q j))) := fun j hj => by
      rw [hb2.cell (p := ⟨w.heap.size, j, none⟩) (by show w.heap.size < _; omega), hb1.cell (p := ⟨w.heap.size, j, none⟩) (by simp)]
      exact K.CB.cell HC.out j hj
    have a0 := cc 0 (by omega); have a1 := cc 1 (by omega); have a2 := cc 2 (by omega); have a3 := cc 3 (by omega)
    have H2 := Lib.hid hq
    clear hq hb1 hb2 cc D1 D2 HC
    go_wp2
    go_ret2
    have h3 := Rw.new w2 (.iface t (.pointer p) :: (K.cw q).toList).toArray 42
    have hB := Lib.hid (((Below.refl w2.heap.size w2).alloc (Nat.le_refl _) (.cells (.iface t (.pointer p) :: (K.cw q).toList).toArray 42)))
    have ho := HQ.out.own _ _ _ _ _ H2.out
    exact ⟨w2.heap.size, t, p, o, rfl, h3, HQ.out.less _ _ _ _ _ _ (HQ.out.below _ _ _ _ _ _ H2.out hB.out) (by omega), fun hm => by have := ho _ hm; omega, by omega, HH.out.trans (hB.out.mono (by omega))⟩
  · have n1 : (m == -1) = false := by simp; omega
    have n2 : (m != -1) = true := by simp; omega
    have n3 : decide (m < (L : Int)) = false := by simp; omega
    have n4 : decide (m > 200) = false := by simp; omega
    go_enter Try.func8, Try.ntmps8
    go_wp2_with fail
    refine (D1.out _).mono ?_
    rintro e w1 ⟨rfl, hb1⟩
    go_wp2_with fail
    refine (D2.out _).mono ?_
    rintro e w2 ⟨t, p, o, rfl, hq, hb2⟩
    have HH := Lib.hid ((hb0.out.trans (hb1.mono (by simp))).trans (hb2.mono (by have := hb1.size; simp at this; omega)))
    have hsz : w.heap.size + 1 ≤ w1.heap.size := by have := hb1.size; simp at this; omega
    have hsz2 := hb2.size
    have cc : ∀ j, j < 4 → w2.cell? ⟨w.heap.size, j, none⟩ = some (.int .u64 (K.uv (q j))) := fun j hj => by
      rw [hb2.cell (p := ⟨w.heap.size, j, none⟩) (by show w.heap.size < _; omega), hb1.cell (p := ⟨w.heap.size, j, none⟩) (by simp)]
      exact K.CB.cell HC.out j hj
    have a0 := cc 0 (by omega); have a1 := cc 1 (by omega); have a2 := cc 2 (by omega); have a3 := cc 3 (by omega)
    have H2 := Lib.hid hq
    clear hq hb1 hb2 cc D1 D2 HC
    go_wp2
    go_ret2
    have h3 := Rw.new w2 (.iface t (.pointer p) :: (K.cw q).toList).toArray 42
    have hB := Lib.hid (((Below.refl w2.heap.size w2).alloc (Nat.le_refl _) (.cells (.iface t (.pointer p) :: (K.cw q).toList).toArray 42)))
    have ho := HQ.out.own _ _ _ _ _ H2.out
    exact ⟨w2.heap.size, t, p, o, rfl, h3, HQ.out.less _ _ _ _ _ _ (HQ.out.below _ _ _ _ _ _ H2.out hB.out) (by omega), fun hm => by have := ho _ hm; omega, by omega, HH.out.trans (hB.out.mono (by omega))⟩

set_option maxHeartbeats 1000000 in
theorem new_bad1 (q : Nat → BitVec 64) (L m kind : Int) (w : World) (h : L < 0 ∨ 200 < L ∨ (m ≠ -1 ∧ (m < L ∨ 200 < m))) :
    Calls Try.prog 8 #[.agg (K.cw q), .int .i64 L, .int .i64 m, .int .i64 kind] w fun e w' => e = .returned (.tuple #[.pointer none, .int .i64 2]) ∧ Below w.heap.size w w' := by
  have hb0 : Hid (Below w.heap.size w (w.alloc (.cells (K.cw q) 24))) := (Below.refl _ _).alloc (Nat.le_refl _) _
  unfold K.cw at hb0 ⊢
  by_cases h1 : L < 0
  · go_enter Try.func8, Try.ntmps8
    go_wp2
    go_ret2
    exact ⟨rfl, hb0.out⟩
  · by_cases h2 : 200 < L
    · go_enter Try.func8, Try.ntmps8
      go_wp2
      go_ret2
      exact ⟨rfl, hb0.out⟩
    · have h3 : m ≠ -1 := by omega
      have n1 : (m == -1) = false := by simpa using h3
      have n2 : (m != -1) = true := by simpa using h3
      by_cases h4 : m < L
      · go_enter Try.func8, Try.ntmps8
        go_wp2
        go_ret2
        exact ⟨rfl, hb0.out⟩
      · have h5 : 200 < m := by omega
        go_enter Try.func8, Try.ntmps8
        go_wp2
        go_ret2
        exact ⟨rfl, hb0.out⟩

set_option maxHeartbeats 1000000 in
theorem new_bad2 (q : Nat → BitVec 64) (L T : Nat) (S : Bool) (m kind : Int) (w : World) (hL : L ≤ 200)
    (hm : (m = -1 ∧ T = L ∧ S = true) ∨ (m = (T : Int) ∧ L ≤ T ∧ T ≤ 200 ∧ S = false)) (h0 : kind ≠ 0) (h1 : kind ≠ 1) (h2 : kind = 2 → S = false) :
    Calls Try.prog 8 #[.agg (K.cw q), .int .i64 (L : Nat), .int .i64 m, .int .i64 kind] w fun e w' => e = .returned (.tuple #[.pointer none, .int .i64 2]) ∧ Below w.heap.size w w' := by
  have D1 : Hid (∀ W, Calls Try.prog 22 #[.int .i64 (L : Nat), .int .i64 m] W fun e w' => e = .returned (bdv L T S) ∧ Below W.heap.size W w') := fun W => by
    rcases hm with ⟨rfl, rfl, rfl⟩ | ⟨rfl, h1, h2, rfl⟩
    · exact bounds_open T W
    · exact bounds_to L T W
  have D2 := Lib.hid fun W => keep_none L T S kind h0 h1 h2 W
  have hN := nil40n
  have hm' : (m = -1 ∧ True) ∨ ((L : Int) ≤ m ∧ m ≤ 200) := by
    rcases hm with ⟨rfl, _, _⟩ | ⟨rfl, h1, h2, _⟩
    · exact .inl ⟨rfl, trivial⟩
    · exact .inr ⟨by omega, by omega⟩
  clear hm h0 h1 h2
  have hb0 : Hid (Below w.heap.size w (w.alloc (.cells (K.cw q) 24))) := (Below.refl _ _).alloc (Nat.le_refl _) _
  unfold K.cw at hb0 ⊢
  rcases hm' with ⟨rfl, _⟩ | ⟨m1, m2⟩
  · go_enter Try.func8, Try.ntmps8
    go_wp2_with fail
    refine (D1.out _).mono ?_
    rintro e w1 ⟨rfl, hb1⟩
    go_wp2_with fail
    refine (D2.out _).mono ?_
    rintro e w2 ⟨rfl, hb2⟩
    have HH := Lib.hid ((hb0.out.trans (hb1.mono (by simp))).trans (hb2.mono (by have := hb1.size; simp at this; omega)))
    clear hb1 hb2
    go_wp2
    go_ret2
    exact ⟨rfl, HH.out⟩
  · have n1 : (m == -1) = false := by simp; omega
    have n2 : (m != -1) = true := by simp; omega
    have n3 : decide (m < (L : Int)) = false := by simp; omega
    have n4 : decide (m > 200) = false := by simp; omega
    go_enter Try.func8, Try.ntmps8
    go_wp2_with fail
    refine (D1.out _).mono ?_
    rintro e w1 ⟨rfl, hb1⟩
    go_wp2_with fail
    refine (D2.out _).mono ?_
    rintro e w2 ⟨rfl, hb2⟩
    have HH := Lib.hid ((hb0.out.trans (hb1.mono (by simp))).trans (hb2.mono (by have := hb1.size; simp at this; omega)))
    clear hb1 hb2
    go_wp2
    go_ret2
    exact ⟨rfl, HH.out⟩
end Go.Proofs.Ytcognpfihojphaa
