/- The stable sort: swaps, turns, merging halves; pure and walks. -/
import Derived.Test.YtkljagffccommaaE38
import Derived.Deep.DeepCutAuto

/- Two stretches of a row of numbers change places. -/
namespace Go.Proofs.Ytkljagffccommaa
open Go.RowKit Go.Sort

/-- as places tell it -/
def at_ (d : Array Nat) (i : Nat) : Nat := d[i]!
theorem swp_at {d : Array Nat} {n i j : Nat} (hd : d.size = n) (hi : i < n) (hj : j < n) (k : Nat) : at_ (swp d i j) k = if k = j then at_ d i else if k = i then at_ d j else at_ d k :=
  swp_get d (by omega) (by omega) k
/-- what swapping stretches leaves, i places on -/
structure Swd (lo hi x y i : Nat) (d d' : Array Nat) : Prop where
  swr : Swr x y i (at_ d) (at_ d')
  perm : PermIn lo hi d d'
theorem Swd.zero (lo hi x y : Nat) (d : Array Nat) : Swd lo hi x y 0 d d := ⟨⟨fun t h => by omega, fun k _ _ => rfl⟩, permIn_refl d lo hi⟩
theorem Swd.step {lo hi x y i n : Nat} {d d' : Array Nat} (h : Swd lo hi x y i d d') (hd : d'.size = n) (hxy : x + i < y) (hl : lo ≤ x) (hh : y + i < hi) (hn : hi ≤ n) : Swd lo hi x y (i + 1) d (swp d' (x + i) (y + i)) := by
  have e := swp_at (i := x + i) (j := y + i) hd (by omega) (by omega)
  obtain ⟨⟨h1, h2⟩, hp⟩ := h
  refine ⟨⟨fun t ht => ?_, fun k k1 k2 => ?_⟩, permIn_trans d d' _ lo hi hp (swp_permIn d' lo hi (x + i) (y + i) (by omega) (by omega) (by omega) (by omega) (by omega))⟩
  · rw [e, e]
    by_cases ht2 : t = i
    · subst ht2
      rw [if_neg (by omega), if_pos rfl, if_pos rfl]
      exact ⟨h2 (y + t) (by omega) (by omega), h2 (x + t) (by omega) (by omega)⟩
    · rw [if_neg (by omega), if_neg (by omega), if_neg (by omega), if_neg (by omega)]
      exact h1 t (by omega)
  · rw [e, if_neg (by omega), if_neg (by omega)]
    exact h2 k (by omega) (by omega)

set_option maxRecDepth 100000 in
set_option maxHeartbeats 8000000 in
theorem swapr_any (g n cp x y len lo hi : Nat) (v : Value) (w0 : World) (hn : n ≤ 1000000) (hxy : x + len ≤ y) (hl : lo ≤ x) (hh : y + len ≤ hi) (hin : hi ≤ n) (d : Array Nat) (w : World) (hS : SI w0 w g d n) :
    Calls Try.prog 129 #[.slice (some ⟨g, 0, none⟩) n cp, .int .i64 (x : Nat), .int .i64 (y : Nat), .int .i64 (len : Nat), v] w
      fun e w' => e = .returned (.tuple #[]) ∧ ∃ d', SI w0 w' g d' n ∧ Swd lo hi x y len d d' := by
  have S0 := Lib.hid hS
  clear hS
  go_enter Try.func129, Try.ntmps129
  go_wp2_with fail
  go_loopw [10] (fun vi wr => ∃ (i : Nat) (dk : Array Nat), i ≤ len ∧ vi = .int .i64 (i : Nat) ∧ Hid (SI w0 wr g dk n) ∧ Hid (Swd lo hi x y i d dk)) (fun vi _ => len - (intOf vi).toNat)
  case atStart => exact ⟨0, d, Nat.zero_le _, by simp, S0, Swd.zero lo hi x y d⟩
  case round =>
    obtain ⟨i, dk, hil, rfl, S1, W1⟩ := hrel
    clear S0
    by_cases hlt : i < len
    · have qi : (i : Int) < (len : Int) := by omega
      have q6 : IntKind.i64.wrap ((i : Int) + 1) = ((i + 1 : Nat) : Int) := by rw [IntWalk.i64_in _ (by omega)]; omega
      obtain ⟨p, hp⟩ : ∃ p, x + i = p := ⟨_, rfl⟩
      obtain ⟨q, hq⟩ : ∃ q, y + i = q := ⟨_, rfl⟩
      have hpn : p < n := by omega
      have hqn : q < n := by omega
      have qp : IntKind.i64.wrap ((x : Int) + (i : Int)) = (p : Int) := by rw [IntWalk.i64_in _ (by omega)]; omega
      have qq : IntKind.i64.wrap ((y : Int) + (i : Int)) = (q : Int) := by rw [IntWalk.i64_in _ (by omega)]; omega
      have qpn : (p : Int) < (n : Int) := by omega
      have qqn : (q : Int) < (n : Int) := by omega
      have hpq : ¬ p = q := by omega
      have hqp : ¬ q = p := by omega
      have c1 := S1.out.cell p hpn
      have c2 := S1.out.cell q hqn
      have f1 := S1.out.frozen p
      have f2 := S1.out.frozen q
      have S6 := Lib.hid (S1.out.swap p q hpn hqn)
      have W6 : Hid (Swd lo hi x y (i + 1) d (swp dk p q)) := by
        subst hp; subst hq
        exact W1.out.step S1.out.sz (by omega) hl (by omega) hin
      generalize dk[p]! = xp at *
      generalize dk[q]! = xq at *
      clear S1 W1 hpn hqn hp hq
      go_wp2_with fail
      go_region
      go_wp2_with fail
      go_roundw
      case rel => exact ⟨i + 1, swp dk p q, by omega, by simp, Lib.hid S6.out.drew, W6⟩
      case measure => simp [intOf]; omega
    · have qi : ¬ (i : Int) < (len : Int) := by omega
      have hie : i = len := by omega
      have W2 : Hid (Swd lo hi x y len d dk) := by rw [← hie]; exact W1
      clear hie W1
      go_wp2
      go_end0
      exact ⟨rfl, dk, S1.out, W2.out⟩

set_option maxRecDepth 100000 in
set_option maxHeartbeats 8000000 in
theorem rotate_any (g n cp a m b : Nat) (v : Value) (w0 : World) (hn : n ≤ 1000000) (ham : a < m) (hmb : m < b) (hb : b ≤ n) (d : Array Nat) (w : World) (hS : SI w0 w g d n) :
    Calls Try.prog 120 #[.slice (some ⟨g, 0, none⟩) n cp, .int .i64 (a : Nat), .int .i64 (m : Nat), .int .i64 (b : Nat), v] w
      fun e w' => e = .returned (.tuple #[]) ∧ ∃ d', SI w0 w' g d' n ∧ Rot a m b (at_ d) (at_ d') ∧ PermIn a b d d' := by
  have S0 := Lib.hid hS
  clear hS
  obtain ⟨i0, hi0⟩ : ∃ i, m - a = i := ⟨_, rfl⟩
  obtain ⟨j0, hj0⟩ : ∃ j, b - m = j := ⟨_, rfl⟩
  have q1 : IntKind.i64.wrap ((m : Int) - (a : Int)) = (i0 : Int) := by rw [IntWalk.i64_in _ (by omega)]; omega
  have q2 : IntKind.i64.wrap ((b : Int) - (m : Int)) = (j0 : Int) := by rw [IntWalk.i64_in _ (by omega)]; omega
  have R0 : Hid (∀ d', Rot (m - i0) m (m + j0) (at_ d) (at_ d') → Rot a m b (at_ d) (at_ d')) := fun d' h => by
    rw [show m - i0 = a by omega, show m + j0 = b by omega] at h; exact h
  have H0 : Hid (0 < i0 ∧ 0 < j0 ∧ a ≤ m - i0 ∧ i0 ≤ m ∧ m + j0 ≤ b) := ⟨by omega, by omega, by omega, by omega, by omega⟩
  clear hi0 hj0
  go_enter Try.func120, Try.ntmps120
  go_wp2_with fail
  go_loopw [10, 11] (fun vi vj wr => ∃ (i j : Nat) (dk : Array Nat), vi = .int .i64 (i : Nat) ∧ vj = .int .i64 (j : Nat) ∧ Hid (0 < i ∧ 0 < j ∧ a ≤ m - i ∧ i ≤ m ∧ m + j ≤ b) ∧ Hid (SI w0 wr g dk n) ∧ Hid (∀ d', Rot (m - i) m (m + j) (at_ dk) (at_ d') → Rot a m b (at_ d) (at_ d')) ∧ Hid (PermIn a b d dk)) (fun vi vj _ => (intOf vi).toNat + (intOf vj).toNat)
  case atStart => exact ⟨i0, j0, d, rfl, rfl, H0, S0, R0, permIn_refl d a b⟩
  case round =>
    obtain ⟨i, j, dk, rfl, rfl, H1, S1, R1, P1⟩ := hrel
    clear S0 H0 R0 q1 q2
    obtain ⟨h1, h2, h3, h4, h5⟩ := H1.out
    obtain ⟨x, hx⟩ : ∃ x, m - i = x := ⟨_, rfl⟩
    have qx : IntKind.i64.wrap ((m : Int) - (i : Int)) = (x : Int) := by rw [IntWalk.i64_in _ (by omega)]; omega
    by_cases hij : i = j
    · have e1 : ((i : Int) == (j : Int)) = true := by rw [hij]; simp
      have e2 : ((i : Int) != (j : Int)) = false := by rw [hij]; simp
      have D1 := Lib.hid (swapr_any g n cp x m i a b v w0 hn (by omega) (by omega) (by omega) hb dk wr S1.out)
      have FIN : Hid (∀ d', Swd a b x m i dk d' → Rot a m b (at_ d) (at_ d') ∧ PermIn a b d d') := fun d' h => by
        refine ⟨R1.out d' ?_, permIn_trans d dk d' a b P1.out h.perm⟩
        rw [← hij]
        exact rot_same h4 (by rw [hx]; exact h.swr)
      clear S1 R1 P1 H1 h1 h2 h3 h4 h5 hx hij
      go_wp2_with fail
      refine D1.out.mono ?_
      rintro e w5 ⟨rfl, d5, hs5, hw5⟩
      have S5 := Lib.hid hs5
      have F5 := Lib.hid (FIN.out d5 hw5)
      clear D1 hs5 hw5 FIN
      go_wp2
      go_end0
      exact ⟨rfl, d5, S5.out, F5.out.1, F5.out.2⟩
    · have e1 : ((i : Int) == (j : Int)) = false := by rw [beq_eq_false_iff_ne]; omega
      have e2 : ((i : Int) != (j : Int)) = true := by rw [bne, e1]; rfl
      by_cases hgt : j < i
      · have qg : (j : Int) < (i : Int) := by omega
        obtain ⟨k, hk⟩ : ∃ k, i - j = k := ⟨_, rfl⟩
        have qk : IntKind.i64.wrap ((i : Int) - (j : Int)) = (k : Int) := by rw [IntWalk.i64_in _ (by omega)]; omega
        have D1 := Lib.hid (swapr_any g n cp x m j a b v w0 hn (by omega) (by omega) (by omega) hb dk wr S1.out)
        have FIN : Hid (∀ d5, Swd a b x m j dk d5 → (∀ d', Rot (m - k) m (m + j) (at_ d5) (at_ d') → Rot a m b (at_ d) (at_ d')) ∧ PermIn a b d d5) := fun d5 h => by
          refine ⟨fun d' hr => R1.out d' ?_, permIn_trans d dk d5 a b P1.out h.perm⟩
          have hs := h.swr
          rw [← hx] at hs
          rw [← hk] at hr
          exact rot_more h4 hgt hs hr
        have H2 : Hid (0 < k ∧ 0 < j ∧ a ≤ m - k ∧ k ≤ m ∧ m + j ≤ b) := ⟨by omega, by omega, by omega, by omega, by omega⟩
        have hm : Hid (k + j < i + j) := by show _ < _; omega
        clear S1 R1 P1 H1 h1 h2 h3 h4 h5 hx hij hk
        go_wp2_with fail
        refine D1.out.mono ?_
        rintro e w5 ⟨rfl, d5, hs5, hw5⟩
        have S5 := Lib.hid hs5
        have F5 := FIN.out d5 hw5
        have F6 := Lib.hid F5.1
        have F7 := Lib.hid F5.2
        clear D1 hs5 hw5 FIN F5
        go_wp2_with fail
        go_roundw
        case rel => exact ⟨k, j, d5, rfl, rfl, H2, S5, F6, F7⟩
        case measure => have := hm.out; simp [intOf]; omega
      · have qg : ¬ (j : Int) < (i : Int) := by omega
        obtain ⟨k, hk⟩ : ∃ k, j - i = k := ⟨_, rfl⟩
        obtain ⟨s, hs⟩ : ∃ s, m + j = s := ⟨_, rfl⟩
        obtain ⟨y, hy⟩ : ∃ y, m + j - i = y := ⟨_, rfl⟩
        have qs : IntKind.i64.wrap ((m : Int) + (j : Int)) = (s : Int) := by rw [IntWalk.i64_in _ (by omega)]; omega
        have qy : IntKind.i64.wrap ((s : Int) - (i : Int)) = (y : Int) := by rw [IntWalk.i64_in _ (by omega)]; omega
        have qk : IntKind.i64.wrap ((j : Int) - (i : Int)) = (k : Int) := by rw [IntWalk.i64_in _ (by omega)]; omega
        have D1 := Lib.hid (swapr_any g n cp x y i a b v w0 hn (by omega) (by omega) (by omega) hb dk wr S1.out)
        have FIN : Hid (∀ d5, Swd a b x y i dk d5 → (∀ d', Rot (m - i) m (m + k) (at_ d5) (at_ d') → Rot a m b (at_ d) (at_ d')) ∧ PermIn a b d d5) := fun d5 h => by
          refine ⟨fun d' hr => R1.out d' ?_, permIn_trans d dk d5 a b P1.out h.perm⟩
          have hsw := h.swr
          rw [← hx, ← hy] at hsw
          rw [← hk] at hr
          exact rot_less h4 (by omega) hsw hr
        have H2 : Hid (0 < i ∧ 0 < k ∧ a ≤ m - i ∧ i ≤ m ∧ m + k ≤ b) := ⟨by omega, by omega, by omega, by omega, by omega⟩
        have hm : Hid (i + k < i + j) := by show _ < _; omega
        clear S1 R1 P1 H1 h1 h2 h3 h4 h5 hx hij hk hs hy
        go_wp2_with fail
        refine D1.out.mono ?_
        rintro e w5 ⟨rfl, d5, hs5, hw5⟩
        have S5 := Lib.hid hs5
        have F5 := FIN.out d5 hw5
        have F6 := Lib.hid F5.1
        have F7 := Lib.hid F5.2
        clear D1 hs5 hw5 FIN F5
        go_wp2_with fail
        go_roundw
        case rel => exact ⟨i, k, d5, rfl, rfl, H2, S5, F6, F7⟩
        case measure => have := hm.out; simp [intOf]; omega
end Go.Proofs.Ytkljagffccommaa

/- Merging: one term alone on the left. -/
namespace Go.Proofs.Ytkljagffccommaa
open Go.RowKit Go.Sort

theorem bs_go {P : Nat → Bool} {i j h : Nat} (hij : i < j) (hh : h = (i + j) / 2) : bs P i j = if P h = true then bs P (h + 1) j else bs P i h := by
  subst hh
  rw [bs, dif_pos hij]
theorem bs_end {P : Nat → Bool} {i j : Nat} (hij : ¬ i < j) : bs P i j = i := by rw [bs, dif_neg hij]

/-- the first of a stretch moved up to k -/
structure Shl (a b k : Nat) (d d' : Array Nat) : Prop where
  lo : ∀ q, a ≤ q → q < k → at_ d' q = at_ d (q + 1)
  at_k : at_ d' k = at_ d a
  out : ∀ q, q < a ∨ k < q → at_ d' q = at_ d q
  perm : PermIn a b d d'
theorem Shl.zero (a b : Nat) (d : Array Nat) : Shl a b a d d := ⟨fun q h1 h2 => by omega, rfl, fun q _ => rfl, permIn_refl d a b⟩
theorem Shl.step {a b k n : Nat} {d d' : Array Nat} (h : Shl a b k d d') (hd : d'.size = n) (hak : a ≤ k) (hk : k + 1 < b) (hb : b ≤ n) : Shl a b (k + 1) d (swp d' k (k + 1)) := by
  have e := swp_at (i := k) (j := k + 1) hd (by omega) (by omega)
  refine ⟨fun q h1 h2 => ?_, ?_, fun q hq => ?_, permIn_trans d d' _ a b h.perm (swp_permIn d' a b k (k + 1) (by omega) (by omega) (by omega) (by omega) (by omega))⟩
  · rw [e, if_neg (by omega)]
    by_cases hq : q = k
    · subst hq; rw [if_pos rfl]; exact h.out _ (.inr (by omega))
    · rw [if_neg hq]; exact h.lo q h1 (by omega)
  · rw [e, if_pos rfl]; exact h.at_k
  · rw [e, if_neg (by omega), if_neg (by omega)]; exact h.out q (by omega)
set_option maxRecDepth 100000 in
set_option maxHeartbeats 8000000 in
theorem sym1_any (g p n cp a m b : Nat) (c : Nat → Nat → Int) (w0 : World) (HC : CmpC w0 g n p c) (ho : OrdC c) (hn : n ≤ 1000000) (ham : m = a + 1) (hmb : m < b) (hb : b ≤ n) (d : Array Nat) (w : World) (hS : SI w0 w g d n)
    (hR : Asc c m b (at_ d)) (hp : Lft a m b (at_ d)) :
    Calls Try.prog 111 #[.slice (some ⟨g, 0, none⟩) n cp, .int .i64 (a : Nat), .int .i64 (m : Nat), .int .i64 (b : Nat), .func (.func 90) #[] #[.pointer (some ⟨p, 0, none⟩)]] w
      fun e w' => e = .returned (.tuple #[]) ∧ ∃ d', SI w0 w' g d' n ∧ Asc c a b (at_ d') ∧ PermIn a b d d' := by
  have hcf : ∀ args w, (callFunc 90 args).run Try.prog w = .ok (.enter 90 args) w := fun args W => by kernel_rfl
  have S0 := Lib.hid hS; have HCC := Lib.hid HC
  have q0 : IntKind.i64.wrap ((m : Int) - (a : Int)) = 1 := by rw [IntWalk.i64_in _ (by omega)]; omega
  have HA := Lib.hid ham
  have HRp := Lib.hid (And.intro hR hp)
  clear hS HC ham hR hp
  go_enter Try.func111, Try.ntmps111
  go_wp2_with fail
  go_loopw [10, 11] (fun vi vj wr => ∃ i j : Nat, m ≤ i ∧ j ≤ b ∧ i ≤ j ∧ vi = .int .i64 (i : Nat) ∧ vj = .int .i64 (j : Nat) ∧ Hid (SI w0 wr g d n) ∧ Hid (bs (fun k => ltC c (at_ d k) (at_ d a)) i j = bs (fun k => ltC c (at_ d k) (at_ d a)) m b)) (fun vi vj _ => (intOf vj).toNat - (intOf vi).toNat)
  case atStart => exact ⟨m, b, Nat.le_refl _, Nat.le_refl _, by omega, rfl, rfl, S0, rfl⟩
  case round =>
    obtain ⟨i, j, hmi, hjb, hij0, rfl, rfl, S1, HB⟩ := hrel
    clear S0 q0
    by_cases hij : i < j
    · have qi : (i : Int) < (j : Int) := by omega
      obtain ⟨s, hs⟩ : ∃ s, i + j = s := ⟨_, rfl⟩
      have qs : IntKind.i64.wrap ((i : Int) + (j : Int)) = (s : Int) := by rw [IntWalk.i64_in _ (by omega)]; omega
      obtain ⟨h, hh⟩ : ∃ h, s / 2 = h := ⟨_, rfl⟩
      have qh : (s : Int) / 2 = (h : Int) := by omega
      have hhi : i ≤ h := by omega
      have hhj : h < j := by omega
      have hhn : h < n := by omega
      have han : a < n := by have := HA.out; omega
      have qhn : (h : Int) < (n : Int) := by omega
      have qan : (a : Int) < (n : Int) := by omega
      have q1 : IntKind.i64.wrap ((h : Int) + 1) = ((h + 1 : Nat) : Int) := by rw [IntWalk.i64_in _ (by omega)]; omega
      have HS := bs_go (P := fun k => ltC c (at_ d k) (at_ d a)) hij (h := h) (by omega)
      have HB2 := HB.out
      rw [HS] at HB2
      have c1 := S1.out.cell h hhn
      have c2 := S1.out.cell a han
      have D1 := Lib.hid (HCC.out wr.drew S1.out.kp.drew d[h]! d[a]! (S1.out.lt h hhn) (S1.out.lt a han))
      have S2 := Lib.hid S1.out.drew
      have eP : ltC c (at_ d h) (at_ d a) = decide (c d[h]! d[a]! < 0) := rfl
      rw [eP] at HB2
      generalize d[h]! = xh at *
      generalize d[a]! = xa at *
      obtain ⟨r, hr⟩ : ∃ r, c xh xa = r := ⟨_, rfl⟩
      rw [hr] at D1 HB2
      clear hr eP HS HB S1 hs hh hhn han
      by_cases hx : r < 0
      · rw [if_pos (decide_eq_true hx)] at HB2
        have B2 := Lib.hid HB2
        clear HB2
        go_wp2_with fail
        go_still_tail 9, (by kernel_rfl)
        change wpList _ _ _ _ _ wr.drew
        clear c1 c2
        generalize wr.drew = wd at *
        go_wp2_with fail
        refine D1.out.mono ?_
        rintro e w5 ⟨rfl, hb5⟩
        have S5 := Lib.hid (S2.out.below hb5)
        clear D1 hb5 S2
        go_wp2_with fail
        go_roundw
        case rel => exact ⟨h + 1, j, by omega, hjb, by omega, by simp, rfl, S5, B2⟩
        case measure => simp [intOf]; omega
      · rw [if_neg (by simp [hx])] at HB2
        have B2 := Lib.hid HB2
        have qx : decide (r < 0) = false := decide_eq_false hx
        clear HB2
        go_wp2_with fail
        go_still_tail 9, (by kernel_rfl)
        change wpList _ _ _ _ _ wr.drew
        clear c1 c2
        generalize wr.drew = wd at *
        go_wp2_with fail
        refine D1.out.mono ?_
        rintro e w5 ⟨rfl, hb5⟩
        have S5 := Lib.hid (S2.out.below hb5)
        clear D1 hb5 S2
        go_wp2_with fail
        go_roundw
        case rel => exact ⟨i, h, hmi, by omega, by omega, rfl, rfl, S5, B2⟩
        case measure => simp [intOf]; omega
    · have qi : ¬ (i : Int) < (j : Int) := by omega
      have HI : Hid (i = bs (fun k => ltC c (at_ d k) (at_ d a)) (a + 1) b) := by
        show _ = _
        rw [← HA.out, ← HB.out, bs_end hij]
      have HM : Hid (m ≤ i ∧ i ≤ b) := ⟨hmi, by omega⟩
      obtain ⟨ip, hip⟩ : ∃ q, q + 1 = i := ⟨i - 1, by have := HA.out; omega⟩
      have HIP := Lib.hid hip
      have qip : IntKind.i64.wrap ((i : Int) - 1) = (ip : Int) := by rw [IntWalk.i64_in _ (by omega)]; omega
      have hia : a ≤ ip := by have := HA.out; omega
      clear hij0 HB hip
      go_wp2_with fail
      go_loopw [13] (fun vk wr => ∃ (k : Nat) (dk : Array Nat), a ≤ k ∧ k ≤ ip ∧ vk = .int .i64 (k : Nat) ∧ Hid (SI w0 wr g dk n) ∧ Hid (Shl a b k d dk)) (fun vk _ => ip - (intOf vk).toNat)
      case atStart => exact ⟨a, d, Nat.le_refl _, hia, rfl, S1, Shl.zero a b d⟩
      case round =>
        obtain ⟨k, dk, hak, hki, rfl, S3, W3⟩ := hrel
        clear S1
        by_cases hlt : k < ip
        · have qk : (k : Int) < (ip : Int) := by omega
          obtain ⟨q, hq⟩ : ∃ q, k + 1 = q := ⟨_, rfl⟩
          have hkn : k < n := by have := HM.out; have := HIP.out; omega
          have qq : IntKind.i64.wrap ((k : Int) + 1) = (q : Int) := by rw [IntWalk.i64_in _ (by omega)]; omega
          have hqn : q < n := by have := HM.out; have := HIP.out; omega
          have qkn : (k : Int) < (n : Int) := by omega
          have qqn : (q : Int) < (n : Int) := by omega
          have hkq : ¬ k = q := by omega
          have hqk : ¬ q = k := by omega
          have c1 := S3.out.cell k hkn
          have c2 := S3.out.cell q hqn
          have f1 := S3.out.frozen k
          have f2 := S3.out.frozen q
          have S6 := Lib.hid (S3.out.swap k q hkn hqn)
          have W6 : Hid (Shl a b q d (swp dk k q)) := by
            subst hq
            exact W3.out.step S3.out.sz hak (by have := HM.out; have := HIP.out; omega) hb
          have Q6 : Hid (a ≤ q ∧ q ≤ ip ∧ k < q) := ⟨by omega, by omega, by omega⟩
          generalize dk[k]! = xp at *
          generalize dk[q]! = xq at *
          clear S3 W3 hkn hqn hq
          go_wp2_with fail
          go_region
          go_wp2_with fail
          go_roundw
          case rel => exact ⟨q, swp dk k q, Q6.out.1, Q6.out.2.1, rfl, Lib.hid S6.out.drew, W6⟩
          case measure => have := Q6.out; simp [intOf]; omega
        · have qk : ¬ (k : Int) < (ip : Int) := by omega
          have hke : k = ip := by omega
          have FIN : Hid (Asc c a b (at_ dk) ∧ PermIn a b d dk) := by
            have h := W3.out
            rw [hke] at h
            have hi := HIP.out
            refine ⟨ins_left ho (i := i) (by have := HA.out; omega) (by rw [← HA.out]; exact HRp.out.1) (by rw [← HA.out]; exact HRp.out.2) HI.out (fun q h1 h2 => h.lo q h1 (by omega)) (by rw [show i - 1 = ip by omega]; exact h.at_k) (fun q hq => h.out q (.inr (by omega))), h.perm⟩
          clear hke W3
          go_wp2
          exact bodyPost_ret (results_none rfl _ _ _) rfl ⟨rfl, dk, S3.out, FIN.out.1, FIN.out.2⟩
end Go.Proofs.Ytkljagffccommaa

/- Merging: one term alone on the right. -/
namespace Go.Proofs.Ytkljagffccommaa
open Go.RowKit Go.Sort

/-- the last of a stretch moved down to k -/
structure Shr (a b m k : Nat) (d d' : Array Nat) : Prop where
  hi : ∀ q, k < q → q ≤ m → at_ d' q = at_ d (q - 1)
  at_k : at_ d' k = at_ d m
  out : ∀ q, q < k ∨ m < q → at_ d' q = at_ d q
  perm : PermIn a b d d'
theorem Shr.zero (a b m : Nat) (d : Array Nat) : Shr a b m m d d := ⟨fun q h1 h2 => by omega, rfl, fun q _ => rfl, permIn_refl d a b⟩
theorem Shr.step {a b m k n : Nat} {d d' : Array Nat} (h : Shr a b m (k + 1) d d') (hd : d'.size = n) (hak : a ≤ k) (hk : k + 1 ≤ m) (hm : m < b) (hb : b ≤ n) : Shr a b m k d (swp d' (k + 1) k) := by
  have e := swp_at (i := k + 1) (j := k) hd (by omega) (by omega)
  refine ⟨fun q h1 h2 => ?_, ?_, fun q hq => ?_, permIn_trans d d' _ a b h.perm (swp_permIn d' a b (k + 1) k (by omega) (by omega) (by omega) (by omega) (by omega))⟩
  · rw [e, if_neg (by omega)]
    by_cases hq : q = k + 1
    · subst hq; rw [if_pos rfl]; exact h.out _ (.inl (by omega))
    · rw [if_neg hq]; exact h.hi q (by omega) h2
  · rw [e, if_pos rfl]; exact h.at_k
  · rw [e, if_neg (by omega), if_neg (by omega)]; exact h.out q (by omega)
set_option maxRecDepth 100000 in
set_option maxHeartbeats 8000000 in
theorem sym2_any (g p n cp a m b : Nat) (c : Nat → Nat → Int) (w0 : World) (HC : CmpC w0 g n p c) (ho : OrdC c) (hn : n ≤ 1000000) (ham : a < m) (hma : m ≠ a + 1) (hmb : b = m + 1) (hb : b ≤ n) (d : Array Nat) (w : World) (hS : SI w0 w g d n)
    (hR : Asc c a m (at_ d)) (hp : Lft a m b (at_ d)) :
    Calls Try.prog 111 #[.slice (some ⟨g, 0, none⟩) n cp, .int .i64 (a : Nat), .int .i64 (m : Nat), .int .i64 (b : Nat), .func (.func 90) #[] #[.pointer (some ⟨p, 0, none⟩)]] w
      fun e w' => e = .returned (.tuple #[]) ∧ ∃ d', SI w0 w' g d' n ∧ Asc c a b (at_ d') ∧ PermIn a b d d' := by
  have hcf : ∀ args w, (callFunc 90 args).run Try.prog w = .ok (.enter 90 args) w := fun args W => by kernel_rfl
  have S0 := Lib.hid hS; have HCC := Lib.hid HC
  obtain ⟨ma, hma2⟩ : ∃ x, m - a = x := ⟨_, rfl⟩
  have q0 : IntKind.i64.wrap ((m : Int) - (a : Int)) = (ma : Int) := by rw [IntWalk.i64_in _ (by omega)]; omega
  have q00 : ((ma : Int) == 1) = false := by rw [beq_eq_false_iff_ne]; omega
  have q01 : IntKind.i64.wrap ((b : Int) - (m : Int)) = 1 := by rw [IntWalk.i64_in _ (by omega)]; omega
  have hmn : m ≤ 1000000 := by omega
  have HA := Lib.hid hmb
  have HAM := Lib.hid ham
  have HRp := Lib.hid (And.intro hR hp)
  clear hS HC ham hmb hR hp hma hma2
  go_enter Try.func111, Try.ntmps111
  go_wp2_with fail
  go_loopw [14, 15] (fun vi vj wr => ∃ i j : Nat, a ≤ i ∧ j ≤ m ∧ i ≤ j ∧ vi = .int .i64 (i : Nat) ∧ vj = .int .i64 (j : Nat) ∧ Hid (SI w0 wr g d n) ∧ Hid (bs (fun k => !(ltC c (at_ d m) (at_ d k))) i j = bs (fun k => !(ltC c (at_ d m) (at_ d k))) a m)) (fun vi vj _ => (intOf vj).toNat - (intOf vi).toNat)
  case atStart => exact ⟨a, m, Nat.le_refl _, Nat.le_refl _, by have := HAM.out; omega, rfl, rfl, S0, rfl⟩
  case round =>
    obtain ⟨i, j, hmi, hjb, hij0, rfl, rfl, S1, HB⟩ := hrel
    clear S0 q0 q00 q01
    by_cases hij : i < j
    · have qi : (i : Int) < (j : Int) := by omega
      obtain ⟨s, hs⟩ : ∃ s, i + j = s := ⟨_, rfl⟩
      have qs : IntKind.i64.wrap ((i : Int) + (j : Int)) = (s : Int) := by rw [IntWalk.i64_in _ (by omega)]; omega
      obtain ⟨h, hh⟩ : ∃ h, s / 2 = h := ⟨_, rfl⟩
      have qh : (s : Int) / 2 = (h : Int) := by omega
      have hhi : i ≤ h := by omega
      have hhj : h < j := by omega
      have hhn : h < n := by have := HA.out; omega
      have han : m < n := by have := HA.out; omega
      have qhn : (h : Int) < (n : Int) := by omega
      have qan : (m : Int) < (n : Int) := by omega
      have q1 : IntKind.i64.wrap ((h : Int) + 1) = ((h + 1 : Nat) : Int) := by rw [IntWalk.i64_in _ (by omega)]; omega
      have HS := bs_go (P := fun k => !(ltC c (at_ d m) (at_ d k))) hij (h := h) (by omega)
      have HB2 := HB.out
      rw [HS] at HB2
      have c1 := S1.out.cell h hhn
      have c2 := S1.out.cell m han
      have D1 := Lib.hid (HCC.out wr.drew S1.out.kp.drew d[m]! d[h]! (S1.out.lt m han) (S1.out.lt h hhn))
      have S2 := Lib.hid S1.out.drew
      have eP : ltC c (at_ d m) (at_ d h) = decide (c d[m]! d[h]! < 0) := rfl
      rw [eP] at HB2
      generalize d[h]! = xh at *
      generalize d[m]! = xa at *
      obtain ⟨r, hr⟩ : ∃ r, c xa xh = r := ⟨_, rfl⟩
      rw [hr] at D1 HB2
      clear hr eP HS HB S1 hs hh hhn han
      by_cases hx : r < 0
      · rw [if_neg (by simp [hx])] at HB2
        have B2 := Lib.hid HB2
        clear HB2
        go_wp2_with fail
        go_still_tail 9, (by kernel_rfl)
        change wpList _ _ _ _ _ wr.drew
        clear c1 c2
        generalize wr.drew = wd at *
        go_wp2_with fail
        refine D1.out.mono ?_
        rintro e w5 ⟨rfl, hb5⟩
        have S5 := Lib.hid (S2.out.below hb5)
        clear D1 hb5 S2
        go_wp2_with fail
        go_roundw
        case rel => exact ⟨i, h, hmi, by omega, by omega, rfl, rfl, S5, B2⟩
        case measure => simp [intOf]; omega
      · rw [if_pos (by simp [hx])] at HB2
        have B2 := Lib.hid HB2
        have qx : decide (r < 0) = false := decide_eq_false hx
        clear HB2
        go_wp2_with fail
        go_still_tail 9, (by kernel_rfl)
        change wpList _ _ _ _ _ wr.drew
        clear c1 c2
        generalize wr.drew = wd at *
        go_wp2_with fail
        refine D1.out.mono ?_
        rintro e w5 ⟨rfl, hb5⟩
        have S5 := Lib.hid (S2.out.below hb5)
        clear D1 hb5 S2
        go_wp2_with fail
        go_roundw
        case rel => exact ⟨h + 1, j, by omega, hjb, by omega, by simp, rfl, S5, B2⟩
        case measure => simp [intOf]; omega
    · have qi : ¬ (i : Int) < (j : Int) := by omega
      have HI : Hid (i = bs (fun k => !(ltC c (at_ d m) (at_ d k))) a m) := by
        show _ = _
        rw [← HB.out, bs_end hij]
      have HM : Hid (a ≤ i ∧ i ≤ m) := ⟨hmi, by omega⟩
      clear hij0 HB
      go_wp2_with fail
      go_loopw [17] (fun vk wr => ∃ (k : Nat) (dk : Array Nat), i ≤ k ∧ k ≤ m ∧ vk = .int .i64 (k : Nat) ∧ Hid (SI w0 wr g dk n) ∧ Hid (Shr a b m k d dk)) (fun vk _ => (intOf vk).toNat)
      case atStart => exact ⟨m, d, HM.out.2, Nat.le_refl _, rfl, S1, Shr.zero a b m d⟩
      case round =>
        obtain ⟨k, dk, hik, hkm, rfl, S3, W3⟩ := hrel
        clear S1
        by_cases hlt : i < k
        · have qk : (i : Int) < (k : Int) := by omega
          obtain ⟨q, hq⟩ : ∃ q, q + 1 = k := ⟨k - 1, by omega⟩
          have hkn : k < n := by have := HA.out; omega
          have qq : IntKind.i64.wrap ((k : Int) - 1) = (q : Int) := by rw [IntWalk.i64_in _ (by omega)]; omega
          have hqn : q < n := by omega
          have qkn : (k : Int) < (n : Int) := by omega
          have qqn : (q : Int) < (n : Int) := by omega
          have hkq : ¬ k = q := by omega
          have hqk : ¬ q = k := by omega
          have c1 := S3.out.cell k hkn
          have c2 := S3.out.cell q hqn
          have f1 := S3.out.frozen k
          have f2 := S3.out.frozen q
          have S6 := Lib.hid (S3.out.swap k q hkn hqn)
          have W6 : Hid (Shr a b m q d (swp dk k q)) := by
            subst hq
            exact W3.out.step S3.out.sz (by have := HM.out; omega) (by omega) (by have := HA.out; omega) hb
          have Q6 : Hid (i ≤ q ∧ q ≤ m ∧ q < k) := ⟨by omega, by omega, by omega⟩
          generalize dk[k]! = xp at *
          generalize dk[q]! = xq at *
          clear S3 W3 hkn hqn hq
          go_wp2_with fail
          go_region
          go_wp2_with fail
          go_roundw
          case rel => exact ⟨q, swp dk k q, Q6.out.1, Q6.out.2.1, rfl, Lib.hid S6.out.drew, W6⟩
          case measure => have := Q6.out; simp [intOf]; omega
        · have qk : ¬ (i : Int) < (k : Int) := by omega
          have hke : k = i := by omega
          have FIN : Hid (Asc c a b (at_ dk) ∧ PermIn a b d dk) := by
            have h := W3.out
            rw [hke] at h
            refine ⟨?_, h.perm⟩
            rw [HA.out]
            exact ins_right ho (i := i) (by have := HAM.out; omega) HRp.out.1 (by rw [← HA.out]; exact HRp.out.2) HI.out (fun q h1 h2 => h.hi q h1 h2) h.at_k (fun q hq => h.out q (.inl hq))
          clear hke W3
          go_wp2
          exact bodyPost_ret (results_none rfl _ _ _) rfl ⟨rfl, dk, S3.out, FIN.out.1, FIN.out.2⟩
end Go.Proofs.Ytkljagffccommaa

/- Merging: two stretches parted, turned and merged: what holds behind each step. -/
namespace Go.Proofs.Ytkljagffccommaa
open Go.RowKit Go.Sort

/-- what holds behind the turning -/
structure Mg (c : Nat → Nat → Int) (a b s mid e : Nat) (d g : Array Nat) : Prop where
  las : Asc c a s (at_ g)
  lbs : Asc c s mid (at_ g)
  lft : Lft a s mid (at_ g)
  ras : Asc c mid e (at_ g)
  rbs : Asc c e b (at_ g)
  rft : Lft mid e b (at_ g)
  cross : ∀ i j, a ≤ i → i < mid → mid ≤ j → j < b → ltP c (at_ g i) (at_ g j) = true
  perm : PermIn a b d g
/-- what holds behind the left merge -/
structure Mh (c : Nat → Nat → Int) (a b mid e : Nat) (d g : Array Nat) : Prop where
  las : Asc c a mid (at_ g)
  ras : Asc c mid e (at_ g)
  rbs : Asc c e b (at_ g)
  rft : Lft mid e b (at_ g)
  cross : ∀ i j, a ≤ i → i < mid → mid ≤ j → j < b → ltP c (at_ g i) (at_ g j) = true
  perm : PermIn a b d g
theorem perm_at {a b : Nat} {d d' : Array Nat} (h : PermIn a b d d') (k : Nat) (hk : k < a ∨ b ≤ k) : at_ d' k = at_ d k := h.2.1 k hk
theorem rot_none {s m e : Nat} {f : Nat → Nat} (h : s = m ∨ e = m) (h1 : s ≤ m) (h2 : m ≤ e) : Rot s m e f f := by
  refine ⟨fun k _ => rfl, fun k k1 k2 => ?_, fun k k1 k2 => ?_⟩
  · congr 1; omega
  · congr 1; omega
theorem mg_of {c : Nat → Nat → Int} (ho : OrdC c) {a m b mid s n : Nat} {d g : Array Nat} (hd : d.size = n) (ham : a < m) (hmb : m < b) (hb : b ≤ n) (hmid : mid = (a + b) / 2) (hL : Asc c a m (at_ d)) (hR : Asc c m b (at_ d)) (hp : Lft a m b (at_ d))
    (hs : s = bs (symP c (at_ d) (mid + m - 1)) (symS m b mid a) (symR m mid)) (hr : Rot s m (mid + m - s) (at_ d) (at_ g)) (hpm : PermIn a b d g) :
    Mg c a b s mid (mid + m - s) d g := by
  obtain ⟨h1, h2, h3, h4, h5, h6, h7⟩ := sym_search c (at_ d) ham hmb hmid hs
  obtain ⟨k1, k2, k3, k4, k5, k6, k7⟩ := merge_step ho hL hR hp h1 h2 h3 h4 h5 h6 h7 hr
  exact ⟨k1, k2, k3, k4, k5, k6, k7, hpm⟩
theorem mh_of {c : Nat → Nat → Int} {a b s mid e n : Nat} {d g g' : Array Nat} (hd : d.size = n) (hb : b ≤ n) (ham : a ≤ mid) (hmb : mid ≤ b) (hme : mid ≤ e) (h : Mg c a b s mid e d g) (hA : Asc c a mid (at_ g')) (hp : PermIn a mid g g') : Mh c a b mid e d g' := by
  have hg : g.size = n := h.perm.1.trans hd
  have e1 : ∀ k, mid ≤ k → at_ g' k = at_ g k := fun k hk => perm_at hp k (.inr hk)
  refine ⟨hA, fun i j hi hij hj => by rw [e1 i hi, e1 j (by omega)]; exact h.ras i j hi hij hj, ?_, fun i j hi hij hj hjb => ?_, fun i j hi him hj hjb => ?_, permIn_trans d g g' a b h.perm (permIn_mono g g' a mid a b (Nat.le_refl _) hmb (by omega) hp)⟩
  · intro i j hi hij hj
    rw [e1 i (by omega), e1 j (by omega)]; exact h.rbs i j hi hij hj
  · rw [e1 i hi]
    rcases Nat.lt_or_ge j mid with q | q
    · omega
    · rw [e1 j q]; exact h.rft i j hi hij hj hjb
  · rw [e1 j hj]
    exact permIn_all g g' a mid (fun x => ltP c x (at_ g j) = true) (by omega) hp (fun k k1 k2 => h.cross k j k1 k2 hj hjb) i hi him
theorem mh_end {c : Nat → Nat → Int} {a b mid e n : Nat} {d g g' : Array Nat} (hd : d.size = n) (hb : b ≤ n) (ham : a ≤ mid) (hmb : mid ≤ b) (h : Mh c a b mid e d g) (hA : Asc c mid b (at_ g')) (hp : PermIn mid b g g') : Asc c a b (at_ g') ∧ PermIn a b d g' := by
  have hg : g.size = n := h.perm.1.trans hd
  have e1 : ∀ k, k < mid → at_ g' k = at_ g k := fun k hk => perm_at hp k (.inl hk)
  refine ⟨asc_join (m := mid) (fun i j hi hij hj => by rw [e1 i (by omega), e1 j hj]; exact h.las i j hi hij hj) hA (fun i j hi him hj hjb => ?_), permIn_trans d g g' a b h.perm (permIn_mono g g' mid b a b ham (Nat.le_refl _) (by omega) hp)⟩
  rw [e1 i him]
  exact permIn_all g g' mid b (fun y => ltP c (at_ g i) y = true) (by omega) hp (fun k k1 k2 => h.cross i k hi him k1 k2) j hj hjb
end Go.Proofs.Ytkljagffccommaa

/- Merging: what stands behind the search. -/
namespace Go.Proofs.Ytkljagffccommaa
open Go.RowKit Go.Sort

/-- what merging answers -/
def Sym (g n p cp : Nat) (c : Nat → Nat → Int) (w0 : World) (a m b : Nat) : Prop := ∀ (d : Array Nat) (w : World), SI w0 w g d n → Asc c a m (at_ d) → Asc c m b (at_ d) → Lft a m b (at_ d) →
  Calls Try.prog 111 #[.slice (some ⟨g, 0, none⟩) n cp, .int .i64 (a : Nat), .int .i64 (m : Nat), .int .i64 (b : Nat), .func (.func 90) #[] #[.pointer (some ⟨p, 0, none⟩)]] w
    fun e w' => e = .returned (.tuple #[]) ∧ ∃ d', SI w0 w' g d' n ∧ Asc c a b (at_ d') ∧ PermIn a b d d'

def dropSeq : Nat → Code → Code
  | 0, c => c
  | k + 1, .seq _ b => dropSeq k b
  | _, c => c
noncomputable def tail39 : Code := dropSeq 9 (Try.f111.body.getD .skip)
/-- what is known behind the search -/
structure Hm (n a m b mid s e : Nat) : Prop where
  ham : a + 1 < m
  hmb : m + 1 < b
  hb : b ≤ n
  hn : n ≤ 1000000
  h1 : a ≤ s
  h2 : s ≤ m
  h3 : m ≤ e
  h4 : e ≤ b
  h5 : s + (e - m) = mid
  h6 : a ≤ mid
  h7 : mid ≤ b
  h8 : s ≤ mid
  h9 : mid ≤ e
  h10 : mid < b
  h11 : a < mid

set_option maxRecDepth 1000000 in
set_option maxHeartbeats 16000000 in
theorem sym_tail (g p n cp a m b mid s e : Nat) (c : Nat → Nat → Int) (w0 : World) (hh : Hm n a m b mid s e) (d : Array Nat) (hd : d.size = n)
    (IH : ∀ a' m' b', a' < m' → m' < b' → b' ≤ n → b' - a' < b - a → Sym g n p cp c w0 a' m' b')
    (HMG : ∀ g' : Array Nat, Rot s m e (at_ d) (at_ g') → PermIn a b d g' → Mg c a b s mid e d g')
    (R : Ending → World → Prop) (hQ : ∀ (w' : World) (d' : Array Nat), SI w0 w' g d' n → Asc c a b (at_ d') → PermIn a b d d' → R (.returned (.tuple #[])) w')
    (u5 u6 u7 u8 u9 u10 u11 u12 u13 u14 u15 u16 u17 u19 u21 u22 u23 u25 u26 u27 u28 u29 u30 u31 u32 u33 u34 u35 u36 u37 u38 u39 u40 u41 u42 u43 u44 u45 u46 u47 u48 u49 u50 u51 u52 u53 u54 u55 u56 u57 u58 u59 u60 u61 u62 u63 u64 u65 u66 u67 u68 u69 u70 u71 u72 u73 u74 u75 u76 u77 u78 u79 u80 u81 u82 u83 u84 u85 u86 u87 u88 u89 u90 u91 u92 u93 u94 u95 u96 u97 u98 u99 u100 u101 u102 u103 u104 u105 u106 u107 u108 u109 u110 u111 u112 u113 u114 u115 u116 u117 u118 u119 u120 u121 u122 u123 u124 u125 u126 u127 u128 u129 u130 u131 u132 u133 u134 u135 u136 u137 u138 u139 u140 u141 u142 u143 u144 u145 u146 u147 u148 u149 u150 u151 u152 u153 u154 u155 u156 u157 u158 u159 u160 u161 u162 u163 u164 u165 u166 u167 u168 u169 u170 u171 u172 u173 u174 u175 u176 u177 u178 u179 u180 u181 u182 u183 u184 u185 u186 u187 u188 u189 u190 u191 u192 u193 u194 u195 u196 u197 u198 u199 u200 u201 u202 u203 u204 u205 u206 u207 u208 u209 u210 u211 u212 u213 u214 u215 u216 u217 u218 u219 : Value) (wr : World) (hS2 : SI w0 wr g d n) :
    Code.wp Try.prog tail39 (bodyPost Try.prog Try.f111 R) ⟨((.slice (some ⟨g, 0, none⟩) n cp) :: (.int .i64 (a : Nat)) :: (.int .i64 (m : Nat)) :: (.int .i64 (b : Nat)) :: (.func (.func 90) #[] #[.pointer (some ⟨p, 0, none⟩)]) :: u5 :: u6 :: u7 :: u8 :: u9 :: u10 :: u11 :: u12 :: u13 :: u14 :: u15 :: u16 :: u17 :: (.int .i64 (mid : Nat)) :: u19 :: (.int .i64 (s : Nat)) :: u21 :: u22 :: u23 :: (.int .i64 (e : Nat)) :: u25 :: u26 :: u27 :: u28 :: u29 :: u30 :: u31 :: u32 :: u33 :: u34 :: u35 :: u36 :: u37 :: u38 :: u39 :: u40 :: u41 :: u42 :: u43 :: u44 :: u45 :: u46 :: u47 :: u48 :: u49 :: u50 :: u51 :: u52 :: u53 :: u54 :: u55 :: u56 :: u57 :: u58 :: u59 :: u60 :: u61 :: u62 :: u63 :: u64 :: u65 :: u66 :: u67 :: u68 :: u69 :: u70 :: u71 :: u72 :: u73 :: u74 :: u75 :: u76 :: u77 :: u78 :: u79 :: u80 :: u81 :: u82 :: u83 :: u84 :: u85 :: u86 :: u87 :: u88 :: u89 :: u90 :: u91 :: u92 :: u93 :: u94 :: u95 :: u96 :: u97 :: u98 :: u99 :: u100 :: u101 :: u102 :: u103 :: u104 :: u105 :: u106 :: u107 :: u108 :: u109 :: u110 :: u111 :: u112 :: u113 :: u114 :: u115 :: u116 :: u117 :: u118 :: u119 :: u120 :: u121 :: u122 :: u123 :: u124 :: u125 :: u126 :: u127 :: u128 :: u129 :: u130 :: u131 :: u132 :: u133 :: u134 :: u135 :: u136 :: u137 :: u138 :: u139 :: u140 :: u141 :: u142 :: u143 :: u144 :: u145 :: u146 :: u147 :: u148 :: u149 :: u150 :: u151 :: u152 :: u153 :: u154 :: u155 :: u156 :: u157 :: u158 :: u159 :: u160 :: u161 :: u162 :: u163 :: u164 :: u165 :: u166 :: u167 :: u168 :: u169 :: u170 :: u171 :: u172 :: u173 :: u174 :: u175 :: u176 :: u177 :: u178 :: u179 :: u180 :: u181 :: u182 :: u183 :: u184 :: u185 :: u186 :: u187 :: u188 :: u189 :: u190 :: u191 :: u192 :: u193 :: u194 :: u195 :: u196 :: u197 :: u198 :: u199 :: u200 :: u201 :: u202 :: u203 :: u204 :: u205 :: u206 :: u207 :: u208 :: u209 :: u210 :: u211 :: u212 :: u213 :: u214 :: u215 :: u216 :: u217 :: u218 :: u219 :: []).toArray, []⟩ wr := by
  have HH := Lib.hid hh; have HIH := Lib.hid IH; have MG := Lib.hid HMG; have S2 := Lib.hid hS2; have SZ := Lib.hid hd; have HQ := Lib.hid hQ
  clear hh IH HMG hS2 hd hQ
  have HM : Hid (a + 1 < m ∧ m + 1 < b ∧ b ≤ n ∧ n ≤ 1000000) := ⟨HH.out.ham, HH.out.hmb, HH.out.hb, HH.out.hn⟩
  have HE : Hid (a ≤ s ∧ s ≤ m ∧ m ≤ e ∧ e ≤ b ∧ s + (e - m) = mid ∧ a ≤ mid ∧ mid ≤ b ∧ s ≤ mid ∧ mid ≤ e ∧ mid < b ∧ a < mid) := ⟨HH.out.h1, HH.out.h2, HH.out.h3, HH.out.h4, HH.out.h5, HH.out.h6, HH.out.h7, HH.out.h8, HH.out.h9, HH.out.h10, HH.out.h11⟩
  conv => arg 2; whnf
  go_upto_region 39 with fail
  go_cut [185] (fun v wx => v = .bool (decide (s < m) && decide (m < e)) ∧ Hid (SI w0 wx g d n))
  case first =>
    by_cases hx : s < m
    · have qx : (s : Int) < (m : Int) := by omega
      have ex : Hid (decide (s < m) = true) := decide_eq_true hx
      by_cases hy : m < e
      · have qy : (m : Int) < (e : Int) := by omega
        have ey : Hid (decide (m < e) = true) := decide_eq_true hy
        go_wp2
        go_meet
        exact ⟨by rw [ex.out, ey.out]; rfl, S2⟩
      · have qy : ¬ (m : Int) < (e : Int) := by omega
        have ey : Hid (decide (m < e) = false) := decide_eq_false hy
        go_wp2
        go_meet
        exact ⟨by rw [ex.out, ey.out]; rfl, S2⟩
    · have qx : ¬ (s : Int) < (m : Int) := by omega
      have ex : Hid (decide (s < m) = false) := decide_eq_false hx
      go_wp2
      go_meet
      exact ⟨by rw [ex.out]; rfl, S2⟩
  case rest =>
  obtain ⟨rfl, S3⟩ := hcut
  clear S2
  obtain ⟨cb, hcb⟩ : ∃ cb, (decide (s < m) && decide (m < e)) = cb := ⟨_, rfl⟩
  have CB := Lib.hid hcb
  rw [hcb]
  clear hcb
  go_upto_if 185 with fail
  go_cut [] (fun wx => ∃ d1 : Array Nat, Hid (SI w0 wx g d1 n) ∧ Hid (Mg c a b s mid e d d1))
  case first =>
    cases cb with
    | true =>
      have hc : s < m ∧ m < e := by have := CB.out; simpa using this
      have D1 := Lib.hid (rotate_any g n cp s m e (.func (.func 90) #[] #[.pointer (some ⟨p, 0, none⟩)]) w0 (by have := HM.out; omega) hc.1 hc.2 (by have := HM.out; have := HE.out; omega) d _ S3.out)
      clear hc
      go_wp2_with fail
      refine D1.out.mono ?_
      rintro e1 w5 ⟨rfl, d5, hs5, hr5, hp5⟩
      have S5 := Lib.hid hs5
      have M5 := Lib.hid (MG.out d5 hr5 (permIn_mono d d5 s e a b HE.out.1 HE.out.2.2.2.1 (by have := SZ.out; have := HM.out; omega) hp5))
      clear D1 hs5 hr5 hp5
      go_wp2
      go_meet
      exact ⟨d5, S5, M5⟩
    | false =>
      have hc : ¬ (s < m ∧ m < e) := by have := CB.out; simpa using this
      have M5 := Lib.hid (MG.out d (rot_none (by have := HE.out; omega) HE.out.2.1 HE.out.2.2.1) (permIn_refl d a b))
      clear hc
      go_wp2
      go_meet
      exact ⟨d, S3, M5⟩
  case rest =>
    obtain ⟨d1, S3, M3⟩ := hcut
    clear MG CB
    go_upto_region 41 with fail
    go_cut [199] (fun v wx => v = .bool (decide (a < s) && decide (s < mid)) ∧ Hid (SI w0 wx g d1 n))
    case first =>
      by_cases hx : a < s
      · have qx : (a : Int) < (s : Int) := by omega
        have ex : Hid (decide (a < s) = true) := decide_eq_true hx
        by_cases hy : s < mid
        · have qy : (s : Int) < (mid : Int) := by omega
          have ey : Hid (decide (s < mid) = true) := decide_eq_true hy
          go_wp2
          go_meet
          exact ⟨by rw [ex.out, ey.out]; rfl, S3⟩
        · have qy : ¬ (s : Int) < (mid : Int) := by omega
          have ey : Hid (decide (s < mid) = false) := decide_eq_false hy
          go_wp2
          go_meet
          exact ⟨by rw [ex.out, ey.out]; rfl, S3⟩
      · have qx : ¬ (a : Int) < (s : Int) := by omega
        have ex : Hid (decide (a < s) = false) := decide_eq_false hx
        go_wp2
        go_meet
        exact ⟨by rw [ex.out]; rfl, S3⟩
    case rest =>
    obtain ⟨rfl, S5⟩ := hcut
    clear S3
    obtain ⟨cb2, hcb⟩ : ∃ cb, (decide (a < s) && decide (s < mid)) = cb := ⟨_, rfl⟩
    have CB := Lib.hid hcb
    rw [hcb]
    clear hcb
    go_upto_if 199 with fail
    go_cut [] (fun wx => ∃ d2 : Array Nat, Hid (SI w0 wx g d2 n) ∧ Hid (Mh c a b mid e d d2))
    case first =>
      cases cb2 with
      | true =>
        have hc : a < s ∧ s < mid := by have := CB.out; simpa using this
        have D1 := Lib.hid (HIH.out a s mid hc.1 hc.2 (by have := HM.out; have := HE.out; omega) (by have := HM.out; have := HE.out; omega) d1 _ S5.out M3.out.las M3.out.lbs M3.out.lft)
        clear hc
        go_wp2_with fail
        refine D1.out.mono ?_
        rintro e1 w5 ⟨rfl, d5, hs5, hr5, hp5⟩
        have S6 := Lib.hid hs5
        have M5 := Lib.hid (mh_of SZ.out HM.out.2.2.1 HE.out.2.2.2.2.2.1 HE.out.2.2.2.2.2.2.1 HE.out.2.2.2.2.2.2.2.2.1 M3.out hr5 hp5)
        clear D1 hs5 hr5 hp5
        go_wp2
        go_meet
        exact ⟨d5, S6, M5⟩
      | false =>
        have hc : ¬ (a < s ∧ s < mid) := by have := CB.out; simpa using this
        have hA : Asc c a mid (at_ d1) := by
          by_cases hx : a < s
          · have h := M3.out.las; rw [show s = mid by have := HE.out; omega] at h; exact h
          · have h := M3.out.lbs; rw [show s = a by have := HE.out; omega] at h; exact h
        have M5 := Lib.hid (mh_of SZ.out HM.out.2.2.1 HE.out.2.2.2.2.2.1 HE.out.2.2.2.2.2.2.1 HE.out.2.2.2.2.2.2.2.2.1 M3.out hA (permIn_refl d1 a mid))
        clear hc hA
        go_wp2
        go_meet
        exact ⟨d1, S5, M5⟩
    case rest =>
      obtain ⟨d2, S4, M4⟩ := hcut
      clear S5 M3 CB
      by_cases hx : mid < e
      · have qx : (mid : Int) < (e : Int) := by omega
        by_cases hy : e < b
        · have qy : (e : Int) < (b : Int) := by omega
          have D1 := Lib.hid (HIH.out mid e b hx hy (by have := HM.out; omega) (by have := HM.out; have := HE.out; omega) d2 _ S4.out M4.out.ras M4.out.rbs M4.out.rft)
          go_wp2_with fail
          refine D1.out.mono ?_
          rintro e1 w5 ⟨rfl, d5, hs5, hr5, hp5⟩
          have S5 := Lib.hid hs5
          have M5 := Lib.hid (mh_end SZ.out HM.out.2.2.1 HE.out.2.2.2.2.2.1 HE.out.2.2.2.2.2.2.1 M4.out hr5 hp5)
          clear D1 hs5 hr5 hp5
          go_wp2
          go_end0
          exact HQ.out _ d5 S5.out M5.out.1 M5.out.2
        · have qy : ¬ (e : Int) < (b : Int) := by omega
          have M5 := Lib.hid (mh_end SZ.out HM.out.2.2.1 HE.out.2.2.2.2.2.1 HE.out.2.2.2.2.2.2.1 M4.out (by have h := M4.out.ras; rw [show e = b by have := HE.out; omega] at h; exact h) (permIn_refl d2 mid b))
          go_wp2
          go_end0
          exact HQ.out _ d2 S4.out M5.out.1 M5.out.2
      · have qx : ¬ (mid : Int) < (e : Int) := by omega
        have M5 := Lib.hid (mh_end SZ.out HM.out.2.2.1 HE.out.2.2.2.2.2.1 HE.out.2.2.2.2.2.2.1 M4.out (by have h := M4.out.rbs; rw [show e = mid by have := HE.out; omega] at h; exact h) (permIn_refl d2 mid b))
        go_wp2
        go_end0
        exact HQ.out _ d2 S4.out M5.out.1 M5.out.2
end Go.Proofs.Ytkljagffccommaa
